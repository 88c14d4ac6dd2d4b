/- The contracts of package queue. -/
import Derived.Test.YtdjeacmonlgdhaaQdN
import Derived.Test.YtdjeacmonlgdhaaQdQ
import Derived.Test.YtdjeacmonlgdhaaQdD
namespace Go.Proofs.Ytdjeacmonlgdhaa
open Go Go.RowKit
set_option linter.unusedVariables false
set_option linter.unusedSimpArgs false

theorem new_yes (size : Nat) (h : size ≤ 4096) (w : World) : Calls Try.prog 9 #[.int .i64 size] w fun e w' => ∃ q F, e = .returned (.tuple #[.pointer (some ⟨q, 0, none⟩), .nilIface]) ∧ QSt w' w.heap.size F q size [] [] ∧ Below w.heap.size w w' := new_q size h w
theorem new_no (size : Int) (h : size < 0 ∨ 4096 < size) (w : World) : Calls Try.prog 9 #[.int .i64 size] w fun e w' => e = .returned (.tuple #[.pointer none, errnoQ 4]) ∧ Below w.heap.size w w' := new_q_no size h w
theorem put_t (B : Nat) (F : Nat → Prop) (q size : Nat) (vs us : List Value) (ps qs : List (List Int)) (ao : Option Addr) (n c : Nat) (w : World) (hQ : QSt w B F q size vs ps) (hB : B ≤ w.heap.size) (hI : ∀ w', Tch F w w' → RsP w' ao n us qs) (hn : n ≤ 1048576) (hp : ∀ p ∈ qs, p.length ≤ 1048576) :
    Calls Try.prog 13 #[.pointer (some ⟨q, 0, none⟩), .slice ao n c] w (QPut w B F q size vs ps qs) := put_q B F q size vs us ps qs ao n c w hQ hB hI hn hp
theorem get_t (B : Nat) (F : Nat → Prop) (q size : Nat) (v : Value) (vt : List Value) (p : List Int) (pt : List (List Int)) (w : World) (hQ : QSt w B F q size (v :: vt) (p :: pt)) :
    Calls Try.prog 16 #[.pointer (some ⟨q, 0, none⟩)] w (QGet w B F q size vt p pt v) := get_q B F q size v vt p pt w hQ
theorem get0_t (B : Nat) (F : Nat → Prop) (q size : Nat) (w : World) (hQ : QSt w B F q size [] []) :
    Calls Try.prog 16 #[.pointer (some ⟨q, 0, none⟩)] w fun e w' => e = .returned (.tuple #[.slice none 0 0, .bool false]) ∧ Tch Non w w' := get0_q B F q size w hQ
theorem len_t (B : Nat) (F : Nat → Prop) (q size : Nat) (vs : List Value) (ps : List (List Int)) (w : World) (hQ : QSt w B F q size vs ps) :
    Calls Try.prog 22 #[.pointer (some ⟨q, 0, none⟩)] w fun e w' => e = .returned (.int .i64 ps.length) ∧ Tch Non w w' := len_qq B F q size vs ps w hQ
theorem room_t (B : Nat) (F : Nat → Prop) (q size : Nat) (vs : List Value) (ps : List (List Int)) (w : World) (hQ : QSt w B F q size vs ps) (hs : size ≤ 4096) :
    Calls Try.prog 23 #[.pointer (some ⟨q, 0, none⟩)] w fun e w' => e = .returned (.int .i64 (size - ps.length : Nat)) ∧ Tch Non w w' := room_qq B F q size vs ps w hQ hs
theorem drain_t (B : Nat) (F : Nat → Prop) (q size : Nat) (vs : List Value) (ps : List (List Int)) (w : World) (hQ : QSt w B F q size vs ps) (hs : size ≤ 4096) :
    Calls Try.prog 20 #[.pointer (some ⟨q, 0, none⟩)] w (QDrn w B F q size vs ps) := drain_q B F q size vs ps w hQ hs
end Go.Proofs.Ytdjeacmonlgdhaa
