/- The contracts of package queue's lanes. -/
import Derived.Test.YtdjeacmonlgdhaaQdT
namespace Go.Proofs.Ytdjeacmonlgdhaa
open Go Go.RowKit
set_option linter.unusedVariables false
set_option linter.unusedSimpArgs false

theorem newL_yes (size : Nat) (h : size ≤ 4096) (w : World) : Calls Try.prog 24 #[.int .i64 size] w fun e w' => ∃ l F, e = .returned (.tuple #[.pointer (some ⟨l, 0, none⟩), .nilIface]) ∧ LSt w' w.heap.size F l size [] [] [] [] ∧ Below w.heap.size w w' := newL_q size h w
theorem newL_no (size : Int) (h : size < 0 ∨ 4096 < size) (w : World) : Calls Try.prog 24 #[.int .i64 size] w fun e w' => e = .returned (.tuple #[.pointer none, errnoQ 4]) ∧ Below w.heap.size w w' := newL_q_no size h w
theorem urgent_t (B : Nat) (F : Nat → Prop) (l size : Nat) (us : List Value) (pu : List (List Int)) (vs : List Value) (pp : List (List Int)) (rs : List Value) (qs : List (List Int)) (ao : Option Addr) (n c : Nat) (w : World) (hL : LSt w B F l size us pu vs pp) (hB : B ≤ w.heap.size) (hI : ∀ w', Tch F w w' → RsP w' ao n rs qs) (hn : n ≤ 1048576) (hp : ∀ p ∈ qs, p.length ≤ 1048576) :
    Calls Try.prog 25 #[.pointer (some ⟨l, 0, none⟩), .slice ao n c] w (LUrg w B F l size us pu vs pp qs) := urgent_q B F l size us pu vs pp rs qs ao n c w hL hB hI hn hp
theorem plain_t (B : Nat) (F : Nat → Prop) (l size : Nat) (us : List Value) (pu : List (List Int)) (vs : List Value) (pp : List (List Int)) (rs : List Value) (qs : List (List Int)) (ao : Option Addr) (n c : Nat) (w : World) (hL : LSt w B F l size us pu vs pp) (hB : B ≤ w.heap.size) (hI : ∀ w', Tch F w w' → RsP w' ao n rs qs) (hn : n ≤ 1048576) (hp : ∀ p ∈ qs, p.length ≤ 1048576) :
    Calls Try.prog 26 #[.pointer (some ⟨l, 0, none⟩), .slice ao n c] w (LPla w B F l size us pu vs pp qs) := plain_q B F l size us pu vs pp rs qs ao n c w hL hB hI hn hp
theorem lgetU_t (B : Nat) (F : Nat → Prop) (l size : Nat) (u : Value) (ut : List Value) (p : List Int) (pt : List (List Int)) (vs : List Value) (pp : List (List Int)) (w : World) (hL : LSt w B F l size (u :: ut) (p :: pt) vs pp) :
    Calls Try.prog 27 #[.pointer (some ⟨l, 0, none⟩)] w (LGot w B F l size u p true ut pt vs pp) := lgetU_q B F l size u ut p pt vs pp w hL
theorem lgetP_t (B : Nat) (F : Nat → Prop) (l size : Nat) (u : Value) (ut : List Value) (p : List Int) (pt : List (List Int)) (w : World) (hL : LSt w B F l size [] [] (u :: ut) (p :: pt)) :
    Calls Try.prog 27 #[.pointer (some ⟨l, 0, none⟩)] w (LGot w B F l size u p false [] [] ut pt) := lgetP_q B F l size u ut p pt w hL
theorem lget0_t (B : Nat) (F : Nat → Prop) (l size : Nat) (w : World) (hL : LSt w B F l size [] [] [] []) :
    Calls Try.prog 27 #[.pointer (some ⟨l, 0, none⟩)] w fun e w' => e = .returned (.tuple #[.slice none 0 0, .bool false, .bool false]) ∧ Tch Non w w' := lget0_q B F l size w hL
theorem ltake_t (B : Nat) (F : Nat → Prop) (l size : Nat) (us : List Value) (pu : List (List Int)) (vs : List Value) (pp : List (List Int)) (n : Int) (hn : -9223372036854775808 ≤ n ∧ n ≤ 9223372036854775807) (w : World) (hL : LSt w B F l size us pu vs pp) (hs : size ≤ 4096) :
    Calls Try.prog 29 #[.pointer (some ⟨l, 0, none⟩), .int .i64 n] w (LTak w B F l size us pu vs pp (tkn n (pu.length + pp.length))) := ltake_q B F l size us pu vs pp n hn w hL hs
theorem llen_t (B : Nat) (F : Nat → Prop) (l size : Nat) (us : List Value) (pu : List (List Int)) (vs : List Value) (pp : List (List Int)) (w : World) (hL : LSt w B F l size us pu vs pp) (hs : size ≤ 4096) :
    Calls Try.prog 31 #[.pointer (some ⟨l, 0, none⟩)] w fun e w' => e = .returned (.int .i64 ((pu.length + pp.length : Nat) : Int)) ∧ Tch Non w w' := llen_q B F l size us pu vs pp w hL hs
end Go.Proofs.Ytdjeacmonlgdhaa
