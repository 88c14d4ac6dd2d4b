/- The contracts of package fabric. -/
import Derived.Test.YtkiccdgfhahdlaaFdJ
namespace Go.Proofs.Ytkiccdgfhahdlaa
open Go Go.RowKit
set_option linter.unusedVariables false
set_option linter.unusedSimpArgs false

theorem fnew_t (w : World) : Calls Try.prog 11 #[] w fun e w' => ∃ f F, e = .returned (.pointer (some ⟨f, 0, none⟩)) ∧ FSt w' w.heap.size F f [] 0 ∧ Below w.heap.size w w' := fnew_c w
theorem fsend_t (B f last : Nat) (F : Nat → Prop) (ls : List Lt) (frm dst : Int) (ctl : Bool) (bs : List Int) (a : Option Addr) (k c : Nat) (w : World) (hL : FSt w B F f ls last) (hB : B ≤ w.heap.size) (h4 : ls.length ≤ 4096) (hl : last ≤ 1000000) (hf : I64 frm) (hd : I64 dst) (hI : ∀ w', Tch F w w' → In w' a k c bs) (hk : k ≤ 1048576) :
    Calls Try.prog 13 #[.pointer (some ⟨f, 0, none⟩), .int .i64 frm, .int .i64 dst, .bool ctl, .slice a k c] w (FSnt w B F f (sendR ls last frm dst ctl bs)) := fsend_c B f last F ls frm dst ctl bs a k c w hL hB h4 hl hf hd (hI w (Tch.refl _ _)) hk
theorem fcopy_t (B f last : Nat) (F : Nat → Prop) (ls : List Lt) (n : Int) (w : World) (hL : FSt w B F f ls last) (hB : B ≤ w.heap.size) (h4 : ls.length ≤ 4096) (hl : last ≤ 1000000) (hn : I64 n) (hp : ∀ l ∈ ls, l.bs.length ≤ 1048576) :
    Calls Try.prog 21 #[.pointer (some ⟨f, 0, none⟩), .int .i64 n] w (FSnt w B F f (copyR ls last n)) := fcopy_c B f last F ls n w hL hB h4 hl
theorem ftake_t (B f last : Nat) (F : Nat → Prop) (ls : List Lt) (n : Int) (w : World) (hL : FSt w B F f ls last) (hB : B ≤ w.heap.size) (h4 : ls.length ≤ 4096) (hn : I64 n) (hp : ∀ l ∈ ls, l.bs.length ≤ 1048576) :
    Calls Try.prog 18 #[.pointer (some ⟨f, 0, none⟩), .int .i64 n] w (FTke w B F f (nthR ls n) (leftR ls n) last) := ftake_c B f last F ls n w hL hB h4 hn hp
theorem fnth_t (B f last : Nat) (F : Nat → Prop) (ls : List Lt) (n : Int) (w : World) (hL : FSt w B F f ls last) (h4 : ls.length ≤ 4096) (hn : I64 n) (hp : ∀ l ∈ ls, l.bs.length ≤ 1048576) :
    Calls Try.prog 23 #[.pointer (some ⟨f, 0, none⟩), .int .i64 n] w (FNth w (nthR ls n)) := fnth_c B f last F ls n w hL h4 hn hp
theorem flen_t (B f last : Nat) (F : Nat → Prop) (ls : List Lt) (w : World) (hL : FSt w B F f ls last) :
    Calls Try.prog 29 #[.pointer (some ⟨f, 0, none⟩)] w fun e w' => e = .returned (.int .i64 ls.length) ∧ Tch Non w w' := (flen_c B f last F ls w hL).mono (fun e w' h => ⟨h.1, by rw [← h.2]; exact Tch.refl _ _⟩)
theorem fbetween_t (B f last : Nat) (F : Nat → Prop) (ls : List Lt) (frm dst : Int) (w : World) (hL : FSt w B F f ls last) (h4 : ls.length ≤ 4096) (hf : I64 frm) (hd : I64 dst) :
    Calls Try.prog 26 #[.pointer (some ⟨f, 0, none⟩), .int .i64 frm, .int .i64 dst] w (GotB w (btw ls frm dst)) := fbetween_c B f last F ls frm dst w hL h4
theorem fwaiting_t (B f last : Nat) (F : Nat → Prop) (ls : List Lt) (w : World) (hL : FSt w B F f ls last) (h4 : ls.length ≤ 4096) (hp : ∀ l ∈ ls, l.bs.length ≤ 1048576) :
    Calls Try.prog 28 #[.pointer (some ⟨f, 0, none⟩)] w (FWtg w ls) := fwaiting_c B f last F ls w hL h4 hp
/- A nil fabric. -/
theorem fsendN_t (frm dst : Int) (hf : IsNode frm) (hd : IsNode dst) (ctl : Bool) (bs : List Int) (a : Option Addr) (k c : Nat) (w : World) (hI : In w a k c bs) (hk : k ≤ 140737488351232) :
    Calls Try.prog 13 #[.pointer none, .int .i64 frm, .int .i64 dst, .bool ctl, .slice a k c] w fun e w' => (∃ v, e = .returned (.tuple #[v, errnoF 5])) ∧ Below w.heap.size w w' := fsendN_c frm dst hf hd ctl bs a k c w
theorem fcopyN_t (n : Int) (hn : I64 n) (w : World) : Calls Try.prog 21 #[.pointer none, .int .i64 n] w fun e w' => (∃ v, e = .returned (.tuple #[v, errnoF 6])) ∧ Below w.heap.size w w' := fcopyN_c n hn w
theorem ftakeN_t (n : Int) (hn : I64 n) (w : World) : Calls Try.prog 18 #[.pointer none, .int .i64 n] w fun e w' => (∃ a c, e = .returned (.tuple #[lt0.val (.slice a 0 c), errnoF 6])) ∧ Below w.heap.size w w' := ftakeN_c n w
theorem fnthN_t (n : Int) (hn : I64 n) (w : World) : Calls Try.prog 23 #[.pointer none, .int .i64 n] w fun e w' => (∃ a c, e = .returned (.tuple #[lt0.val (.slice a 0 c), errnoF 6])) ∧ Below w.heap.size w w' := (fnthN_c n w).mono (by
  rintro e w' ⟨v, rfl, ho, hb⟩
  obtain ⟨a, c, rfl⟩ := own_form ho
  exact ⟨⟨a, c, rfl⟩, hb⟩)
theorem flenN_t (w : World) : Calls Try.prog 29 #[.pointer none] w fun e w' => e = .returned (.int .i64 0) ∧ Below w.heap.size w w' := (flenN_c w).mono (fun e w' h => ⟨h.1, by rw [← h.2]; exact Below.refl _ _⟩)
theorem fbetweenN_t (frm dst : Int) (w : World) : Calls Try.prog 26 #[.pointer none, .int .i64 frm, .int .i64 dst] w fun e w' => (∃ a c, e = .returned (.slice a 0 c)) ∧ Below w.heap.size w w' := fbetweenN_c frm dst w
theorem fwaitingN_t (w : World) : Calls Try.prog 28 #[.pointer none] w fun e w' => (∃ a c, e = .returned (.slice a 0 c)) ∧ Below w.heap.size w w' := fwaitingN_c w
end Go.Proofs.Ytkiccdgfhahdlaa
