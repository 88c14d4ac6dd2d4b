/- New; a nil fabric's Send, Between, Waiting. -/
import Derived.Test.YtkiccdgfhahdlaaFdG
namespace Go.Proofs.Ytkiccdgfhahdlaa
open Go Go.RowKit
set_option linter.unusedVariables false
set_option linter.unusedSimpArgs false

theorem fsendN_c (frm dst : Int) (hf : IsNode frm) (hd : IsNode dst) (ctl : Bool) (bs : List Int) (a : Option Addr) (k c : Nat) (w : World) :
    Calls Try.prog 13 #[.pointer none, .int .i64 frm, .int .i64 dst, .bool ctl, .slice a k c] w fun e w' => (∃ v, e = .returned (.tuple #[v, errnoF 5])) ∧ Below w.heap.size w w' :=
  (fsendF_c none frm dst ctl _ w hf hd (ffullN_c w)).mono (fun e w' h => ⟨⟨_, h.1⟩, by rw [← h.2]; exact Below.refl _ _⟩)
set_option maxRecDepth 100000 in
theorem fbetweenN_c (frm dst : Int) (w : World) : Calls Try.prog 26 #[.pointer none, .int .i64 frm, .int .i64 dst] w fun e w' => (∃ a c, e = .returned (.slice a 0 c)) ∧ Below w.heap.size w w' := by
  have HB := Lib.hid (Below.refl w.heap.size w)
  have CU := Lib.hid (fundN_c w)
  go_enter Try.func26, Try.ntmps26
  go_wp2_with fail
  refine CU.out.mono ?_
  rintro e w1 ⟨rfl, rfl⟩
  clear CU
  go_wp2
  go_loopw [7, 13] (fun v i wr => v = .slice none 0 0 ∧ i = .int .i64 0 ∧ wr = w) (fun _ i _ => 0)
  case atStart => exact ⟨rfl, rfl, rfl⟩
  case round =>
    obtain ⟨rfl, rfl, rfl⟩ := hrel
    go_wp2
    go_ret
    exact ⟨⟨_, _, rfl⟩, HB.out⟩
set_option maxRecDepth 100000 in
theorem fwaitingN_c (w : World) : Calls Try.prog 28 #[.pointer none] w fun e w' => (∃ a c, e = .returned (.slice a 0 c)) ∧ Below w.heap.size w w' := by
  have HB := Lib.hid (Below.refl w.heap.size w)
  have CU := Lib.hid (fundN_c w)
  go_enter Try.func28, Try.ntmps28
  go_wp2_with fail
  refine CU.out.mono ?_
  rintro e w1 ⟨rfl, rfl⟩
  clear CU
  go_wp2
  go_loopw [3, 9] (fun v i wr => v = .slice none 0 0 ∧ i = .int .i64 0 ∧ wr = w) (fun _ i _ => 0)
  case atStart => exact ⟨rfl, rfl, rfl⟩
  case round =>
    obtain ⟨rfl, rfl, rfl⟩ := hrel
    go_wp2
    go_ret
    exact ⟨⟨_, _, rfl⟩, HB.out⟩
set_option maxRecDepth 100000 in
theorem fnew_c (w : World) : Calls Try.prog 11 #[] w fun e w' => ∃ f F, e = .returned (.pointer (some ⟨f, 0, none⟩)) ∧ FSt w' w.heap.size F f [] 0 ∧ Below w.heap.size w w' := by
  go_enter Try.func11, Try.ntmps11
  go_wp2
  go_ret
  obtain ⟨W, hW⟩ : ∃ W, W = w.alloc (.cells #[.slice none 0 0, .int .i64 0] 69) := ⟨_, rfl⟩
  have hb : Below w.heap.size w W := by rw [hW]; exact bl_al (Below.refl _ _) _
  have hh : W.heap[w.heap.size]? = some (.cells #[.slice none 0 0, .int .i64 0] 69 (0, 0)) := by rw [hW]; exact heap_alloc_new w _
  refine ⟨w.heap.size, (· = w.heap.size), rfl, ?_, by rw [← hW]; exact hb⟩
  rw [← hW]
  exact ⟨none, 0, 0, [], ⟨by rw [cell_of_row W _ _ _ _ _ hh]; rfl, by rw [cell_of_row W _ _ _ _ _ hh]; rfl, fun o => frozen_of_row W _ o _ _ hh, Nat.le_refl _, World.ownsRow_nil _ _ _ _, trivial, fun v hv => by simp at hv, fun e => by cases e⟩, fun k => ⟨fun h => .inl h, fun h => by
    rcases h with h | h | ⟨v, hv, _⟩
    · exact h
    · cases h
    · simp at hv⟩⟩
end Go.Proofs.Ytkiccdgfhahdlaa
