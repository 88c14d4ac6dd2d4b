/- Contracts of the document's Good and Reverse. No conditions. -/
import Derived.Test.YtolkheelmmgnbaaDoorB1
namespace Go.Proofs.YtolkheelmmgnbaaDoor
open Go Go.RowKit

set_option maxRecDepth 100000 in
theorem refReverse (f : Fl) (w : World) :
    Calls Tryd.prog 25 #[f.val] w fun e w' => e = .returned (.agg #[.int .i64 f.p, .int .u32 f.d, .int .i64 f.dp, .int .u32 f.s, .int .i64 f.sp]) ∧ Below w.heap.size w w' := by
  go_enter Tryd.func25, Tryd.ntmps25
  go_wp2
  exact bodyPost_ret (v := .agg #[.int .i64 f.p, .int .u32 f.d, .int .i64 f.dp, .int .u32 f.s, .int .i64 f.sp]) (by simp [results, Tryd.results25, go_sem]) rfl ⟨rfl, bl_al (bl_al (bl_al (Below.refl _ _) _) _) _⟩

theorem ret_good {f : Fl} {b : Bool} (h : b = true ↔ ((f.p = 6 ∨ f.p = 17) ∧ (0 ≤ f.sp ∧ f.sp ≤ 65535) ∧ (0 ≤ f.dp ∧ f.dp ≤ 65535))) : Ending.returned (.bool b) = .returned (.bool f.good) := by
  have e : b = f.good := by
    unfold Fl.good
    rw [Bool.eq_iff_iff, h, decide_eq_true_iff]
  rw [e]

set_option maxRecDepth 100000 in
theorem refGood (f : Fl) (w : World) :
    Calls Tryd.prog 23 #[f.val] w fun e w' => e = .returned (.bool f.good) ∧ Below w.heap.size w w' := by
  rcases Decidable.em (f.p = 6) with h | h
  · have q1 : (f.p == 6) = true := by simp [h]
    go_enter Tryd.func23, Tryd.ntmps23
    go_wp2
    all_goals (go_ret; refine ⟨ret_good ?_, bl_al (Below.refl _ _) _⟩; simp; omega)
  · have q1 : (f.p == 6) = false := by simp [h]
    rcases Decidable.em (f.p = 17) with h2 | h2
    · have q2 : (f.p == 17) = true := by simp [h2]
      go_enter Tryd.func23, Tryd.ntmps23
      go_wp2
      all_goals (go_ret; refine ⟨ret_good ?_, bl_al (Below.refl _ _) _⟩; simp; omega)
    · have q2 : (f.p == 17) = false := by simp [h2]
      go_enter Tryd.func23, Tryd.ntmps23
      go_wp2
      all_goals (go_ret; refine ⟨ret_good ?_, bl_al (Below.refl _ _) _⟩; simp; omega)
end Go.Proofs.YtolkheelmmgnbaaDoor
