/- Nodes: the document's Is. Conditions: those stated. -/
import Derived.Test.YtkiccdgfhahdlaaLtM
import Derived.Lib.Hide
import Derived.LoopTactic
import Derived.LoopN
namespace Go.Proofs.Ytkiccdgfhahdlaa
open Go Go.RowKit
set_option linter.unusedVariables false
set_option linter.unusedSimpArgs false

set_option maxHeartbeats 1000000 in
theorem is_yes (n : Int) (h : IsNode n) (w : World) : Calls Try.prog 37 #[.int .i64 n] w fun e w' => e = .returned (.bool true) ∧ w = w' := by
  rcases h with rfl | ⟨h0, h1⟩ | ⟨h0, h1⟩ | ⟨h0, h1⟩
  · go_enter Try.func37, Try.ntmps37
    go_wp2
    go_ret
    exact ⟨rfl, rfl⟩
  · have c : (n == 0) = false := by simp; omega
    have d1 : decide (n ≤ 23) = true := by simp; omega
    go_enter Try.func37, Try.ntmps37
    go_wp2
    go_ret
    exact ⟨rfl, rfl⟩
  · have c : (n == 0) = false := by simp; omega
    have d1 : decide (n ≤ 23) = false := by simp; omega
    have d2 : decide (n ≤ 39) = true := by simp; omega
    go_enter Try.func37, Try.ntmps37
    go_wp2
    go_ret
    exact ⟨rfl, rfl⟩
  · have c : (n == 0) = false := by simp; omega
    have d1 : decide (n ≤ 23) = false := by simp; omega
    have d2 : decide (n ≤ 39) = false := by simp; omega
    have d3 : decide (n ≤ 55) = true := by simp; omega
    go_enter Try.func37, Try.ntmps37
    go_wp2
    go_ret
    exact ⟨rfl, rfl⟩
set_option maxHeartbeats 1000000 in
theorem is_no (n : Int) (h : ¬ IsNode n) (w : World) : Calls Try.prog 37 #[.int .i64 n] w fun e w' => e = .returned (.bool false) ∧ w = w' := by
  have c : (n == 0) = false := by unfold IsNode at h; simp; omega
  have h' : n < 16 ∨ (23 < n ∧ n < 32) ∨ (39 < n ∧ n < 48) ∨ 55 < n := by unfold IsNode at h; omega
  clear h
  rcases h' with h0 | ⟨h0, h1⟩ | ⟨h0, h1⟩ | h0
  · go_enter Try.func37, Try.ntmps37
    go_wp2
    go_ret
    exact ⟨rfl, rfl⟩
  · have d1 : decide (n ≤ 23) = false := by simp; omega
    go_enter Try.func37, Try.ntmps37
    go_wp2
    go_ret
    exact ⟨rfl, rfl⟩
  · have d1 : decide (n ≤ 23) = false := by simp; omega
    have d2 : decide (n ≤ 39) = false := by simp; omega
    go_enter Try.func37, Try.ntmps37
    go_wp2
    go_ret
    exact ⟨rfl, rfl⟩
  · have d1 : decide (n ≤ 23) = false := by simp; omega
    have d2 : decide (n ≤ 39) = false := by simp; omega
    have d3 : decide (n ≤ 55) = false := by simp; omega
    go_enter Try.func37, Try.ntmps37
    go_wp2
    go_ret
    exact ⟨rfl, rfl⟩
end Go.Proofs.Ytkiccdgfhahdlaa
