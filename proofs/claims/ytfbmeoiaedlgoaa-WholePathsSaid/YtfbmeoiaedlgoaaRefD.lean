/- Contracts of the document's Good of a flow and of a packet. Condition: the row's length is at most 2^62. -/
import Derived.Test.YtfbmeoiaedlgoaaPkB
namespace Go.Proofs.Ytfbmeoiaedlgoaa
open Go Go.RowKit
set_option linter.unusedVariables false
set_option linter.unusedSimpArgs false

set_option maxRecDepth 100000 in
theorem refFlow_ok (p : Pk) (h : FlowOk p) (w : World) : Calls Try.prog 52 #[p.flow] w fun e w' => e = .returned (.bool true) ∧ Below w.heap.size w w' := by
  obtain ⟨hp, hs, hd⟩ := h
  have s1 : (0 : Int) ≤ p.sp := hs.1
  have s2 : p.sp < 65536 := by omega
  have d1 : (0 : Int) ≤ p.dp := hd.1
  have d2 : p.dp < 65536 := by omega
  have hq : ((p.proto == 6) = true) ∨ ((p.proto == 6) = false ∧ (p.proto == 17) = true) := by
    rcases hp with h | h
    · left; simp [h]
    · right; simp [h]
  clear hp hs hd
  rcases hq with q1 | ⟨q1, q2⟩
  all_goals
    go_enter Try.func52, Try.ntmps52
    go_wp2
    go_ret
    exact ⟨rfl, bl_al (Below.refl _ _) _⟩
set_option maxRecDepth 100000 in
theorem refFlow_no (p : Pk) (h : ¬ FlowOk p) (w : World) : Calls Try.prog 52 #[p.flow] w fun e w' => e = .returned (.bool false) ∧ Below w.heap.size w w' := by
  by_cases hp : p.proto = 6 ∨ p.proto = 17
  · have hq : ((p.proto == 6) = true) ∨ ((p.proto == 6) = false ∧ (p.proto == 17) = true) := by
      rcases hp with h | h
      · left; simp [h]
      · right; simp [h]
    have hr : (¬ 0 ≤ p.sp) ∨ (0 ≤ p.sp ∧ ¬ p.sp < 65536) ∨ (0 ≤ p.sp ∧ p.sp < 65536 ∧ ¬ 0 ≤ p.dp) ∨ (0 ≤ p.sp ∧ p.sp < 65536 ∧ 0 ≤ p.dp ∧ ¬ p.dp < 65536) := by
      by_cases h1 : 0 ≤ p.sp
      · by_cases h2 : p.sp < 65536
        · by_cases h3 : 0 ≤ p.dp
          · have : ¬ p.dp < 65536 := fun h4 => h ⟨hp, ⟨h1, by omega⟩, ⟨h3, by omega⟩⟩
            exact Or.inr (Or.inr (Or.inr ⟨h1, h2, h3, this⟩))
          · exact Or.inr (Or.inr (Or.inl ⟨h1, h2, h3⟩))
        · exact Or.inr (Or.inl ⟨h1, h2⟩)
      · exact Or.inl h1
    clear hp h
    rcases hq with q1 | ⟨q1, q2⟩ <;> rcases hr with s1 | ⟨s1, s2⟩ | ⟨s1, s2, d1⟩ | ⟨s1, s2, d1, d2⟩
    all_goals
      go_enter Try.func52, Try.ntmps52
      go_wp2
      go_ret
      exact ⟨rfl, bl_al (Below.refl _ _) _⟩
  · have q1 : (p.proto == 6) = false := by simp; omega
    have q2 : (p.proto == 17) = false := by simp; omega
    clear hp h
    go_enter Try.func52, Try.ntmps52
    go_wp2
    go_ret
    exact ⟨rfl, bl_al (Below.refl _ _) _⟩

end Go.Proofs.Ytfbmeoiaedlgoaa
