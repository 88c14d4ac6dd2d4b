/- Contract of towpathnum's Ints. Conditions: the rows came in. -/
import Derived.Test.YtlmkmbpikhagiaaRowI
import Derived.LoopTactic
import Derived.Deep.QuietTactic
namespace Go.Proofs.Ytlmkmbpikhagiaa
open Go Go.RowKit
set_option linter.unusedVariables false
set_option linter.unusedSimpArgs false

theorem take_step {l m : List Int} {j : Nat} (h : l.take j = m.take j) (hl : j < l.length) (hm : j < m.length) (e : l.getD j 0 = m.getD j 0) : l.take (j + 1) = m.take (j + 1) := by
  rw [take_more l 0 hl, take_more m 0 hm, h, e]
theorem take_end {l m : List Int} {j n : Nat} (h : l.take j = m.take j) (hl : l.length = n) (hm : m.length = n) (hj : ¬ j < n) : l = m := by
  rwa [List.take_of_length_le (by omega), List.take_of_length_le (by omega)] at h
theorem differ {l m : List Int} {j : Nat} (e : l.getD j 0 ≠ m.getD j 0) : l ≠ m := fun h => e (by rw [h])
set_option maxRecDepth 100000 in
set_option maxHeartbeats 1000000 in
theorem ints_any (l m : List Int) (a b : Option Addr) (n c k d : Nat) (w : World) (hI : InI w a n c l) (hJ : InI w b k d m) (hn : n ≤ 4611686018427387904) (z : Bool) (hz : z = true ↔ l = m) :
    Calls Try.prog 32 #[.slice a n c, .slice b k d] w fun e w' => e = .returned (.bool z) ∧ Below w.heap.size w w' := by
  have HI := Lib.hid hI
  have HJ := Lib.hid hJ
  have HZ := Lib.hid hz
  have HB0 := Lib.hid (Below.refl w.heap.size w)
  by_cases hk : n = k
  · subst hk
    clear hI hJ hz
    go_enter Try.func32, Try.ntmps32
    go_wp2
    go_loopw [5, 13] (fun v i wr => ∃ j : Nat, j ≤ n ∧ i = .int .i64 j ∧ Hid (l.take j = m.take j) ∧ Hid (Below w.heap.size w wr)) (fun _ i _ => n - (intOf i).toNat)
    case atStart => exact ⟨0, by omega, rfl, Lib.hid rfl, HB0⟩
    case round =>
      obtain ⟨j, hj, rfl, hE, hB⟩ := hrel
      clear HB0
      by_cases hlj : j < n
      · obtain ⟨b1, o1, rfl⟩ := in_blockI HI.out (by omega)
        obtain ⟨b2, o2, rfl⟩ := in_blockI HJ.out (by omega)
        have c1 := in_cellI (HI.out.below hB.out) j hlj
        have c2 := in_cellI (HJ.out.below hB.out) j hlj
        have ilj : (j : Int) < (n : Int) := by omega
        have hdj : decide ((j : Int) < (n : Int)) = true := decide_eq_true ilj
        have j0 : (0 : Int) ≤ (j : Int) := by omega
        by_cases e : l.getD j 0 = m.getD j 0
        · have HS := Lib.hid (take_step hE.out (by rw [HI.out.len]; exact hlj) (by rw [HJ.out.len]; exact hlj) e)
          rw [← e] at c2
          obtain ⟨x, hx⟩ : ∃ x, x = l.getD j 0 := ⟨_, rfl⟩
          rw [← hx] at c1 c2
          have qx : (x != x) = false := by simp
          clear hx e
          go_wp2
          go_quiet (fail)
          go_wp2
          go_roundw
          case rel => exact ⟨j + 1, by omega, by go_num, HS, Lib.hid (below_drewN hB.out _)⟩
          case measure => simp [intOf]; omega
        · have hzf : z = false := by
            cases hzz : z with
            | false => rfl
            | true => exact absurd (HZ.out.1 hzz) (differ e)
          obtain ⟨x, hx⟩ : ∃ x, x = l.getD j 0 := ⟨_, rfl⟩
          obtain ⟨y, hy⟩ : ∃ y, y = m.getD j 0 := ⟨_, rfl⟩
          rw [← hx] at c1
          rw [← hy] at c2
          have qx : (x != y) = true := by rw [hx, hy]; simpa using e
          have HZF := Lib.hid hzf
          clear hx hy e hzf
          go_wp2
          go_quiet (fail)
          go_wp2
          go_ret
          exact ⟨congrArg (fun z => Ending.returned (Value.bool z)) HZF.out.symm, below_drewN hB.out _⟩
      · have hzt : z = true := HZ.out.2 (take_end hE.out HI.out.len HJ.out.len hlj)
        have HZT := Lib.hid hzt
        have ilj : ¬ ((j : Int) < (n : Int)) := by omega
        clear hzt
        go_wp2
        go_ret
        exact ⟨congrArg (fun z => Ending.returned (Value.bool z)) HZT.out.symm, hB.out⟩
  · have hzf : z = false := by
      cases hzz : z with
      | false => rfl
      | true => exact absurd (by rw [← hI.len, ← hJ.len, hz.1 hzz]) hk
    subst hzf
    have qk : ((n : Int) != (k : Int)) = true := by simp; omega
    clear hI hJ hz hk
    go_enter Try.func32, Try.ntmps32
    go_wp2
    go_ret
    exact ⟨rfl, HB0.out⟩

end Go.Proofs.Ytlmkmbpikhagiaa
