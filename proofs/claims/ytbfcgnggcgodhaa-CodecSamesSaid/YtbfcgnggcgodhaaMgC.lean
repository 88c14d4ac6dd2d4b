/- Contracts of towpathnum's Ints and of the document's Same. Conditions: the rows came in. -/
import Derived.Test.YtbfcgnggcgodhaaMgB
namespace Go.Proofs.Ytbfcgnggcgodhaa
open Go Go.RowKit
set_option linter.unusedVariables false
set_option linter.unusedSimpArgs false

theorem take_step {l m : List Int} {j : Nat} (h : l.take j = m.take j) (hl : j < l.length) (hm : j < m.length) (e : l.getD j 0 = m.getD j 0) : l.take (j + 1) = m.take (j + 1) := by
  rw [take_more l 0 hl, take_more m 0 hm, h, e]
theorem take_end {l m : List Int} {j n : Nat} (h : l.take j = m.take j) (hl : l.length = n) (hm : m.length = n) (hj : ¬ j < n) : l = m := by
  rwa [List.take_of_length_le (by omega), List.take_of_length_le (by omega)] at h
theorem differ {l m : List Int} {j : Nat} (e : l.getD j 0 ≠ m.getD j 0) : l ≠ m := fun h => e (by rw [h])
set_option maxRecDepth 100000 in
set_option maxHeartbeats 1000000 in
theorem ints_any (l m : List Int) (a b : Option Addr) (n c k d : Nat) (w : World) (hI : InI w a n c l) (hJ : InI w b k d m) (hn : n ≤ 4611686018427387904) (z : Bool) (hz : z = true ↔ l = m) :
    Calls Try.prog 27 #[.slice a n c, .slice b k d] w fun e w' => e = .returned (.bool z) ∧ Below w.heap.size w w' := by
  have HI := Lib.hid hI
  have HJ := Lib.hid hJ
  have HZ := Lib.hid hz
  have HB0 := Lib.hid (Below.refl w.heap.size w)
  by_cases hk : n = k
  · subst hk
    clear hI hJ hz
    go_enter Try.func27, Try.ntmps27
    go_wp2
    go_loopw [5, 13] (fun v i wr => ∃ j : Nat, j ≤ n ∧ i = .int .i64 j ∧ Hid (l.take j = m.take j) ∧ Hid (Below w.heap.size w wr)) (fun _ i _ => n - (intOf i).toNat)
    case atStart => exact ⟨0, by omega, rfl, Lib.hid rfl, HB0⟩
    case round =>
      obtain ⟨j, hj, rfl, hE, hB⟩ := hrel
      clear HB0
      by_cases hlj : j < n
      · obtain ⟨b1, o1, rfl⟩ := in_blockI HI.out (by omega)
        obtain ⟨b2, o2, rfl⟩ := in_blockI HJ.out (by omega)
        have c1 := in_cellI (HI.out.below hB.out) j hlj
        have c2 := in_cellI (HJ.out.below hB.out) j hlj
        have ilj : (j : Int) < (n : Int) := by omega
        have hdj : decide ((j : Int) < (n : Int)) = true := decide_eq_true ilj
        have j0 : (0 : Int) ≤ (j : Int) := by omega
        by_cases e : l.getD j 0 = m.getD j 0
        · have HS := Lib.hid (take_step hE.out (by rw [HI.out.len]; exact hlj) (by rw [HJ.out.len]; exact hlj) e)
          rw [← e] at c2
          obtain ⟨x, hx⟩ : ∃ x, x = l.getD j 0 := ⟨_, rfl⟩
          rw [← hx] at c1 c2
          have qx : (x != x) = false := by simp
          clear hx e
          go_wp2
          go_quiet (fail)
          go_wp2
          go_roundw
          case rel => exact ⟨j + 1, by omega, by go_num, HS, Lib.hid (below_drewN hB.out _)⟩
          case measure => simp [intOf]; omega
        · have hzf : z = false := by
            cases hzz : z with
            | false => rfl
            | true => exact absurd (HZ.out.1 hzz) (differ e)
          obtain ⟨x, hx⟩ : ∃ x, x = l.getD j 0 := ⟨_, rfl⟩
          obtain ⟨y, hy⟩ : ∃ y, y = m.getD j 0 := ⟨_, rfl⟩
          rw [← hx] at c1
          rw [← hy] at c2
          have qx : (x != y) = true := by rw [hx, hy]; simpa using e
          have HZF := Lib.hid hzf
          clear hx hy e hzf
          go_wp2
          go_quiet (fail)
          go_wp2
          go_ret
          exact ⟨congrArg (fun z => Ending.returned (Value.bool z)) HZF.out.symm, below_drewN hB.out _⟩
      · have hzt : z = true := HZ.out.2 (take_end hE.out HI.out.len HJ.out.len hlj)
        have HZT := Lib.hid hzt
        have ilj : ¬ ((j : Int) < (n : Int)) := by omega
        clear hzt
        go_wp2
        go_ret
        exact ⟨congrArg (fun z => Ending.returned (Value.bool z)) HZT.out.symm, hB.out⟩
  · have hzf : z = false := by
      cases hzz : z with
      | false => rfl
      | true => exact absurd (by rw [← hI.len, ← hJ.len, hz.1 hzz]) hk
    subst hzf
    have qk : ((n : Int) != (k : Int)) = true := by simp; omega
    clear hI hJ hz hk
    go_enter Try.func27, Try.ntmps27
    go_wp2
    go_ret
    exact ⟨rfl, HB0.out⟩

set_option maxRecDepth 100000 in
set_option maxHeartbeats 2000000 in
theorem refSame_any (m r : Mg) (a : Option Addr) (n c : Nat) (b : Option Addr) (k d : Nat) (a' : Option Addr) (n' c' : Nat) (b' : Option Addr) (k' d' : Nat) (w : World) (hI : MIn w a n c b k d m) (hJ : MIn w a' n' c' b' k' d' r) (hn : n ≤ 4611686018427387904) (z : Bool) (hz : z = true ↔ m = r) :
    Calls Try.prog 20 #[mval m.kind a n c b k d, mval r.kind a' n' c' b' k' d'] w fun e w' => e = .returned (.bool z) ∧ Below w.heap.size w w' := by
  obtain ⟨W, hW⟩ : ∃ W, W = (w.alloc (mobj m.kind a n c b k d)).alloc (mobj r.kind a' n' c' b' k' d') := ⟨_, rfl⟩
  have hs1 : (w.alloc (mobj m.kind a n c b k d)).heap.size = w.heap.size + 1 := by simp
  have HM : Hid (MAt W w.heap.size m.kind a n c b k d) := Lib.hid (by rw [hW]; exact (MAt.new w m.kind a n c b k d).below (bl_al (Below.refl _ _) _) (by omega))
  have HR : Hid (MAt W (w.heap.size + 1) r.kind a' n' c' b' k' d') := Lib.hid (by rw [hW, ← hs1]; exact MAt.new _ _ _ _ _ _ _ _)
  have HBW : Hid (Below w.heap.size w W) := Lib.hid (by rw [hW]; exact bl_al (bl_al (Below.refl _ _) _) _)
  have HSZ : Hid (W.heap.size = w.heap.size + 2) := Lib.hid (by rw [hW]; simp)
  have HIW := Lib.hid (hI.below HBW.out)
  have HJW := Lib.hid (hJ.below HBW.out)
  have HW := Lib.hid hW
  have HZ := Lib.hid hz
  have hno : (m.kind = r.kind ∧ m.nums.length = r.nums.length ∧ m.data = r.data → False) → z = false := fun h => by
    cases hzz : z with
    | false => rfl
    | true => exact absurd (by rw [hz.1 hzz]; exact ⟨rfl, rfl, rfl⟩) h
  have HNO := Lib.hid hno
  clear hI hJ hW hz hs1 hno
  obtain ⟨q0, hq0⟩ : ∃ q, q = w.heap.size := ⟨_, rfl⟩
  obtain ⟨q1, hq1⟩ : ∃ q, q = w.heap.size + 1 := ⟨_, rfl⟩
  rw [← hq0] at HM
  rw [← hq1] at HR
  have HQ0 := Lib.hid hq0
  have HQ1 := Lib.hid hq1
  clear hq0 hq1
  have sA := str_of HIW.out.data.here HIW.out.data.len
  have sB := str_of HJW.out.data.here HJW.out.data.len
  obtain ⟨e0, e1, e2⟩ := HM.out
  obtain ⟨f0, f1, f2⟩ := HR.out
  have sq := str_eq HIW.out.data.fit HJW.out.data.fit
  obtain ⟨s, hs⟩ : ∃ s, s = strOfNums m.data := ⟨_, rfl⟩
  obtain ⟨t, ht⟩ : ∃ s, s = strOfNums r.data := ⟨_, rfl⟩
  rw [← hs] at sA sq
  rw [← ht] at sB sq
  clear hs ht
  by_cases hk : m.kind = r.kind
  · have qk : (m.kind != r.kind) = false := by simpa using hk
    by_cases hnn : n = n'
    · have qn : ((n : Int) != (n' : Int)) = false := by simp [hnn]
      by_cases hd : m.data = r.data
      · have qd : (s.toList == t.toList) = true := by simp [sq, same, hd]
        have HB0 := Lib.hid (Below.refl W.heap.size W)
        have HEQ : Hid (m.nums = r.nums → z = true) := Lib.hid (fun h => HZ.out.2 (by
          obtain ⟨mk, mn, md⟩ := m
          obtain ⟨rk, rn, rd⟩ := r
          simp only at hk hd h
          rw [hk, hd, h]))
        have HNE : Hid (m.nums ≠ r.nums → z = false) := Lib.hid (fun h => by
          cases hzz : z with
          | false => rfl
          | true => exact absurd (by rw [HZ.out.1 hzz]) h)
        subst hnn
        clear hk hd qn HNO sq
        go_enter Try.func20, Try.ntmps20
        go_upto_region 1 with fail
        rw [← HW.out, ← HQ1.out, ← HQ0.out]
        clear HW
        go_wp2
        go_loopw [5] (fun i wr => ∃ j : Nat, j ≤ n ∧ i = .int .i64 j ∧ Hid (m.nums.take j = r.nums.take j) ∧ Hid (Below W.heap.size W wr)) (fun i _ => n - (intOf i).toNat)
        case atStart => exact ⟨0, by omega, rfl, Lib.hid rfl, HB0⟩
        case round =>
          obtain ⟨j, hj, rfl, hE, hB⟩ := hrel
          clear HB0 sA sB e0 e1 e2 f0 f1 f2 qk qd
          obtain ⟨e0, e1, e2⟩ := HM.out.below hB.out HM.out.lt
          obtain ⟨f0, f1, f2⟩ := HR.out.below hB.out HR.out.lt
          by_cases hlj : j < n
          · obtain ⟨b1, o1, rfl⟩ := in_blockI HIW.out.nums (by omega)
            obtain ⟨b2, o2, rfl⟩ := in_blockI HJW.out.nums (by omega)
            have c1 := in_cellI (HIW.out.nums.below hB.out) j hlj
            have c2 := in_cellI (HJW.out.nums.below hB.out) j hlj
            have ilj : (j : Int) < (n : Int) := by omega
            have hdj : decide ((j : Int) < (n : Int)) = true := decide_eq_true ilj
            have j0 : (0 : Int) ≤ (j : Int) := by omega
            by_cases e : m.nums.getD j 0 = r.nums.getD j 0
            · have HS := Lib.hid (take_step hE.out (by rw [HIW.out.nums.len]; exact hlj) (by rw [HJW.out.nums.len]; exact hlj) e)
              rw [← e] at c2
              obtain ⟨x, hx⟩ : ∃ x, x = m.nums.getD j 0 := ⟨_, rfl⟩
              rw [← hx] at c1 c2
              have qx : (x != x) = false := by simp
              clear hx e
              go_wp2
              go_quiet (fail)
              go_wp2
              go_roundw
              case rel => exact ⟨j + 1, by omega, by go_num, HS, Lib.hid (below_drewN hB.out _)⟩
              case measure => simp [intOf]; omega
            · have HZF := Lib.hid (HNE.out (differ e))
              obtain ⟨x, hx⟩ : ∃ x, x = m.nums.getD j 0 := ⟨_, rfl⟩
              obtain ⟨y, hy⟩ : ∃ y, y = r.nums.getD j 0 := ⟨_, rfl⟩
              rw [← hx] at c1
              rw [← hy] at c2
              have qx : (x != y) = true := by rw [hx, hy]; simpa using e
              clear hx hy e
              go_wp2
              go_quiet (fail)
              go_wp2
              go_ret
              exact ⟨congrArg (fun z => Ending.returned (Value.bool z)) HZF.out.symm, HBW.out.trans ((below_drewN hB.out _).mono HBW.out.size)⟩
          · have HZT := Lib.hid (HEQ.out (take_end hE.out HIW.out.nums.len HJW.out.nums.len hlj))
            have ilj : ¬ ((j : Int) < (n : Int)) := by omega
            go_wp2
            go_ret
            exact ⟨congrArg (fun z => Ending.returned (Value.bool z)) HZT.out.symm, HBW.out.trans (hB.out.mono HBW.out.size)⟩
      · have qd : (s.toList == t.toList) = false := by simp [sq, same, hd]
        have HZF := Lib.hid (HNO.out (fun h => hd h.2.2))
        clear hk hnn hd HNO sq
        go_enter Try.func20, Try.ntmps20
        go_upto_region 1 with fail
        rw [← HW.out, ← HQ1.out, ← HQ0.out]
        clear HW
        go_wp2
        go_ret
        exact ⟨congrArg (fun z => Ending.returned (Value.bool z)) HZF.out.symm, HBW.out⟩
    · have qn : ((n : Int) != (n' : Int)) = true := by simp; omega
      have HZF := Lib.hid (HNO.out (fun h => hnn (by rw [← HIW.out.nums.len, ← HJW.out.nums.len]; exact h.2.1)))
      clear hk hnn HNO sq
      go_enter Try.func20, Try.ntmps20
      go_upto_region 1 with fail
      rw [← HW.out, ← HQ1.out, ← HQ0.out]
      clear HW
      go_wp2
      go_ret
      exact ⟨congrArg (fun z => Ending.returned (Value.bool z)) HZF.out.symm, HBW.out⟩
  · have qk : (m.kind != r.kind) = true := by simpa using hk
    have HZF := Lib.hid (HNO.out (fun h => hk h.1))
    clear hk HNO sq
    go_enter Try.func20, Try.ntmps20
    go_upto_region 1 with fail
    rw [← HW.out, ← HQ1.out, ← HQ0.out]
    clear HW
    go_wp2
    go_ret
    exact ⟨congrArg (fun z => Ending.returned (Value.bool z)) HZF.out.symm, HBW.out⟩
end Go.Proofs.Ytbfcgnggcgodhaa
