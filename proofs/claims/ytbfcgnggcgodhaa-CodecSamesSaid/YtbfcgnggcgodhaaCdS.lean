/- Contract of codec.Same. Conditions: the messages came in. -/
import Derived.Test.YtbfcgnggcgodhaaCdA
namespace Go.Proofs.Ytbfcgnggcgodhaa
open Go Go.RowKit
set_option linter.unusedVariables false
set_option linter.unusedSimpArgs false

set_option maxRecDepth 100000 in
set_option maxHeartbeats 1000000 in
/-- Same. -/
theorem sameM_t (m r : Mg) (a : Option Addr) (n c : Nat) (b : Option Addr) (k d : Nat) (a' : Option Addr) (n' c' : Nat) (b' : Option Addr) (k' d' : Nat) (w : World) (hI : MIn w a n c b k d m) (hJ : MIn w a' n' c' b' k' d' r) (hn : n ≤ 4611686018427387904) (z : Bool) (hz : z = true ↔ m = r) :
    Calls Try.prog 23 #[mval m.kind a n c b k d, mval r.kind a' n' c' b' k' d'] w fun e w' => e = .returned (.bool z) ∧ Below w.heap.size w w' := by
  obtain ⟨W, hW⟩ : ∃ W, W = (w.alloc (mobj m.kind a n c b k d)).alloc (mobj r.kind a' n' c' b' k' d') := ⟨_, rfl⟩
  have hs1 : (w.alloc (mobj m.kind a n c b k d)).heap.size = w.heap.size + 1 := by simp
  have HM : Hid (MAt W w.heap.size m.kind a n c b k d) := Lib.hid (by rw [hW]; exact (MAt.new w m.kind a n c b k d).below (bl_al (Below.refl _ _) _) (by omega))
  have HR : Hid (MAt W (w.heap.size + 1) r.kind a' n' c' b' k' d') := Lib.hid (by rw [hW, ← hs1]; exact MAt.new _ _ _ _ _ _ _ _)
  have HBW : Hid (Below w.heap.size w W) := Lib.hid (by rw [hW]; exact bl_al (bl_al (Below.refl _ _) _) _)
  have HIW := Lib.hid (hI.below HBW.out)
  have HJW := Lib.hid (hJ.below HBW.out)
  have HW := Lib.hid hW
  have CE := Lib.hid (iequal_any m.nums r.nums a a' n c n' c' W HIW.out.nums HJW.out.nums hn (decide (m.nums = r.nums)) (by simp))
  have CB := Lib.hid (fun W1 (h : Below W.heap.size W W1) => equal_any m.data r.data b b' k k' d d' W1 (HIW.out.data.below h).here (HJW.out.data.below h).here HIW.out.data.len HJW.out.data.len HIW.out.data.fit HJW.out.data.fit)
  have hzz : z = (decide (m.kind = r.kind) && decide (m.nums = r.nums) && same m.data r.data) := by
    unfold same
    rw [Bool.eq_iff_iff, hz]
    obtain ⟨mk, mn, md⟩ := m
    obtain ⟨rk, rn, rd⟩ := r
    simp [and_assoc]
  obtain ⟨y, hy⟩ : ∃ y, y = decide (m.nums = r.nums) := ⟨_, rfl⟩
  obtain ⟨x, hx⟩ : ∃ x, x = same m.data r.data := ⟨_, rfl⟩
  rw [← hy] at CE
  rw [← hx] at CB
  rw [← hy, ← hx] at hzz
  have HZ := Lib.hid hzz
  obtain ⟨q0, hq0⟩ : ∃ q, q = w.heap.size := ⟨_, rfl⟩
  obtain ⟨q1, hq1⟩ : ∃ q, q = w.heap.size + 1 := ⟨_, rfl⟩
  rw [← hq0] at HM
  rw [← hq1] at HR
  have HQ0 := Lib.hid hq0
  have HQ1 := Lib.hid hq1
  clear hI hJ hW hz hs1 hq0 hq1 hy hx hzz
  obtain ⟨e0, e1, e2⟩ := HM.out
  obtain ⟨f0, f1, f2⟩ := HR.out
  by_cases hk : m.kind = r.kind
  · have qk : (m.kind == r.kind) = true := by simpa using hk
    have HZ2 : Hid (z = (y && x)) := Lib.hid (by rw [HZ.out]; simp [hk])
    clear hk HZ
    go_enter Try.func23, Try.ntmps23
    go_upto_region 1 with fail
    rw [← HW.out, ← HQ1.out, ← HQ0.out]
    clear HW
    go_wp2_with fail
    refine CE.out.mono ?_
    rintro e w1 ⟨rfl, hb⟩
    have HB1 := Lib.hid hb
    have HM1 := Lib.hid (HM.out.below hb HM.out.lt)
    have HR1 := Lib.hid (HR.out.below hb HR.out.lt)
    clear hb e0 e1 e2 f0 f1 f2 CE
    obtain ⟨e0, e1, e2⟩ := HM1.out
    obtain ⟨f0, f1, f2⟩ := HR1.out
    cases y with
    | true =>
      go_wp2_with fail
      refine (CB.out w1 HB1.out).mono ?_
      rintro e w2 ⟨rfl, rfl⟩
      go_wp2
      go_ret
      exact ⟨by rw [HZ2.out]; rfl, bl_tr HBW.out HB1.out⟩
    | false =>
      go_wp2
      go_ret
      exact ⟨by rw [HZ2.out]; rfl, bl_tr HBW.out HB1.out⟩
  · have qk : (m.kind == r.kind) = false := by simpa using hk
    have HZ2 : Hid (z = false) := Lib.hid (by rw [HZ.out]; simp [hk])
    clear hk HZ
    go_enter Try.func23, Try.ntmps23
    go_upto_region 1 with fail
    rw [← HW.out, ← HQ1.out, ← HQ0.out]
    clear HW
    go_wp2
    go_ret
    exact ⟨by rw [HZ2.out]; rfl, HBW.out⟩
end Go.Proofs.Ytbfcgnggcgodhaa
