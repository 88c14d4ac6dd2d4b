/- The document's small calls over leases: IsVip, good, less, inside. Conditions: the numbers fit their kinds. -/
import Derived.Test.YtanajblldlgalaaDoorLdB
namespace Go.Proofs.YtanajblldlgalaaDoor
open Go Go.RowKit
set_option linter.unusedVariables false
set_option linter.unusedSimpArgs false

theorem refByte0 (a : Int) (a0 : 0 ≤ a) (a1 : a < 4294967296) (w : World) : Calls Tryd.prog 58 #[.int .u32 a, .int .i64 0] w fun e w' => e = .returned (.int .i64 (a / 16777216)) ∧ w = w' := by
  have hr : (a / 16777216).tmod 256 = a / 16777216 := by rw [Int.tmod_eq_emod_of_nonneg (by omega)]; omega
  have hr2 : (a / 16777216) % 256 = a / 16777216 := by omega
  go_enter Tryd.func58, Tryd.ntmps58
  go_wp2
  go_ret
  exact ⟨by first | rfl | (rw [hr2]; rfl), rfl⟩
theorem refVip_c (a : Int) (a0 : 0 ≤ a) (a1 : a < 4294967296) (w : World) : Calls Tryd.prog 34 #[.int .u32 a] w fun e w' => e = .returned (.bool (decide (IsVipA a))) ∧ w = w' := by
  have H := Lib.hid (refByte0 a a0 a1 w)
  obtain ⟨f, hf⟩ : ∃ f, f = a / 16777216 := ⟨_, rfl⟩
  have f0 : 0 ≤ f := by omega
  have f1 : f < 256 := by omega
  have hD : decide (IsVipA a) = decide (1 ≤ f ∧ f ≤ 223 ∧ f ≠ 10 ∧ f ≠ 127) := decide_eq_decide.2 (by unfold IsVipA; rw [← hf])
  obtain ⟨z, hz⟩ : ∃ z, z = decide (IsVipA a) := ⟨_, rfl⟩
  rw [← hz]
  rw [hD] at hz
  have HZ := Lib.hid hz
  rw [← hf] at H
  clear hf hD a0 a1 hz
  by_cases h1 : 1 ≤ f
  · by_cases h2 : f ≤ 223
    · by_cases h3 : f = 10
      · have HE : Hid (z = false) := Lib.hid (HZ.out.trans (decide_eq_false (fun h => h.2.2.1 h3)))
        clear HZ
        subst h3
        go_enter Tryd.func34, Tryd.ntmps34
        go_wp2_with fail
        refine H.out.mono ?_
        rintro e w1 ⟨rfl, rfl⟩
        clear H
        go_wp2
        go_ret
        exact ⟨by rw [HE.out]; rfl, rfl⟩
      · by_cases h4 : f = 127
        · have HE : Hid (z = false) := Lib.hid (HZ.out.trans (decide_eq_false (fun h => h.2.2.2 h4)))
          clear HZ
          subst h4
          go_enter Tryd.func34, Tryd.ntmps34
          go_wp2_with fail
          refine H.out.mono ?_
          rintro e w1 ⟨rfl, rfl⟩
          clear H
          go_wp2
          go_ret
          exact ⟨by rw [HE.out]; rfl, rfl⟩
        · have q3 : (f != 10) = true := by simpa using h3
          have q4 : (f != 127) = true := by simpa using h4
          have HE : Hid (z = true) := Lib.hid (HZ.out.trans (decide_eq_true ⟨h1, h2, h3, h4⟩))
          clear h3 h4
          go_enter Tryd.func34, Tryd.ntmps34
          go_wp2_with fail
          refine H.out.mono ?_
          rintro e w1 ⟨rfl, rfl⟩
          clear H
          go_wp2
          go_ret
          exact ⟨by rw [HE.out]; rfl, rfl⟩
    · have HE : Hid (z = false) := Lib.hid (HZ.out.trans (decide_eq_false (fun h => h2 h.2.1)))
      go_enter Tryd.func34, Tryd.ntmps34
      go_wp2_with fail
      refine H.out.mono ?_
      rintro e w1 ⟨rfl, rfl⟩
      clear H
      go_wp2
      go_ret
      exact ⟨by rw [HE.out]; rfl, rfl⟩
  · have HE : Hid (z = false) := Lib.hid (HZ.out.trans (decide_eq_false (fun h => h1 h.1)))
    go_enter Tryd.func34, Tryd.ntmps34
    go_wp2_with fail
    refine H.out.mono ?_
    rintro e w1 ⟨rfl, rfl⟩
    clear H
    go_wp2
    go_ret
    exact ⟨by rw [HE.out]; rfl, rfl⟩
theorem refgood_c (x : Ls) (ht : TyL x) (w : World) : Calls Tryd.prog 42 #[x.val] w fun e w' => e = .returned (.bool (decide (GoodL x))) ∧ Below w.heap.size w w' := by
  obtain ⟨z, hz⟩ : ∃ z, z = decide (GoodL x) := ⟨_, rfl⟩
  have HZ := Lib.hid hz
  rw [← hz]
  obtain ⟨W, q, hW, hq, hA, hBW, hqW⟩ := boxed w x
  have HBW := Lib.hid hBW
  have HT := Lib.hid ht
  have HW := Lib.hid (And.intro hW hq)
  obtain ⟨v, f, d, t⟩ := x
  obtain ⟨c0, c1, c2, c3⟩ := hA
  have CV := Lib.hid (refVip_c v ht.1.1 ht.1.2 W)
  have CHy := Lib.hid (fun h => refHome_ok d h W)
  have CHn := Lib.hid (fun h => refHome_no d h W)
  have hf64 : i64b f := ht.2.1
  have ht64 : i64b t := ht.2.2.2
  unfold i64b at hf64 ht64
  clear hW hq hBW hqW ht hz
  obtain ⟨z1, hz1⟩ : ∃ z, z = decide (IsVipA v) := ⟨_, rfl⟩
  rw [← hz1] at CV
  by_cases qd : IsDip d
  · have CH := Lib.hid (CHy.out qd)
    have HG : Hid (z = (z1 && (decide (OkFst f) && (decide (0 ≤ t) && decide (t ≤ 1099511627840))))) := Lib.hid (by
      rw [HZ.out, hz1, Bool.eq_iff_iff]
      simp only [decide_eq_true_iff, Bool.and_eq_true]
      constructor
      · rintro ⟨b1, b2, b3, b4, b5⟩
        exact ⟨b2, b3, b4, b5⟩
      · rintro ⟨b2, b3, b4, b5⟩
        exact ⟨qd, b2, b3, b4, b5⟩)
    clear hz1 HZ CHy CHn qd
    cases z1 with
    | false =>
      have HF : Hid (z = false) := Lib.hid HG.out
      go_enter Tryd.func42, Tryd.ntmps42
      go_upto_region 1 with fail
      rw [show w.alloc (.cells #[.int .u32 v, .int .i64 f, .int .u32 d, .int .i64 t] tyL) = W from HW.out.1.symm, ← HW.out.2]
      go_wp2_with fail
      refine CH.out.mono ?_
      rintro e w9 ⟨rfl, rfl⟩
      clear CH
      go_wp2_with fail
      refine CV.out.mono ?_
      rintro e w9 ⟨rfl, rfl⟩
      clear CV
      go_wp2
      go_ret
      exact ⟨by rw [HF.out]; rfl, HBW.out⟩
    | true =>
      by_cases l1 : 1024 ≤ f
      · by_cases l2 : f ≤ 65528
        · have hr : Int.tmod f 8 = f % 8 := Int.tmod_eq_emod_of_nonneg (by omega)
          by_cases l3 : f % 8 = 0
          · have hf' : decide (OkFst f) = true := decide_eq_true ⟨l1, l2, l3⟩
            by_cases l4 : 0 ≤ t
            · have HF : Hid (z = decide (t ≤ 1099511627840)) := Lib.hid (HG.out.trans (by rw [hf', decide_eq_true l4]; rfl))
              clear hf'
              go_enter Tryd.func42, Tryd.ntmps42
              go_upto_region 1 with fail
              rw [show w.alloc (.cells #[.int .u32 v, .int .i64 f, .int .u32 d, .int .i64 t] tyL) = W from HW.out.1.symm, ← HW.out.2]
              go_wp2_with fail
              refine CH.out.mono ?_
              rintro e w9 ⟨rfl, rfl⟩
              clear CH
              go_wp2_with fail
              refine CV.out.mono ?_
              rintro e w9 ⟨rfl, rfl⟩
              clear CV
              go_wp2
              go_ret
              exact ⟨by rw [HF.out]; rfl, HBW.out⟩
            · have HF : Hid (z = false) := Lib.hid (HG.out.trans (by rw [hf', decide_eq_false l4]; rfl))
              clear hf'
              go_enter Tryd.func42, Tryd.ntmps42
              go_upto_region 1 with fail
              rw [show w.alloc (.cells #[.int .u32 v, .int .i64 f, .int .u32 d, .int .i64 t] tyL) = W from HW.out.1.symm, ← HW.out.2]
              go_wp2_with fail
              refine CH.out.mono ?_
              rintro e w9 ⟨rfl, rfl⟩
              clear CH
              go_wp2_with fail
              refine CV.out.mono ?_
              rintro e w9 ⟨rfl, rfl⟩
              clear CV
              go_wp2
              go_ret
              exact ⟨by rw [HF.out]; rfl, HBW.out⟩
          · have HF : Hid (z = false) := Lib.hid (HG.out.trans (by rw [decide_eq_false (fun h : OkFst f => l3 h.2.2)]; rfl))
            have l3' : ((f % 8) == 0) = false := by simpa using l3
            clear l3
            go_enter Tryd.func42, Tryd.ntmps42
            go_upto_region 1 with fail
            rw [show w.alloc (.cells #[.int .u32 v, .int .i64 f, .int .u32 d, .int .i64 t] tyL) = W from HW.out.1.symm, ← HW.out.2]
            go_wp2_with fail
            refine CH.out.mono ?_
            rintro e w9 ⟨rfl, rfl⟩
            clear CH
            go_wp2_with fail
            refine CV.out.mono ?_
            rintro e w9 ⟨rfl, rfl⟩
            clear CV
            go_wp2
            go_ret
            exact ⟨by rw [HF.out]; rfl, HBW.out⟩
        · have HF : Hid (z = false) := Lib.hid (HG.out.trans (by rw [decide_eq_false (fun h : OkFst f => l2 h.2.1)]; rfl))
          go_enter Tryd.func42, Tryd.ntmps42
          go_upto_region 1 with fail
          rw [show w.alloc (.cells #[.int .u32 v, .int .i64 f, .int .u32 d, .int .i64 t] tyL) = W from HW.out.1.symm, ← HW.out.2]
          go_wp2_with fail
          refine CH.out.mono ?_
          rintro e w9 ⟨rfl, rfl⟩
          clear CH
          go_wp2_with fail
          refine CV.out.mono ?_
          rintro e w9 ⟨rfl, rfl⟩
          clear CV
          go_wp2
          go_ret
          exact ⟨by rw [HF.out]; rfl, HBW.out⟩
      · have HF : Hid (z = false) := Lib.hid (HG.out.trans (by rw [decide_eq_false (fun h : OkFst f => l1 h.1)]; rfl))
        go_enter Tryd.func42, Tryd.ntmps42
        go_upto_region 1 with fail
        rw [show w.alloc (.cells #[.int .u32 v, .int .i64 f, .int .u32 d, .int .i64 t] tyL) = W from HW.out.1.symm, ← HW.out.2]
        go_wp2_with fail
        refine CH.out.mono ?_
        rintro e w9 ⟨rfl, rfl⟩
        clear CH
        go_wp2_with fail
        refine CV.out.mono ?_
        rintro e w9 ⟨rfl, rfl⟩
        clear CV
        go_wp2
        go_ret
        exact ⟨by rw [HF.out]; rfl, HBW.out⟩
  · have CH := Lib.hid (CHn.out qd)
    have HF : Hid (z = false) := Lib.hid (HZ.out.trans (decide_eq_false (fun h => qd h.1)))
    clear hz1 HZ CHy CHn qd CV
    go_enter Tryd.func42, Tryd.ntmps42
    go_upto_region 1 with fail
    rw [show w.alloc (.cells #[.int .u32 v, .int .i64 f, .int .u32 d, .int .i64 t] tyL) = W from HW.out.1.symm, ← HW.out.2]
    go_wp2_with fail
    refine CH.out.mono ?_
    rintro e w9 ⟨rfl, rfl⟩
    clear CH
    go_wp2
    go_ret
    exact ⟨by rw [HF.out]; rfl, HBW.out⟩
theorem two_lsA (w : World) (p q : Ls) : ∃ W, (w.alloc p.obj).alloc q.obj = W ∧ LsAt W w.heap.size 0 p ∧ LsAt W (w.heap.size + 1) 0 q ∧ Below w.heap.size w W := by
  refine ⟨_, rfl, ?_, ?_, bl_al (bl_al (Below.refl _ _) _) _⟩
  · exact (lsAt_new w p).below (bl_al (Below.refl (w.alloc p.obj).heap.size _) q.obj) (by simp)
  · have := lsAt_new (w.alloc p.obj) q
    rwa [show (w.alloc p.obj).heap.size = w.heap.size + 1 by simp] at this
theorem refless_c (x y : Ls) (w : World) : Calls Tryd.prog 43 #[x.val, y.val] w fun e w' => e = .returned (.bool (ltL x y)) ∧ Below w.heap.size w w' := by
  obtain ⟨W, hW, hA, hB, hb⟩ := two_lsA w x y
  obtain ⟨z, hz⟩ : ∃ z, z = ltL x y := ⟨_, rfl⟩
  have HZ := Lib.hid hz
  rw [← hz]
  have HBW := Lib.hid hb
  obtain ⟨q, hq⟩ : ∃ q, q = w.heap.size := ⟨_, rfl⟩
  rw [← hq] at hA hB
  have HW := Lib.hid (And.intro hW hq)
  obtain ⟨x0, x1, x2, x3⟩ := x
  obtain ⟨y0, y1, y2, y3⟩ := y
  obtain ⟨a0, a1, a2, a3⟩ := hA
  obtain ⟨b0, b1, b2, b3⟩ := hB
  clear hW hq hb hz
  rcases Int.lt_trichotomy x0 y0 with h | h | h
  · have HE : Hid (z = true) := Lib.hid (HZ.out.trans (ltL_iff.2 (.inl h)))
    go_enter Tryd.func43, Tryd.ntmps43
    go_upto_region 1 with fail
    rw [HW.out.1, ← HW.out.2]
    go_wp2
    go_ret
    exact ⟨by rw [HE.out]; rfl, HBW.out⟩
  · have HE : Hid (z = decide (x1 < y1)) := Lib.hid (HZ.out.trans (by unfold ltL; exact decide_eq_decide.2 (by simp only; omega)))
    subst h
    have q0 : ¬ x0 < x0 := by omega
    go_enter Tryd.func43, Tryd.ntmps43
    go_upto_region 1 with fail
    rw [HW.out.1, ← HW.out.2]
    go_wp2
    go_ret
    exact ⟨by rw [HE.out]; rfl, HBW.out⟩
  · have HE : Hid (z = false) := Lib.hid (HZ.out.trans (by unfold ltL; exact decide_eq_false (by simp only; omega)))
    have q0 : ¬ x0 < y0 := by omega
    have q1 : (x0 == y0) = false := by simp; omega
    go_enter Tryd.func43, Tryd.ntmps43
    go_upto_region 1 with fail
    rw [HW.out.1, ← HW.out.2]
    go_wp2
    go_ret
    exact ⟨by rw [HE.out]; rfl, HBW.out⟩
theorem inside_c (p f : Int) (hp : i64b p) (hf : i64b f) (w : World) : Calls Tryd.prog 47 #[.int .i64 p, .int .i64 f] w fun e w' => e = .returned (.bool (decide (f ≤ p ∧ p - f < 8))) ∧ w = w' := by
  unfold i64b at hp hf
  obtain ⟨z, hz⟩ : ∃ z, z = decide (f ≤ p ∧ p - f < 8) := ⟨_, rfl⟩
  rw [← hz]
  have HZ := Lib.hid hz
  clear hz
  by_cases qb : f ≤ 4611686018427387904
  · have R0 : Hid (∀ k : Nat, k < 0 → f + k ≠ p) := Lib.hid (fun k h => absurd h (Nat.not_lt_zero _))
    go_enter Tryd.func47, Tryd.ntmps47
    go_wp2
    go_loop [5] (fun i => ∃ k : Nat, k ≤ 8 ∧ i = .int .i64 k ∧ Hid (∀ j : Nat, j < k → f + j ≠ p)) (fun i => 8 - (intOf i).toNat)
    case atStart => exact ⟨0, by omega, rfl, R0⟩
    case round =>
      obtain ⟨k, hk, rfl, HN⟩ := hrel
      clear R0
      by_cases hlt : k < 8
      · have ii : (k : Int) < 8 := by omega
        by_cases e : f + k = p
        · have HE : Hid (z = true) := Lib.hid (HZ.out.trans (decide_eq_true (by omega)))
          have q1 : ((f + (k : Int)) == p) = true := by simpa using e
          clear e
          go_wp2
          go_ret
          exact ⟨by rw [HE.out]; rfl, rfl⟩
        · have HN2 : Hid (∀ j : Nat, j < k + 1 → f + j ≠ p) := Lib.hid (fun j hj => by
            by_cases q : j = k
            · rw [q]; exact e
            · exact HN.out j (by omega))
          have q1 : ((f + (k : Int)) == p) = false := by simpa using e
          clear e
          go_wp2
          go_round
          case rel => exact ⟨k + 1, by omega, by go_num, HN2⟩
          case measure => simp [intOf]; omega
      · have ii : ¬ (k : Int) < 8 := by omega
        obtain rfl : k = 8 := by omega
        have HE : Hid (z = false) := Lib.hid (HZ.out.trans (decide_eq_false (fun h => HN.out (p - f).toNat (by omega) (by omega))))
        have qn : ¬ (4611686018427387904 < f) := by omega
        by_cases h1 : f ≤ p
        · go_wp2
          all_goals
            go_ret
            exact ⟨by rw [HE.out]; rfl, rfl⟩
        · go_wp2
          go_ret
          exact ⟨by rw [HE.out]; rfl, rfl⟩
  · have R0 : True := trivial
    go_enter Tryd.func47, Tryd.ntmps47
    go_wp2
    go_loop [5] (fun i => ∃ k : Nat, k ≤ 8 ∧ i = .int .i64 k) (fun i => 8 - (intOf i).toNat)
    case atStart => exact ⟨0, by omega, rfl⟩
    case round =>
      obtain ⟨k, hk, rfl⟩ := hrel
      by_cases hlt : k < 8
      · have ii : (k : Int) < 8 := by omega
        go_wp2
        go_round
        case rel => exact ⟨k + 1, by omega, by go_num⟩
        case measure => simp [intOf]; omega
      · have ii : ¬ (k : Int) < 8 := by omega
        obtain rfl : k = 8 := by omega
        have qn : (4611686018427387904 < f) := by omega
        by_cases h1 : f ≤ p
        · have HE : Hid (z = decide (p - f < 8)) := Lib.hid (HZ.out.trans (decide_eq_decide.2 (by omega)))
          go_wp2
          all_goals
            go_ret
            exact ⟨by rw [HE.out]; first | (rw [decide_eq_true (by omega)]; rfl) | (rw [decide_eq_false (by omega)]; rfl), rfl⟩
        · have HE : Hid (z = false) := Lib.hid (HZ.out.trans (decide_eq_false (by omega)))
          go_wp2
          go_ret
          exact ⟨by rw [HE.out]; rfl, rfl⟩
end Go.Proofs.YtanajblldlgalaaDoor
