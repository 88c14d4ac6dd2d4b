/- The program's small calls: isTime, isBlock, lives, hasPort, isMachine, addr.IsVip. Conditions: the numbers fit their kinds. -/
import Derived.Test.YtanajblldlgalaaDoorLsM
import Derived.Test.YtanajblldlgalaaDoorHmA
namespace Go.Proofs.YtanajblldlgalaaDoor
open Go Go.RowKit
set_option linter.unusedVariables false
set_option linter.unusedSimpArgs false

theorem isTime_c (n : Int) (w : World) : Calls Tryd.prog 27 #[.int .i64 n] w fun e w' => e = .returned (.bool (decide (OkTm n))) ∧ w = w' := by
  by_cases h1 : 0 ≤ n
  · by_cases h2 : n ≤ 1099511627776
    · have e : decide (OkTm n) = true := decide_eq_true ⟨h1, h2⟩
      rw [e]
      go_enter Tryd.func27, Tryd.ntmps27
      go_wp2
      go_ret
      exact ⟨rfl, rfl⟩
    · have e : decide (OkTm n) = false := decide_eq_false (fun h => h2 h.2)
      rw [e]
      go_enter Tryd.func27, Tryd.ntmps27
      go_wp2
      go_ret
      exact ⟨rfl, rfl⟩
  · have e : decide (OkTm n) = false := decide_eq_false (fun h => h1 h.1)
    rw [e]
    go_enter Tryd.func27, Tryd.ntmps27
    go_wp2
    go_ret
    exact ⟨rfl, rfl⟩
theorem refTime_c (n : Int) (w : World) : Calls Tryd.prog 35 #[.int .i64 n] w fun e w' => e = .returned (.bool (decide (OkTm n))) ∧ w = w' := by
  by_cases h1 : 0 ≤ n
  · by_cases h2 : n ≤ 1099511627776
    · have e : decide (OkTm n) = true := decide_eq_true ⟨h1, h2⟩
      rw [e]
      go_enter Tryd.func35, Tryd.ntmps35
      go_wp2
      go_ret
      exact ⟨rfl, rfl⟩
    · have e : decide (OkTm n) = false := decide_eq_false (fun h => h2 h.2)
      rw [e]
      go_enter Tryd.func35, Tryd.ntmps35
      go_wp2
      go_ret
      exact ⟨rfl, rfl⟩
  · have e : decide (OkTm n) = false := decide_eq_false (fun h => h1 h.1)
    rw [e]
    go_enter Tryd.func35, Tryd.ntmps35
    go_wp2
    go_ret
    exact ⟨rfl, rfl⟩
theorem isBlock_c (n : Int) (hn : i64b n) (w : World) : Calls Tryd.prog 59 #[.int .i64 n] w fun e w' => e = .returned (.bool (decide (OkFst n))) ∧ w = w' := by
  unfold i64b at hn
  by_cases h1 : 1024 ≤ n
  · by_cases h2 : n ≤ 65528
    · have hr : Int.tmod (n - 1024) 8 = (n - 1024) % 8 := Int.tmod_eq_emod_of_nonneg (by omega)
      have e0 : (decide ((n - 1024) % 8 = 0)) = decide (OkFst n) := decide_eq_decide.2 (by unfold OkFst; omega)
      have HE := Lib.hid e0
      clear e0
      go_enter Tryd.func59, Tryd.ntmps59
      go_wp2
      go_ret
      refine ⟨?_, rfl⟩
      rw [← HE.out]
      by_cases q : (n - 1024) % 8 = 0
      · simp [q]
      · simp [q]
    · have e : decide (OkFst n) = false := decide_eq_false (fun h => h2 h.2.1)
      rw [e]
      go_enter Tryd.func59, Tryd.ntmps59
      go_wp2
      go_ret
      exact ⟨rfl, rfl⟩
  · have e : decide (OkFst n) = false := decide_eq_false (fun h => h1 h.1)
    rw [e]
    go_enter Tryd.func59, Tryd.ntmps59
    go_wp2
    go_ret
    exact ⟨rfl, rfl⟩
theorem lives_c (x : Ls) (now : Int) (w : World) : Calls Tryd.prog 38 #[x.val, .int .i64 now] w fun e w' => e = .returned (.bool (livL now x)) ∧ Below w.heap.size w w' := by
  have hA := (lsAt_new w x).2.2.2
  obtain ⟨W, hW⟩ : ∃ W, W = w.alloc x.obj := ⟨_, rfl⟩
  have HBW : Hid (Below w.heap.size w W) := Lib.hid (by rw [hW]; exact bl_al (Below.refl _ _) _)
  rw [← hW] at hA
  obtain ⟨q, hq⟩ : ∃ q, q = w.heap.size := ⟨_, rfl⟩
  rw [← hq] at hA
  have HW := Lib.hid (And.intro hW hq)
  obtain ⟨v, f, d, p⟩ := x
  clear hW hq
  go_enter Tryd.func38, Tryd.ntmps38
  go_upto_region 1 with fail
  rw [show w.alloc (.cells #[.int .u32 v, .int .i64 f, .int .u32 d, .int .i64 p] tyL) = W from HW.out.1.symm, ← HW.out.2]
  go_wp2
  go_ret
  exact ⟨rfl, HBW.out⟩
theorem sub_wrap {p f : Int} (hp : i64b p) (hf : i64b f) (h : f ≤ p) : IntKind.u64.wrap (IntKind.u64.wrap p - IntKind.u64.wrap f) = p - f := by
  unfold i64b at *
  rw [IntKind.wrap_u64, IntKind.wrap_u64, IntKind.wrap_u64]
  omega
theorem hasPort_c (x : Ls) (p : Int) (hx : i64b x.first) (hp : i64b p) (w : World) : Calls Tryd.prog 46 #[x.val, .int .i64 p] w fun e w' => e = .returned (.bool (hasP p x)) ∧ Below w.heap.size w w' := by
  have hA := (lsAt_new w x).2.1
  obtain ⟨W, hW⟩ : ∃ W, W = w.alloc x.obj := ⟨_, rfl⟩
  have HBW : Hid (Below w.heap.size w W) := Lib.hid (by rw [hW]; exact bl_al (Below.refl _ _) _)
  rw [← hW] at hA
  obtain ⟨q, hq⟩ : ∃ q, q = w.heap.size := ⟨_, rfl⟩
  rw [← hq] at hA
  have HW := Lib.hid (And.intro hW hq)
  obtain ⟨v, f, d, t⟩ := x
  clear hW hq
  by_cases hle : f ≤ p
  · have hs := sub_wrap hp hx hle
    have HE : Hid (hasP p ⟨v, f, d, t⟩ = decide (p - f < 8)) := Lib.hid (by unfold hasP; exact decide_eq_decide.2 (by simp only; omega))
    have ge : decide (f ≤ p) = true := decide_eq_true hle
    clear hx hp
    go_enter Tryd.func46, Tryd.ntmps46
    go_upto_region 1 with fail
    rw [show w.alloc (.cells #[.int .u32 v, .int .i64 f, .int .u32 d, .int .i64 t] tyL) = W from HW.out.1.symm, ← HW.out.2]
    go_wp2
    go_ret
    exact ⟨by rw [HE.out]; rfl, HBW.out⟩
  · have HE : Hid (hasP p ⟨v, f, d, t⟩ = false) := Lib.hid (by unfold hasP; exact decide_eq_false (by simp only; omega))
    clear hx hp
    go_enter Tryd.func46, Tryd.ntmps46
    go_upto_region 1 with fail
    rw [show w.alloc (.cells #[.int .u32 v, .int .i64 f, .int .u32 d, .int .i64 t] tyL) = W from HW.out.1.symm, ← HW.out.2]
    go_wp2
    go_ret
    exact ⟨by rw [HE.out]; rfl, HBW.out⟩
theorem isMachine_c (a : Int) (a0 : 0 ≤ a) (a1 : a < 4294967296) (w : World) : Calls Tryd.prog 29 #[.int .u32 a] w fun e w' => e = .returned (.bool (decide (IsDip a))) ∧ Below w.heap.size w w' := by
  by_cases h : IsDip a
  · have H := Lib.hid (home_ok a h w)
    rw [decide_eq_true h]
    clear h
    go_enter Tryd.func29, Tryd.ntmps29
    go_wp2_with fail
    refine H.out.mono ?_
    rintro e w1 ⟨rfl, hb⟩
    have HB := Lib.hid hb
    clear hb H
    go_wp2
    go_ret
    exact ⟨rfl, HB.out⟩
  · have H := Lib.hid (home_no a a0 a1 h w)
    rw [decide_eq_false h]
    clear h
    go_enter Tryd.func29, Tryd.ntmps29
    go_wp2_with fail
    refine H.out.mono ?_
    rintro e w1 ⟨rfl, hb⟩
    have HB := Lib.hid hb
    clear hb H
    go_wp2
    go_ret
    exact ⟨rfl, HB.out⟩
theorem isVip_c (a : Int) (a0 : 0 ≤ a) (a1 : a < 4294967296) (w : World) : Calls Tryd.prog 28 #[.int .u32 a] w fun e w' => e = .returned (.bool (decide (IsVipA a))) ∧ Below w.heap.size w w' := by
  have H := Lib.hid (split_any a a0 a1 w)
  obtain ⟨f, hf⟩ : ∃ f, f = a / 16777216 := ⟨_, rfl⟩
  have f0 : 0 ≤ f := by omega
  have f1 : f < 256 := by omega
  have hD : decide (IsVipA a) = decide (1 ≤ f ∧ f ≤ 223 ∧ f ≠ 10 ∧ f ≠ 127) := decide_eq_decide.2 (by unfold IsVipA; rw [← hf])
  obtain ⟨z, hz⟩ : ∃ z, z = decide (IsVipA a) := ⟨_, rfl⟩
  rw [← hz]
  rw [hD] at hz
  have HZ := Lib.hid hz
  rw [← hf] at H
  clear hf hD a0 a1 hz
  have i0 := at0
  by_cases h1 : 1 ≤ f
  · by_cases h2 : f ≤ 223
    · by_cases h3 : f = 10
      · have HE : Hid (z = false) := Lib.hid (HZ.out.trans (decide_eq_false (fun h => h.2.2.1 h3)))
        clear HZ
        subst h3
        go_enter Tryd.func28, Tryd.ntmps28
        go_wp2_with fail
        refine H.out.mono ?_
        rintro e w1 ⟨rfl, hb⟩
        have HB := Lib.hid hb
        clear hb H
        go_wp2
        go_ret
        exact ⟨by rw [HE.out]; rfl, HB.out⟩
      · by_cases h4 : f = 127
        · have HE : Hid (z = false) := Lib.hid (HZ.out.trans (decide_eq_false (fun h => h.2.2.2 h4)))
          clear HZ
          subst h4
          go_enter Tryd.func28, Tryd.ntmps28
          go_wp2_with fail
          refine H.out.mono ?_
          rintro e w1 ⟨rfl, hb⟩
          have HB := Lib.hid hb
          clear hb H
          go_wp2
          go_ret
          exact ⟨by rw [HE.out]; rfl, HB.out⟩
        · have q3 : (f != 10) = true := by simpa using h3
          have q4 : (f != 127) = true := by simpa using h4
          have HE : Hid (z = true) := Lib.hid (HZ.out.trans (decide_eq_true ⟨h1, h2, h3, h4⟩))
          clear h3 h4
          go_enter Tryd.func28, Tryd.ntmps28
          go_wp2_with fail
          refine H.out.mono ?_
          rintro e w1 ⟨rfl, hb⟩
          have HB := Lib.hid hb
          clear hb H
          go_wp2
          go_ret
          exact ⟨by rw [HE.out]; rfl, HB.out⟩
    · have HE : Hid (z = false) := Lib.hid (HZ.out.trans (decide_eq_false (fun h => h2 h.2.1)))
      go_enter Tryd.func28, Tryd.ntmps28
      go_wp2_with fail
      refine H.out.mono ?_
      rintro e w1 ⟨rfl, hb⟩
      have HB := Lib.hid hb
      clear hb H
      go_wp2
      go_ret
      exact ⟨by rw [HE.out]; rfl, HB.out⟩
  · have HE : Hid (z = false) := Lib.hid (HZ.out.trans (decide_eq_false (fun h => h1 h.1)))
    go_enter Tryd.func28, Tryd.ntmps28
    go_wp2_with fail
    refine H.out.mono ?_
    rintro e w1 ⟨rfl, hb⟩
    have HB := Lib.hid hb
    clear hb H
    go_wp2
    go_ret
    exact ⟨by rw [HE.out]; rfl, HB.out⟩
end Go.Proofs.YtanajblldlgalaaDoor
