/- The program's closures over leases, and isGood. Conditions: the captured variables lie in their boxes; the numbers fit their kinds. -/
import Derived.Test.YtanajblldlgalaaDoorLdA
namespace Go.Proofs.YtanajblldlgalaaDoor
open Go Go.RowKit
set_option linter.unusedVariables false
set_option linter.unusedSimpArgs false

/-- A boxed lease. -/
theorem boxed (w : World) (x : Ls) : ∃ W q, W = w.alloc x.obj ∧ q = w.heap.size ∧ LsAt W q 0 x ∧ Below w.heap.size w W ∧ q < W.heap.size := ⟨_, _, rfl, rfl, lsAt_new w x, bl_al (Below.refl _ _) _, by simp⟩
theorem ofC_c (x : Ls) (a now : Int) (g1 g2 : Nat) (w : World) (h1 : w.cell? ⟨g1, 0, none⟩ = some (.int .u32 a)) (h2 : w.cell? ⟨g2, 0, none⟩ = some (.int .i64 now)) :
    Calls Tryd.prog 49 #[x.val, .pointer (some ⟨g1, 0, none⟩), .pointer (some ⟨g2, 0, none⟩)] w fun e w' => e = .returned (.bool (isO a now x)) ∧ Below w.heap.size w w' := by
  obtain ⟨W, q, hW, hq, hA, hBW, hqW⟩ := boxed w x
  have HBW := Lib.hid hBW
  have k1 := (hBW.cell (p := ⟨g1, 0, none⟩) (block_lt_of_cell h1)).trans h1
  have k2 := (hBW.cell (p := ⟨g2, 0, none⟩) (block_lt_of_cell h2)).trans h2
  have HW := Lib.hid (And.intro hW hq)
  obtain ⟨v, f, d, t⟩ := x
  obtain ⟨c0, c1, c2, c3⟩ := hA
  have CL := Lib.hid (lives_c ⟨v, f, d, t⟩ now W)
  have HWQ := Lib.hid hqW
  clear hW hq hBW hqW h1 h2
  by_cases e : d = a
  · have HE : Hid (isO a now ⟨v, f, d, t⟩ = livL now ⟨v, f, d, t⟩) := Lib.hid (by unfold isO; rw [decide_eq_true e]; rfl)
    subst e
    have q1 : (d == d) = true := by simp
    go_enter Tryd.func49, Tryd.ntmps49
    go_upto_region 1 with fail
    rw [show w.alloc (.cells #[.int .u32 v, .int .i64 f, .int .u32 d, .int .i64 t] tyL) = W from HW.out.1.symm, ← HW.out.2]
    go_wp2_with fail
    refine CL.out.mono ?_
    rintro e w1 ⟨rfl, hb1⟩
    have HB := Lib.hid (HBW.out.trans (hb1.mono HBW.out.size))
    clear hb1 CL
    go_wp2
    go_ret
    exact ⟨by rw [HE.out]; rfl, HB.out⟩
  · have HE : Hid (isO a now ⟨v, f, d, t⟩ = false) := Lib.hid (by unfold isO; rw [decide_eq_false e]; rfl)
    have q1 : (d == a) = false := by simpa using e
    clear e CL
    go_enter Tryd.func49, Tryd.ntmps49
    go_upto_region 1 with fail
    rw [show w.alloc (.cells #[.int .u32 v, .int .i64 f, .int .u32 d, .int .i64 t] tyL) = W from HW.out.1.symm, ← HW.out.2]
    go_wp2
    go_ret
    exact ⟨by rw [HE.out]; rfl, HBW.out⟩
def isV (vip now : Int) (x : Ls) : Bool := decide (x.vip = vip) && livL now x
theorem lentC_c (x : Ls) (a now : Int) (g1 g2 : Nat) (w : World) (h1 : w.cell? ⟨g1, 0, none⟩ = some (.int .u32 a)) (h2 : w.cell? ⟨g2, 0, none⟩ = some (.int .i64 now)) :
    Calls Tryd.prog 53 #[x.val, .pointer (some ⟨g1, 0, none⟩), .pointer (some ⟨g2, 0, none⟩)] w fun e w' => e = .returned (.bool (isV a now x)) ∧ Below w.heap.size w w' := by
  obtain ⟨W, q, hW, hq, hA, hBW, hqW⟩ := boxed w x
  have HBW := Lib.hid hBW
  have k1 := (hBW.cell (p := ⟨g1, 0, none⟩) (block_lt_of_cell h1)).trans h1
  have k2 := (hBW.cell (p := ⟨g2, 0, none⟩) (block_lt_of_cell h2)).trans h2
  have HW := Lib.hid (And.intro hW hq)
  obtain ⟨v, f, d, t⟩ := x
  obtain ⟨c0, c1, c2, c3⟩ := hA
  have CL := Lib.hid (lives_c ⟨v, f, d, t⟩ now W)
  have HWQ := Lib.hid hqW
  clear hW hq hBW hqW h1 h2
  by_cases e : v = a
  · have HE : Hid (isV a now ⟨v, f, d, t⟩ = livL now ⟨v, f, d, t⟩) := Lib.hid (by unfold isV; rw [decide_eq_true e]; rfl)
    subst e
    have q1 : (v == v) = true := by simp
    go_enter Tryd.func53, Tryd.ntmps53
    go_upto_region 1 with fail
    rw [show w.alloc (.cells #[.int .u32 v, .int .i64 f, .int .u32 d, .int .i64 t] tyL) = W from HW.out.1.symm, ← HW.out.2]
    go_wp2_with fail
    refine CL.out.mono ?_
    rintro e w1 ⟨rfl, hb1⟩
    have HB := Lib.hid (HBW.out.trans (hb1.mono HBW.out.size))
    clear hb1 CL
    go_wp2
    go_ret
    exact ⟨by rw [HE.out]; rfl, HB.out⟩
  · have HE : Hid (isV a now ⟨v, f, d, t⟩ = false) := Lib.hid (by unfold isV; rw [decide_eq_false e]; rfl)
    have q1 : (v == a) = false := by simpa using e
    clear e CL
    go_enter Tryd.func53, Tryd.ntmps53
    go_upto_region 1 with fail
    rw [show w.alloc (.cells #[.int .u32 v, .int .i64 f, .int .u32 d, .int .i64 t] tyL) = W from HW.out.1.symm, ← HW.out.2]
    go_wp2
    go_ret
    exact ⟨by rw [HE.out]; rfl, HBW.out⟩
theorem pruneC_c (x : Ls) (now : Int) (g1 : Nat) (w : World) (h1 : w.cell? ⟨g1, 0, none⟩ = some (.int .i64 now)) :
    Calls Tryd.prog 50 #[x.val, .pointer (some ⟨g1, 0, none⟩)] w fun e w' => e = .returned (.bool (livL now x)) ∧ Below w.heap.size w w' := by
  obtain ⟨W, q, hW, hq, hA, hBW, hqW⟩ := boxed w x
  have HBW := Lib.hid hBW
  have k1 := (hBW.cell (p := ⟨g1, 0, none⟩) (block_lt_of_cell h1)).trans h1
  have HW := Lib.hid (And.intro hW hq)
  obtain ⟨v, f, d, t⟩ := x
  obtain ⟨c0, c1, c2, c3⟩ := hA
  have CL := Lib.hid (lives_c ⟨v, f, d, t⟩ now W)
  clear hW hq hBW hqW h1
  go_enter Tryd.func50, Tryd.ntmps50
  go_upto_region 1 with fail
  rw [show w.alloc (.cells #[.int .u32 v, .int .i64 f, .int .u32 d, .int .i64 t] tyL) = W from HW.out.1.symm, ← HW.out.2]
  go_wp2_with fail
  refine CL.out.mono ?_
  rintro e w1 ⟨rfl, hb1⟩
  have HB := Lib.hid (HBW.out.trans (hb1.mono HBW.out.size))
  clear hb1 CL
  go_wp2
  go_ret
  exact ⟨rfl, HB.out⟩
theorem findC_c (x : Ls) (a p now : Int) (g1 g2 g3 : Nat) (w : World) (hx : i64b x.first) (hp : i64b p) (h1 : w.cell? ⟨g1, 0, none⟩ = some (.int .u32 a)) (h2 : w.cell? ⟨g2, 0, none⟩ = some (.int .i64 p)) (h3 : w.cell? ⟨g3, 0, none⟩ = some (.int .i64 now)) :
    Calls Tryd.prog 45 #[x.val, .pointer (some ⟨g1, 0, none⟩), .pointer (some ⟨g2, 0, none⟩), .pointer (some ⟨g3, 0, none⟩)] w fun e w' => e = .returned (.bool (isF a p now x)) ∧ Below w.heap.size w w' := by
  obtain ⟨W, q, hW, hq, hA, hBW, hqW⟩ := boxed w x
  have HBW := Lib.hid hBW
  have k1 := (hBW.cell (p := ⟨g1, 0, none⟩) (block_lt_of_cell h1)).trans h1
  have k2 := (hBW.cell (p := ⟨g2, 0, none⟩) (block_lt_of_cell h2)).trans h2
  have k3 := (hBW.cell (p := ⟨g3, 0, none⟩) (block_lt_of_cell h3)).trans h3
  have HW := Lib.hid (And.intro hW hq)
  obtain ⟨v, f, d, t⟩ := x
  obtain ⟨c0, c1, c2, c3⟩ := hA
  have CP := Lib.hid (hasPort_c ⟨v, f, d, t⟩ p hx hp W)
  have CL := Lib.hid (fun W => lives_c ⟨v, f, d, t⟩ now W)
  have HWQ := Lib.hid hqW
  clear hW hq hBW hqW h1 h2 h3 hx hp
  by_cases e : v = a
  · obtain ⟨z, hz⟩ : ∃ z, z = hasP p ⟨v, f, d, t⟩ := ⟨_, rfl⟩
    rw [← hz] at CP
    have HE : Hid (isF a p now ⟨v, f, d, t⟩ = (livL now ⟨v, f, d, t⟩ && z)) := Lib.hid (by unfold isF; rw [decide_eq_true e, ← hz]; rfl)
    clear hz
    subst e
    have q1 : (v == v) = true := by simp
    cases z with
    | true =>
      go_enter Tryd.func45, Tryd.ntmps45
      go_upto_region 1 with fail
      rw [show w.alloc (.cells #[.int .u32 v, .int .i64 f, .int .u32 d, .int .i64 t] tyL) = W from HW.out.1.symm, ← HW.out.2]
      go_wp2_with fail
      refine CP.out.mono ?_
      rintro e w1 ⟨rfl, hb1⟩
      have d0 := (hb1.cell (p := ⟨q, 0, none⟩) HWQ.out).trans c0
      have d1 := (hb1.cell (p := ⟨q, 1, none⟩) HWQ.out).trans c1
      have d2 := (hb1.cell (p := ⟨q, 2, none⟩) HWQ.out).trans c2
      have d3 := (hb1.cell (p := ⟨q, 3, none⟩) HWQ.out).trans c3
      have m3 := (hb1.cell (p := ⟨g3, 0, none⟩) (block_lt_of_cell k3)).trans k3
      have HB := Lib.hid (HBW.out.trans (hb1.mono HBW.out.size))
      clear hb1 CP c0 c1 c2 c3 k1 k2 k3
      go_wp2_with fail
      refine (CL.out _).mono ?_
      rintro e w2 ⟨rfl, hb2⟩
      have HB2 := Lib.hid (HB.out.trans (hb2.mono HB.out.size))
      clear hb2
      go_wp2
      go_ret
      exact ⟨by rw [HE.out, Bool.and_true]; rfl, HB2.out⟩
    | false =>
      go_enter Tryd.func45, Tryd.ntmps45
      go_upto_region 1 with fail
      rw [show w.alloc (.cells #[.int .u32 v, .int .i64 f, .int .u32 d, .int .i64 t] tyL) = W from HW.out.1.symm, ← HW.out.2]
      go_wp2_with fail
      refine CP.out.mono ?_
      rintro e w1 ⟨rfl, hb1⟩
      have HB := Lib.hid (HBW.out.trans (hb1.mono HBW.out.size))
      clear hb1 CP
      go_wp2
      go_ret
      exact ⟨by rw [HE.out, Bool.and_false]; rfl, HB.out⟩
  · have HE : Hid (isF a p now ⟨v, f, d, t⟩ = false) := Lib.hid (by unfold isF; rw [decide_eq_false e]; rfl)
    have q1 : (v == a) = false := by simpa using e
    clear e CL CP
    go_enter Tryd.func45, Tryd.ntmps45
    go_upto_region 1 with fail
    rw [show w.alloc (.cells #[.int .u32 v, .int .i64 f, .int .u32 d, .int .i64 t] tyL) = W from HW.out.1.symm, ← HW.out.2]
    go_wp2
    go_ret
    exact ⟨by rw [HE.out]; rfl, HBW.out⟩
theorem renewC_c (x : Ls) (a p b now : Int) (g1 g2 g3 g4 : Nat) (w : World) (h1 : w.cell? ⟨g1, 0, none⟩ = some (.int .u32 a)) (h2 : w.cell? ⟨g2, 0, none⟩ = some (.int .i64 p)) (h3 : w.cell? ⟨g3, 0, none⟩ = some (.int .u32 b)) (h4 : w.cell? ⟨g4, 0, none⟩ = some (.int .i64 now)) :
    Calls Tryd.prog 37 #[x.val, .pointer (some ⟨g1, 0, none⟩), .pointer (some ⟨g2, 0, none⟩), .pointer (some ⟨g3, 0, none⟩), .pointer (some ⟨g4, 0, none⟩)] w fun e w' => e = .returned (.bool (isR a p b now x)) ∧ Below w.heap.size w w' := by
  obtain ⟨W, q, hW, hq, hA, hBW, hqW⟩ := boxed w x
  have HBW := Lib.hid hBW
  have k1 := (hBW.cell (p := ⟨g1, 0, none⟩) (block_lt_of_cell h1)).trans h1
  have k2 := (hBW.cell (p := ⟨g2, 0, none⟩) (block_lt_of_cell h2)).trans h2
  have k3 := (hBW.cell (p := ⟨g3, 0, none⟩) (block_lt_of_cell h3)).trans h3
  have k4 := (hBW.cell (p := ⟨g4, 0, none⟩) (block_lt_of_cell h4)).trans h4
  have HW := Lib.hid (And.intro hW hq)
  obtain ⟨v, f, d, t⟩ := x
  obtain ⟨c0, c1, c2, c3⟩ := hA
  have CL := Lib.hid (lives_c ⟨v, f, d, t⟩ now W)
  clear hW hq hBW hqW h1 h2 h3 h4
  by_cases e1 : v = a
  · have q1 : (v == a) = true := by simpa using e1
    by_cases e2 : f = p
    · have q2 : (f == p) = true := by simpa using e2
      by_cases e3 : d = b
      · have q3 : (d == b) = true := by simpa using e3
        have HE : Hid (isR a p b now ⟨v, f, d, t⟩ = livL now ⟨v, f, d, t⟩) := Lib.hid (by unfold isR; simp only; rw [decide_eq_true e1, decide_eq_true e2, decide_eq_true e3]; rfl)
        clear e1 e2 e3
        go_enter Tryd.func37, Tryd.ntmps37
        go_upto_region 1 with fail
        rw [show w.alloc (.cells #[.int .u32 v, .int .i64 f, .int .u32 d, .int .i64 t] tyL) = W from HW.out.1.symm, ← HW.out.2]
        go_wp2_with fail
        refine CL.out.mono ?_
        rintro e w1 ⟨rfl, hb1⟩
        have HB := Lib.hid (HBW.out.trans (hb1.mono HBW.out.size))
        clear hb1 CL
        go_wp2
        go_ret
        exact ⟨by rw [HE.out]; rfl, HB.out⟩
      · have HE : Hid (isR a p b now ⟨v, f, d, t⟩ = false) := Lib.hid (by unfold isR; simp only; rw [decide_eq_false e3]; simp)
        have q3 : (d == b) = false := by simpa using e3
        clear e3 e1 e2 CL
        go_enter Tryd.func37, Tryd.ntmps37
        go_upto_region 1 with fail
        rw [show w.alloc (.cells #[.int .u32 v, .int .i64 f, .int .u32 d, .int .i64 t] tyL) = W from HW.out.1.symm, ← HW.out.2]
        go_wp2
        go_ret
        exact ⟨by rw [HE.out]; rfl, HBW.out⟩
    · have HE : Hid (isR a p b now ⟨v, f, d, t⟩ = false) := Lib.hid (by unfold isR; simp only; rw [decide_eq_false e2]; simp)
      have q2 : (f == p) = false := by simpa using e2
      clear e2 e1 CL
      go_enter Tryd.func37, Tryd.ntmps37
      go_upto_region 1 with fail
      rw [show w.alloc (.cells #[.int .u32 v, .int .i64 f, .int .u32 d, .int .i64 t] tyL) = W from HW.out.1.symm, ← HW.out.2]
      go_wp2
      go_ret
      exact ⟨by rw [HE.out]; rfl, HBW.out⟩
  · have HE : Hid (isR a p b now ⟨v, f, d, t⟩ = false) := Lib.hid (by unfold isR; simp only; rw [decide_eq_false e1]; simp)
    have q1 : (v == a) = false := by simpa using e1
    clear e1 CL
    go_enter Tryd.func37, Tryd.ntmps37
    go_upto_region 1 with fail
    rw [show w.alloc (.cells #[.int .u32 v, .int .i64 f, .int .u32 d, .int .i64 t] tyL) = W from HW.out.1.symm, ← HW.out.2]
    go_wp2
    go_ret
    exact ⟨by rw [HE.out]; rfl, HBW.out⟩
theorem isGood_c (x : Ls) (ht : TyL x) (w : World) : Calls Tryd.prog 40 #[x.val] w fun e w' => e = .returned (.bool (decide (GoodL x))) ∧ Below w.heap.size w w' := by
  obtain ⟨z, hz⟩ : ∃ z, z = decide (GoodL x) := ⟨_, rfl⟩
  have HZ := Lib.hid hz
  rw [← hz]
  obtain ⟨W, q, hW, hq, hA, hBW, hqW⟩ := boxed w x
  have HBW := Lib.hid hBW
  have HT := Lib.hid ht
  have HW := Lib.hid (And.intro hW hq)
  obtain ⟨v, f, d, t⟩ := x
  obtain ⟨c0, c1, c2, c3⟩ := hA
  have CV := Lib.hid (isVip_c v ht.1.1 ht.1.2 W)
  have CM := Lib.hid (fun W => isMachine_c d ht.2.2.1.1 ht.2.2.1.2 W)
  have CB := Lib.hid (fun W => isBlock_c f ht.2.1 W)
  have HWQ := Lib.hid hqW
  clear hW hq hBW hqW ht hz
  obtain ⟨z1, hz1⟩ : ∃ z, z = decide (IsVipA v) := ⟨_, rfl⟩
  obtain ⟨z2, hz2⟩ : ∃ z, z = decide (IsDip d) := ⟨_, rfl⟩
  obtain ⟨z3, hz3⟩ : ∃ z, z = decide (OkFst f) := ⟨_, rfl⟩
  rw [← hz1] at CV
  rw [← hz2] at CM
  rw [← hz3] at CB
  have HG : Hid (z = (z1 && (z2 && (z3 && (decide (0 ≤ t) && decide (t ≤ 1099511627840)))))) := Lib.hid (by
    rw [HZ.out, hz1, hz2, hz3, Bool.eq_iff_iff]
    simp only [decide_eq_true_iff, Bool.and_eq_true]
    constructor
    · rintro ⟨a1, a2, a3, a4, a5⟩
      exact ⟨a2, a1, a3, a4, a5⟩
    · rintro ⟨a2, a1, a3, a4, a5⟩
      exact ⟨a1, a2, a3, a4, a5⟩)
  clear hz1 hz2 hz3 HZ
  cases z1 with
  | false =>
    have HF : Hid (z = false) := Lib.hid HG.out
    go_enter Tryd.func40, Tryd.ntmps40
    go_upto_region 1 with fail
    rw [show w.alloc (.cells #[.int .u32 v, .int .i64 f, .int .u32 d, .int .i64 t] tyL) = W from HW.out.1.symm, ← HW.out.2]
    go_wp2_with fail
    refine CV.out.mono ?_
    rintro e w1 ⟨rfl, hb1⟩
    have HB := Lib.hid (HBW.out.trans (hb1.mono HBW.out.size))
    clear hb1 CV
    go_wp2
    go_ret
    exact ⟨by rw [HF.out]; rfl, HB.out⟩
  | true =>
    cases z2 with
    | false =>
      have HF : Hid (z = false) := Lib.hid HG.out
      go_enter Tryd.func40, Tryd.ntmps40
      go_upto_region 1 with fail
      rw [show w.alloc (.cells #[.int .u32 v, .int .i64 f, .int .u32 d, .int .i64 t] tyL) = W from HW.out.1.symm, ← HW.out.2]
      go_wp2_with fail
      refine CV.out.mono ?_
      rintro e w1 ⟨rfl, hb1⟩
      have d11 := (hb1.cell (p := ⟨q, 1, none⟩) HWQ.out).trans c1
      have d12 := (hb1.cell (p := ⟨q, 2, none⟩) HWQ.out).trans c2
      have d13 := (hb1.cell (p := ⟨q, 3, none⟩) HWQ.out).trans c3
      have HB1 := Lib.hid (HBW.out.trans (hb1.mono HBW.out.size))
      clear hb1 CV c0 c1 c2 c3
      go_wp2_with fail
      refine (CM.out _).mono ?_
      rintro e w2 ⟨rfl, hb2⟩
      have HB := Lib.hid (HB1.out.trans (hb2.mono HB1.out.size))
      clear hb2 CM
      go_wp2
      go_ret
      exact ⟨by rw [HF.out]; rfl, HB.out⟩
    | true =>
      have HWQ0 := HWQ
      cases z3 with
      | false =>
        have HF : Hid (z = false) := Lib.hid HG.out
        go_enter Tryd.func40, Tryd.ntmps40
        go_upto_region 1 with fail
        rw [show w.alloc (.cells #[.int .u32 v, .int .i64 f, .int .u32 d, .int .i64 t] tyL) = W from HW.out.1.symm, ← HW.out.2]
        go_wp2_with fail
        refine CV.out.mono ?_
        rintro e w1 ⟨rfl, hb1⟩
        have d11 := (hb1.cell (p := ⟨q, 1, none⟩) HWQ.out).trans c1
        have d12 := (hb1.cell (p := ⟨q, 2, none⟩) HWQ.out).trans c2
        have d13 := (hb1.cell (p := ⟨q, 3, none⟩) HWQ.out).trans c3
        have HB1 := Lib.hid (HBW.out.trans (hb1.mono HBW.out.size))
        have HW1 := Lib.hid (Nat.lt_of_lt_of_le HWQ.out hb1.size)
        clear hb1 CV c0 c1 c2 c3
        go_wp2_with fail
        refine (CM.out _).mono ?_
        rintro e w2 ⟨rfl, hb2⟩
        have d21 := (hb2.cell (p := ⟨q, 1, none⟩) HW1.out).trans d11
        have d23 := (hb2.cell (p := ⟨q, 3, none⟩) HW1.out).trans d13
        have HB2 := Lib.hid (HB1.out.trans (hb2.mono HB1.out.size))
        clear hb2 CM d11 d12 d13
        go_wp2_with fail
        refine (CB.out _).mono ?_
        rintro e w3 ⟨rfl, rfl⟩
        clear CB
        go_wp2
        go_ret
        exact ⟨by rw [HF.out]; rfl, HB2.out⟩
      | true =>
        by_cases l1 : 0 ≤ t
        · have HF : Hid (z = decide (t ≤ 1099511627840)) := Lib.hid (HG.out.trans (by rw [decide_eq_true l1]; rfl))
          go_enter Tryd.func40, Tryd.ntmps40
          go_upto_region 1 with fail
          rw [show w.alloc (.cells #[.int .u32 v, .int .i64 f, .int .u32 d, .int .i64 t] tyL) = W from HW.out.1.symm, ← HW.out.2]
          go_wp2_with fail
          refine CV.out.mono ?_
          rintro e w1 ⟨rfl, hb1⟩
          have d11 := (hb1.cell (p := ⟨q, 1, none⟩) HWQ.out).trans c1
          have d12 := (hb1.cell (p := ⟨q, 2, none⟩) HWQ.out).trans c2
          have d13 := (hb1.cell (p := ⟨q, 3, none⟩) HWQ.out).trans c3
          have HB1 := Lib.hid (HBW.out.trans (hb1.mono HBW.out.size))
          have HW1 := Lib.hid (Nat.lt_of_lt_of_le HWQ.out hb1.size)
          clear hb1 CV c0 c1 c2 c3
          go_wp2_with fail
          refine (CM.out _).mono ?_
          rintro e w2 ⟨rfl, hb2⟩
          have d21 := (hb2.cell (p := ⟨q, 1, none⟩) HW1.out).trans d11
          have d23 := (hb2.cell (p := ⟨q, 3, none⟩) HW1.out).trans d13
          have HB2 := Lib.hid (HB1.out.trans (hb2.mono HB1.out.size))
          clear hb2 CM d11 d12 d13
          go_wp2_with fail
          refine (CB.out _).mono ?_
          rintro e w3 ⟨rfl, rfl⟩
          clear CB
          go_wp2
          go_ret
          exact ⟨by rw [HF.out]; rfl, HB2.out⟩
        · have HF : Hid (z = false) := Lib.hid (HG.out.trans (by rw [decide_eq_false l1]; rfl))
          go_enter Tryd.func40, Tryd.ntmps40
          go_upto_region 1 with fail
          rw [show w.alloc (.cells #[.int .u32 v, .int .i64 f, .int .u32 d, .int .i64 t] tyL) = W from HW.out.1.symm, ← HW.out.2]
          go_wp2_with fail
          refine CV.out.mono ?_
          rintro e w1 ⟨rfl, hb1⟩
          have d11 := (hb1.cell (p := ⟨q, 1, none⟩) HWQ.out).trans c1
          have d12 := (hb1.cell (p := ⟨q, 2, none⟩) HWQ.out).trans c2
          have d13 := (hb1.cell (p := ⟨q, 3, none⟩) HWQ.out).trans c3
          have HB1 := Lib.hid (HBW.out.trans (hb1.mono HBW.out.size))
          have HW1 := Lib.hid (Nat.lt_of_lt_of_le HWQ.out hb1.size)
          clear hb1 CV c0 c1 c2 c3
          go_wp2_with fail
          refine (CM.out _).mono ?_
          rintro e w2 ⟨rfl, hb2⟩
          have d21 := (hb2.cell (p := ⟨q, 1, none⟩) HW1.out).trans d11
          have d23 := (hb2.cell (p := ⟨q, 3, none⟩) HW1.out).trans d13
          have HB2 := Lib.hid (HB1.out.trans (hb2.mono HB1.out.size))
          clear hb2 CM d11 d12 d13
          go_wp2_with fail
          refine (CB.out _).mono ?_
          rintro e w3 ⟨rfl, rfl⟩
          clear CB
          go_wp2
          go_ret
          exact ⟨by rw [HF.out]; rfl, HB2.out⟩
end Go.Proofs.YtanajblldlgalaaDoor
