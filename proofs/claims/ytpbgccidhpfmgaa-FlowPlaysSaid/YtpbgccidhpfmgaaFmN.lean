/- A nil table: Remove. Conditions: as each states. A nil table: Put and Touch. Conditions: as each states. -/
import Derived.Test.YtpbgccidhpfmgaaFmY
import Derived.Test.YtpbgccidhpfmgaaFmD
import Derived.Test.YtpbgccidhpfmgaaFmQ
import Derived.Test.YtpbgccidhpfmgaaFmT
namespace Go.Proofs.Ytpbgccidhpfmgaa
open Go Go.RowKit Go.Maps
set_option linter.unusedVariables false
set_option linter.unusedSimpArgs false

theorem get_nilM {w : World} {f : Fl} (hf : FitF f) : (Instr.lookup tyM (.map none) f.val false).run Try.prog w = .ok en0.val w := by
  obtain ⟨kl, hk⟩ := keyF hf
  exact Maps.look_nil false lawF Try.underlying106 (zeroM w) hk
theorem drop_nilM {w : World} {f : Fl} (hf : FitF f) (ty : TypeId) : (Builtin.delete_ #[tyM, tyF] ty #[.map none, f.val]).run Try.prog w = .ok (.tuple #[]) w := by
  obtain ⟨kl, hk⟩ := keyF hf
  exact Maps.drop_nil lawF Try.underlying106 hk ty
set_option maxRecDepth 100000 in
set_option maxHeartbeats 4000000 in
theorem tremN_t (fs : List Fl) (a : Option Addr) (n c : Nat) (w : World) (hI : InF w a n fs) (hf : ∀ f ∈ fs, FitF f) (hn : n ≤ 1048576) : Calls Try.prog 21 #[.pointer none, .slice a n c] w fun e w' => e = .returned (.int .i64 0) ∧ Below w.heap.size w w' := by
  have HI := Lib.hid hI
  have HFF := Lib.hid hf
  have hlen := hI.len
  have hO := orE_n w
  have hc0 : ∀ i, (w.alloc tbl0).cell? ⟨w.heap.size, i, none⟩ = (#[.int .i64 0, .int .i64 0, .map none, .int .i64 0] : Array Value)[i]? := fun i => cell_of_row _ _ i _ _ _ (MapKept.heap_alloc w tbl0).1
  have c2 : (w.alloc tbl0).cell? ⟨w.heap.size, 2, none⟩ = some (.map none) := hc0 2
  have hb : Below w.heap.size w (w.alloc tbl0) := bl_al (Below.refl _ _) _
  obtain ⟨p, hp⟩ : ∃ p, p = w.heap.size := ⟨_, rfl⟩
  obtain ⟨v1, hv1⟩ : ∃ v, v = w.alloc tbl0 := ⟨_, rfl⟩
  have HB1 := Lib.hid (show Below w.heap.size w v1 by rw [hv1]; exact hb)
  have HC2 := Lib.hid (show v1.cell? ⟨p, 2, none⟩ = some (.map none) by rw [hv1, hp]; exact c2)
  rw [← hp, ← hv1] at c2
  have kl : ∀ ty, (Builtin.len_ #[tyM] ty #[.map none]).run Try.prog v1 = .ok (.int .i64 0) v1 := fun ty => Maps.len_nil Try.underlying106 ty
  have R0 : Hid (Below v1.heap.size v1 v1) := Lib.hid (Below.refl _ _)
  have HV := Lib.hid (And.intro hp hv1)
  clear hI hf hc0 hb
  go_enter Try.func21, Try.ntmps21
  go_wp2_with fail
  refine hO.mono ?_
  rintro e w1 ⟨rfl, rfl⟩
  rw [← hv1, ← hp]
  clear hO hp hv1
  go_wp2
  clear kl c2
  go_loopw [17] (fun iv wr => ∃ i : Nat, i ≤ n ∧ iv = .int .i64 i ∧ Hid (Below v1.heap.size v1 wr)) (fun iv _ => n - (intOf iv).toNat)
  case atStart => exact ⟨0, by omega, rfl, R0⟩
  case round =>
    obtain ⟨i, hi, rfl, HR⟩ := hrel
    obtain ⟨w2, rfl⟩ : ∃ v, v = wr := ⟨_, rfl⟩
    clear R0
    have hbw : Below w.heap.size w w2 := bl_tr HB1.out HR.out
    have c2 : w2.cell? ⟨p, 2, none⟩ = some (.map none) := (tch_new HR.out).cell HC2.out (fun h => h)
    by_cases hlt : i < n
    · have ii : (i : Int) < (n : Int) := by omega
      have i0 : (0 : Int) ≤ (i : Int) := by omega
      have hI2 := HI.out.tch (tch_new hbw) (fun _ _ _ _ h => h)
      obtain ⟨kb, ko, hab, hfl⟩ := hI2.at hlt
      have hff : FitF (fs.getD i fl0) := HFF.out _ (getD_in (by omega))
      obtain ⟨f, hf⟩ : ∃ f, f = fs.getD i fl0 := ⟨_, rfl⟩
      rw [← hf] at hfl hff
      obtain ⟨f0, f1, f2, f3, f4⟩ := hfl
      subst hab
      obtain ⟨W1, hW1⟩ : ∃ v, v = w2.alloc f.obj := ⟨_, rfl⟩
      obtain ⟨r, hr⟩ : ∃ r, r = w2.heap.size := ⟨_, rfl⟩
      have hfl1 : FlAt W1 r f := by rw [hW1, hr]; exact flAt_new w2 f
      have hb1 : Below w2.heap.size w2 W1 := by rw [hW1]; exact bl_al (Below.refl _ _) _
      have HR1 := Lib.hid (show Below v1.heap.size v1 W1 from bl_tr HR.out hb1)
      have HCW := Lib.hid ((tch_new hb1).cell c2 (fun h => h))
      have HW1 := Lib.hid hW1
      have HRR := Lib.hid hr
      clear hf hI2 hW1 hr hbw hb1
      go_upto_region 6 with fail
      rw [← HRR.out, ← HW1.out]
      have HFL1 := Lib.hid hfl1
      have hfd : ∀ X : World, (Instr.field tyE en0.val 3).run Try.prog X = .ok (.bool false) X := fun X => by kernel_rfl
      have hk : ∀ k, (Instr.lookup tyM (.map none) f.val false).run Try.prog (W1.drewN k) = .ok en0.val (W1.drewN k) := fun k => get_nilM hff
      have d2 := HCW.out
      obtain ⟨e0, e1, e2, e3, e4⟩ := hfl1
      clear f0 f1 f2 f3 f4 c2
      dsimp only [en0, fl0, En.val] at hfd hk
      go_quiet (fail)
      obtain ⟨W2, hv⟩ : ∃ v, v = W1.drewN nq := ⟨_, rfl⟩
      have hb2 : Below W1.heap.size W1 W2 := by rw [hv]; exact bl_dn (Below.refl _ _) nq
      have HR2 := Lib.hid (show Below v1.heap.size v1 W2.drew from bl_dr (bl_tr HR1.out hb2))
      have hfl2 : FlAt W2 r f := flAt_below HFL1.out hb2 (block_lt_of_cell HFL1.out.1)
      have t2 := (tch_new hb2).cell HCW.out (fun h => h)
      rw [← hv]
      have HV2 := Lib.hid hv
      clear hk hfd hv d2 e0 e1 e2 e3 e4 hb2
      go_upto_region 8 with fail
      have hk4 := drop_nilM (w := W2.drew) hff 0
      obtain ⟨g0, g1, g2, g3, g4⟩ := hfl2
      have hS0 : W2.drew.cell? ⟨p, 2, none⟩ = some (.map none) ∧ W2.drew.cell? ⟨r, 0, none⟩ = some (.int .i64 f.p) ∧ W2.drew.cell? ⟨r, 1, none⟩ = some (.int .u32 f.s) ∧ W2.drew.cell? ⟨r, 2, none⟩ = some (.int .i64 f.sp) ∧ W2.drew.cell? ⟨r, 3, none⟩ = some (.int .u32 f.d) ∧ W2.drew.cell? ⟨r, 4, none⟩ = some (.int .i64 f.dp) := ⟨t2, g0, g1, g2, g3, g4⟩
      clear g0 g1 g2 g3 g4 t2
      go_region_held3 (fun wx => wx.cell? ⟨p, 2, none⟩ = some (.map none) ∧ wx.cell? ⟨r, 0, none⟩ = some (.int .i64 f.p) ∧ wx.cell? ⟨r, 1, none⟩ = some (.int .u32 f.s) ∧ wx.cell? ⟨r, 2, none⟩ = some (.int .i64 f.sp) ∧ wx.cell? ⟨r, 3, none⟩ = some (.int .u32 f.d) ∧ wx.cell? ⟨r, 4, none⟩ = some (.int .i64 f.dp)) (first | (with_reducible exact hS0) | fail)
        (first | fail)
      clear hS0
      go_wp2
      go_roundw
      case rel => exact ⟨i + 1, by omega, by go_num, HR2⟩
      case measure => simp [intOf]; omega
    · obtain rfl : i = n := by omega
      have ii : ¬ (i : Int) < (i : Int) := by omega
      have kl : ∀ ty, (Builtin.len_ #[tyM] ty #[.map none]).run Try.prog w2 = .ok (.int .i64 0) w2 := fun ty => Maps.len_nil Try.underlying106 ty
      have HBW := Lib.hid hbw
      clear hbw
      go_wp2
      go_ret
      exact ⟨rfl, HBW.out⟩
end Go.Proofs.Ytpbgccidhpfmgaa
namespace Go.Proofs.Ytpbgccidhpfmgaa
open Go Go.RowKit Go.Maps
set_option linter.unusedVariables false
set_option linter.unusedSimpArgs false

set_option maxRecDepth 100000 in
set_option maxHeartbeats 4000000 in
theorem tputN_t (f : Fl) (dip ep now : Int) (w : World) (hf : FitF f) : Calls Try.prog 14 #[.pointer none, f.val, .int .u32 dip, .int .i64 ep, .int .i64 now] w fun e w' => e = .returned (.tuple #[en0.val, .bool false, errnoF (codeN f now)]) ∧ Below w.heap.size w w' := by
  obtain ⟨W, hW, ff, hz, hb1, hsz⟩ := put_boxes w f
  obtain ⟨q, hq⟩ : ∃ q, q = w.heap.size := ⟨_, rfl⟩
  rw [← hq] at ff hz hsz
  have hpu : PuB w W q f := ⟨ff, hz, hb1, by omega⟩
  have CK := Lib.hid (chk_c f W)
  obtain ⟨d0, d1, d2, d3, d4⟩ := ff
  have HW := Lib.hid hW
  have HQ := Lib.hid hq
  have HPU := Lib.hid hpu
  clear hW hq hz hb1 hpu
  go_enter Try.func14, Try.ntmps14
  go_upto_region 1 with fail
  rw [HW.out, ← HQ.out]
  go_wp2_with fail
  refine CK.out.mono ?_
  rintro e w1 ⟨rfl, hb2⟩
  have HPU1 := Lib.hid (HPU.out.new hb2)
  clear hb2 CK d0 d1 d2 d3 d4
  by_cases hg : GoodF f
  · rw [show chkF f = Value.nilIface from if_pos hg]
    have hti := isT_c now w1
    by_cases hok : OkN now
    · rw [decide_eq_true hok] at hti
      have HR := Lib.hid (show codeN f now = 5 from by unfold codeN; rw [if_neg (fun h => h hg), if_neg (fun h => h hok)])
      clear hok hg
      go_wp2_with fail
      refine hti.mono ?_
      rintro e w2 ⟨rfl, rfl⟩
      clear hti
      have hO := orE_n w1
      go_wp2_with fail
      refine hO.mono ?_
      rintro e w2 ⟨rfl, rfl⟩
      clear hO
      have k1 := fun X : World => look_nilM (w := X) hf
      have hc0 : ∀ i, (w1.alloc tbl0).cell? ⟨w1.heap.size, i, none⟩ = (#[.int .i64 0, .int .i64 0, .map none, .int .i64 0] : Array Value)[i]? := fun i => cell_of_row _ _ i _ _ _ (MapKept.heap_alloc w1 tbl0).1
      have c1 : (w1.alloc tbl0).cell? ⟨w1.heap.size, 1, none⟩ = some (.int .i64 0) := hc0 1
      have c2 : (w1.alloc tbl0).cell? ⟨w1.heap.size, 2, none⟩ = some (.map none) := hc0 2
      have HPU3 := Lib.hid (HPU1.out.new (bl_al (Below.refl _ _) tbl0))
      obtain ⟨p, hp⟩ : ∃ p, p = w1.heap.size := ⟨_, rfl⟩
      have hqp : q + 1 < p := by rw [hp]; exact HPU1.out.size
      obtain ⟨v1, hv1⟩ : ∃ v, v = w1.alloc tbl0 := ⟨_, rfl⟩
      obtain ⟨r, hr⟩ : ∃ r, r = v1.heap.size := ⟨_, rfl⟩
      have hpr : p + 1 = r := by rw [hr, hv1, hp]; simp
      rw [← hv1] at HPU3 c1 c2
      rw [← hp] at c1 c2
      rw [← hv1, ← hp]
      have hr' := hr.symm
      obtain ⟨d0, d1, d2, d3, d4⟩ := HPU3.out.fl
      have HV := Lib.hid (And.intro hp (And.intro hv1 hpr))
      clear hc0 hp hv1 hr hpr
      go_upto_region 7 with fail
      go_cut [14, 15] from 29 to 39 (fun u14 u15 wx => u14 = .pointer (some ⟨r, 0, none⟩) ∧ u15 = .bool false ∧ wx = (v1.alloc en0.obj).drew)
      case first =>
        have hS0 : v1.drew.cell? ⟨p, 2, none⟩ = some (.map none) ∧ v1.drew.cell? ⟨q, 0, none⟩ = some (.int .i64 f.p) ∧ v1.drew.cell? ⟨q, 1, none⟩ = some (.int .u32 f.s) ∧ v1.drew.cell? ⟨q, 2, none⟩ = some (.int .i64 f.sp) ∧ v1.drew.cell? ⟨q, 3, none⟩ = some (.int .u32 f.d) ∧ v1.drew.cell? ⟨q, 4, none⟩ = some (.int .i64 f.dp) := ⟨c2, d0, d1, d2, d3, d4⟩
        go_region_held3 (fun wx => wx.cell? ⟨p, 2, none⟩ = some (.map none) ∧ wx.cell? ⟨q, 0, none⟩ = some (.int .i64 f.p) ∧ wx.cell? ⟨q, 1, none⟩ = some (.int .u32 f.s) ∧ wx.cell? ⟨q, 2, none⟩ = some (.int .i64 f.sp) ∧ wx.cell? ⟨q, 3, none⟩ = some (.int .u32 f.d) ∧ wx.cell? ⟨q, 4, none⟩ = some (.int .i64 f.dp)) (first | (with_reducible exact hS0) | go_keep | fail)
          (first | fail)
        all_goals (
          go_wp2
          go_meet
          exact ⟨rfl, rfl, rfl⟩)
      case rest =>
        obtain ⟨rfl, rfl, rfl⟩ := hcut
        obtain ⟨w2, hw2⟩ : ∃ v, v = ((v1.alloc en0.obj).alloc (.cells zeroE tyE)).drew := ⟨_, rfl⟩
        have hs1 : (v1.alloc en0.obj).heap.size = r + 1 := by rw [← hr']; simp
        have hbb : Below v1.heap.size v1 w2 := by rw [hw2]; exact bl_dr (bl_al (bl_al (Below.refl _ _) _) _)
        have HPU2 := Lib.hid (HPU3.out.new hbb)
        have hb3 : Below w1.heap.size w1 w2 := by rw [hw2, HV.out.2.1]; exact bl_dr (bl_al (bl_al (bl_al (Below.refl _ _) _) _) _)
        have t1 : w2.cell? ⟨p, 1, none⟩ = some (.int .i64 0) := (tch_new hbb).cell c1 (fun h => h)
        have HW2 := Lib.hid hw2
        clear hbb hb3 hw2 k1 d0 d1 d2 d3 d4 c1 c2 hr'
        go_upto_region 9 with fail
        rw [← HW2.out]
        clear hs1
        obtain ⟨W3, hW3, hx3, hb3⟩ := ret_box HPU2.out HQ.out en0
        obtain ⟨b0, b1, b2, b3, b4, b5, b6, b7, b8, b9⟩ := HPU2.out.res.cs
        have bf := HPU2.out.res.free
        have HB3 := Lib.hid hb3
        have hw3 := hW3
        dsimp only [stE] at hw3
        have HW3 := Lib.hid hw3
        clear hW3 hw3 hb3
        go_wp2
        have hw3 := HW3.out
        simp only [en0, fl0] at hw3
        rw [← hw3]
        obtain ⟨a0, a1, a2, a3, a4, a5, a6, a7, a8, a9⟩ := hx3.cs
        refine bodyPost_ret (v := .tuple #[en0.val, .bool false, errnoF 5]) (by simp [results, Try.results14, go_sem, a0, a1, a2, a3, a4, a5, a6, a7, a8, a9]) rfl ?_
        exact ⟨by rw [HR.out], HB3.out⟩
    · rw [decide_eq_false hok] at hti
      have HR := Lib.hid (show codeN f now = 4 from by unfold codeN; rw [if_neg (fun h => h hg), if_pos hok])
      clear hok hg
      go_wp2_with fail
      refine hti.mono ?_
      rintro e w2 ⟨rfl, rfl⟩
      clear hti
      obtain ⟨W3, hW3, hx3, hb3⟩ := ret_box HPU1.out HQ.out en0
      obtain ⟨b0, b1, b2, b3, b4, b5, b6, b7, b8, b9⟩ := HPU1.out.res.cs
      have bf := HPU1.out.res.free
      have HB3 := Lib.hid hb3
      have hw3 := hW3
      dsimp only [stE] at hw3
      have HW3 := Lib.hid hw3
      clear hW3 hw3 hb3
      go_wp2
      have hw3 := HW3.out
      simp only [en0, fl0] at hw3
      rw [← hw3]
      obtain ⟨a0, a1, a2, a3, a4, a5, a6, a7, a8, a9⟩ := hx3.cs
      refine bodyPost_ret (v := .tuple #[en0.val, .bool false, errnoF 4]) (by simp [results, Try.results14, go_sem, a0, a1, a2, a3, a4, a5, a6, a7, a8, a9]) rfl ?_
      exact ⟨by rw [HR.out], HB3.out⟩
  · rw [show chkF f = errnoF 9 from if_neg hg]
    have HR := Lib.hid (show codeN f now = 9 from if_pos hg)
    clear hg
    obtain ⟨W3, hW3, hx3, hb3⟩ := ret_box HPU1.out HQ.out en0
    obtain ⟨b0, b1, b2, b3, b4, b5, b6, b7, b8, b9⟩ := HPU1.out.res.cs
    have bf := HPU1.out.res.free
    have HB3 := Lib.hid hb3
    have hw3 := hW3
    dsimp only [stE] at hw3
    have HW3 := Lib.hid hw3
    clear hW3 hw3 hb3
    go_wp2
    have hw3 := HW3.out
    simp only [en0, fl0] at hw3
    rw [← hw3]
    obtain ⟨a0, a1, a2, a3, a4, a5, a6, a7, a8, a9⟩ := hx3.cs
    refine bodyPost_ret (v := .tuple #[en0.val, .bool false, errnoF 9]) (by simp [results, Try.results14, go_sem, a0, a1, a2, a3, a4, a5, a6, a7, a8, a9]) rfl ?_
    exact ⟨by rw [HR.out], HB3.out⟩
set_option maxRecDepth 100000 in
set_option maxHeartbeats 4000000 in
theorem ttouchN_t (f : Fl) (flags now : Int) (w : World) (hf : FitF f) (hg : InN flags) (ho : InN now) : Calls Try.prog 17 #[.pointer none, f.val, .int .i64 flags, .int .i64 now] w fun e w' => e = .returned (.bool false) ∧ Below w.heap.size w w' := by
  obtain ⟨W, hW, ff, hb1, hsz⟩ := touch_box w f
  have k1 := fun X : World => look_nilM (w := X) hf
  have hO := Lib.hid (orE_n W)
  obtain ⟨q, hq⟩ : ∃ q, q = w.heap.size := ⟨_, rfl⟩
  rw [← hq] at ff hsz
  have HFF := Lib.hid ff
  have HW := Lib.hid hW
  have HQ := Lib.hid hq
  have HB := Lib.hid hb1
  clear hW hb1 hq
  go_enter Try.func17, Try.ntmps17
  go_upto_region 1 with fail
  rw [HW.out, ← HQ.out]
  go_wp2_with fail
  refine hO.out.mono ?_
  rintro e w1 ⟨rfl, rfl⟩
  have hc0 : ∀ i, (W.alloc tbl0).cell? ⟨W.heap.size, i, none⟩ = (#[.int .i64 0, .int .i64 0, .map none, .int .i64 0] : Array Value)[i]? := fun i => cell_of_row _ _ i _ _ _ (MapKept.heap_alloc W tbl0).1
  have c2 : (W.alloc tbl0).cell? ⟨W.heap.size, 2, none⟩ = some (.map none) := hc0 2
  obtain ⟨p, hp⟩ : ∃ p, p = W.heap.size := ⟨_, rfl⟩
  obtain ⟨v1, hv1⟩ : ∃ v, v = W.alloc tbl0 := ⟨_, rfl⟩
  obtain ⟨r, hr⟩ : ∃ r, r = v1.heap.size := ⟨_, rfl⟩
  have hfl : FlAt v1 q f := by rw [hv1]; exact flAt_below HFF.out (bl_al (Below.refl _ _) _) (by omega)
  have HB2 := Lib.hid (show Below w.heap.size w (v1.alloc en0.obj).drew by rw [hv1]; exact bl_dr (bl_al (bl_al HB.out _) _))
  rw [← hv1, ← hp] at c2
  rw [← hv1, ← hp]
  have hr' := hr.symm
  obtain ⟨d0, d1, d2, d3, d4⟩ := hfl
  clear hc0 hp hv1 hr hO
  go_upto_region 2 with fail
  go_cut [9, 10] from 12 to 22 (fun u9 u10 wx => u9 = .pointer (some ⟨r, 0, none⟩) ∧ u10 = .bool false ∧ wx = (v1.alloc en0.obj).drew)
  case first =>
    have hS0 : v1.drew.cell? ⟨p, 2, none⟩ = some (.map none) ∧ v1.drew.cell? ⟨q, 0, none⟩ = some (.int .i64 f.p) ∧ v1.drew.cell? ⟨q, 1, none⟩ = some (.int .u32 f.s) ∧ v1.drew.cell? ⟨q, 2, none⟩ = some (.int .i64 f.sp) ∧ v1.drew.cell? ⟨q, 3, none⟩ = some (.int .u32 f.d) ∧ v1.drew.cell? ⟨q, 4, none⟩ = some (.int .i64 f.dp) := ⟨c2, d0, d1, d2, d3, d4⟩
    go_region_held3 (fun wx => wx.cell? ⟨p, 2, none⟩ = some (.map none) ∧ wx.cell? ⟨q, 0, none⟩ = some (.int .i64 f.p) ∧ wx.cell? ⟨q, 1, none⟩ = some (.int .u32 f.s) ∧ wx.cell? ⟨q, 2, none⟩ = some (.int .i64 f.sp) ∧ wx.cell? ⟨q, 3, none⟩ = some (.int .u32 f.d) ∧ wx.cell? ⟨q, 4, none⟩ = some (.int .i64 f.dp)) (first | (with_reducible exact hS0) | go_keep | fail)
      (first | fail)
    all_goals (
      go_wp2
      go_meet
      exact ⟨rfl, rfl, rfl⟩)
  case rest =>
    obtain ⟨rfl, rfl, rfl⟩ := hcut
    clear k1 d0 d1 d2 d3 d4 c2
    go_wp2
    go_ret
    exact ⟨rfl, HB2.out⟩
end Go.Proofs.Ytpbgccidhpfmgaa
