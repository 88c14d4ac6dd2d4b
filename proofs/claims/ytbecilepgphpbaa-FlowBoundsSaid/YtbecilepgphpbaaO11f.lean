/- Contract of towpathlaw11.FlowIdles: it returns true. Conditions: the flow's addresses fit their kinds. From the guide's word for arguments to flows, scripts and quotas in memory. No conditions. -/
import Derived.Test.YtbecilepgphpbaaFkN
import Derived.OpenShut
import Derived.SizedLaws
import Derived.Lib.SmallJoins
import Derived.Deep.Slices
import Derived.Deep.Grids
namespace Go.Proofs.Ytbecilepgphpbaa
open Go Go.RowKit
set_option linter.unusedVariables false
set_option linter.unusedSimpArgs false

theorem FlAt.kept {K : Nat → Prop} {w w' : World} {x : Nat} {f : Fl} (h : FlAt w x f) (hk : Kpt K w w') (hx : K x) : FlAt w' x f := by
  obtain ⟨h0, h1, h2, h3, h4⟩ := h
  exact ⟨hk.cell h0 hx, hk.cell h1 hx, hk.cell h2 hx, hk.cell h3 hx, hk.cell h4 hx⟩
theorem idl_put {f : Fl} {now : Int} (hg : GoodF f) (hn : OkN now) : putE 5 f 1 1 now [] = (none, 0, [newE f 1 1 now]) := by
  rw [put_room hg hn rfl (by decide) (by decide)]
  rfl
def idlY (f : Fl) (flags now : Int) : En := ⟨f, 1, 1, !synB f.p flags, finB f.p flags, now⟩
theorem idl_touch {f : Fl} {flags now : Int} (hn : OkN now) : touchE 5 f flags now [newE f 1 1 now] = (true, [idlY f flags now]) := by
  have h1 : findE f [newE f 1 1 now] = some (newE f 1 1 now) := by unfold findE newE; simp
  rw [touch_some h1 hn]
  have h2 : trE [newE f 1 1 now] = 0 := rfl
  unfold setE tchE idlY newE
  have h3 : decide ((trE [⟨f, 1, 1, false, false, now⟩] : Int) < 5) = true := rfl
  simp only [List.map_cons, List.map_nil, h3]
  cases synB f.p flags <;> cases finB f.p flags <;> simp
theorem idl_no {f : Fl} {flags now : Int} (hn : 0 ≤ now ∧ now ≤ 549755813888) : expE (now + limE (idlY f flags now)) [idlY f flags now] = ([], [idlY f flags now]) := by
  have hl : 0 ≤ limE (idlY f flags now) ∧ limE (idlY f flags now) ≤ 60 := by unfold limE; repeat' split; all_goals omega
  have hi : idleE (now + limE (idlY f flags now)) (idlY f flags now) = false := by
    unfold idleE
    apply decide_eq_false
    have : (idlY f flags now).la = now := rfl
    rw [this]
    omega
  unfold expE
  rw [if_pos (by unfold OkN; omega), List.filter_cons_of_neg (by rw [hi]; simp), List.filter_cons_of_pos (by rw [hi]; rfl)]
  rfl
theorem idl_yes {f : Fl} {flags now : Int} (hn : 0 ≤ now ∧ now ≤ 549755813888) : expE (now + limE (idlY f flags now) + 1) [idlY f flags now] = ([f], []) := by
  have hl : 0 ≤ limE (idlY f flags now) ∧ limE (idlY f flags now) ≤ 60 := by unfold limE; repeat' split; all_goals omega
  have hi : idleE (now + limE (idlY f flags now) + 1) (idlY f flags now) = true := by
    unfold idleE
    apply decide_eq_true
    have : (idlY f flags now).la = now := rfl
    rw [this]
    omega
  unfold expE
  rw [if_pos (by unfold OkN; omega), List.filter_cons_of_pos hi, List.filter_cons_of_neg (by rw [hi]; simp)]
  rfl
theorem idl_lim {f : Fl} {flags now : Int} : limE (idlY f flags now) = if finB f.p flags then 5 else if synB f.p flags then 10 else 60 := by
  unfold limE idlY
  cases finB f.p flags <;> cases synB f.p flags <;> rfl
set_option maxRecDepth 100000 in
set_option maxHeartbeats 8000000 in
theorem flowIdles_t (f : Fl) (flags now : Int) (w : World) (hf : FitF f) (hfl : InN flags) (hnw : InN now) :
    Calls Try.prog 6 #[f.val, .int .i64 flags, .int .i64 now] w fun e w' => e = .returned (.bool true) ∧ Below w.heap.size w w' := by
  have en := nilNe
  obtain ⟨W, hW⟩ : ∃ W, W = w.alloc f.obj := ⟨_, rfl⟩
  have hb0 : Below w.heap.size w W := by rw [hW]; exact bl_al (Below.refl _ _) _
  have hx : FlAt W w.heap.size f := by rw [hW]; exact flAt_new w f
  obtain ⟨x, hxe⟩ : ∃ x, x = w.heap.size := ⟨_, rfl⟩
  rw [← hxe] at hx
  have CA := Lib.hid (alive11_any W)
  have HW := Lib.hid (And.intro hW hxe)
  have HF := Lib.hid (And.intro hf (And.intro hfl hnw))
  have HB0 := Lib.hid hb0
  have HX0 := Lib.hid hx
  clear hf hfl hW hxe hb0 hx
  unfold InN at hnw
  go_enter Try.func6, Try.ntmps6
  go_upto_region 1 with fail
  rw [← HW.out.1, ← HW.out.2]
  go_wp2_with fail
  refine CA.out.mono ?_
  rintro e w1 ⟨rfl, hb⟩
  have HB1 := Lib.hid (HB0.out.trans (hb.mono HB0.out.size))
  have hx1 := flAt_below HX0.out hb (block_lt_of_cell HX0.out.1)
  have HX1 := Lib.hid hx1
  have CG := Lib.hid (refGood_c f w1)
  obtain ⟨x0, x1, x2, x3, x4⟩ := hx1
  clear CA hb HB0 HX0
  by_cases hg : GoodF f
  · have hgd : decide (GoodF f) = true := decide_eq_true hg
    rw [hgd] at CG
    by_cases n0 : now < 0
    · clear hg hgd
      go_wp2_with fail
      refine CG.out.mono ?_
      rintro e w2 ⟨rfl, hb⟩
      have HB2 := Lib.hid (HB1.out.trans (hb.mono HB1.out.size))
      clear hb
      go_wp2
      go_ret
      exact ⟨rfl, HB2.out⟩
    · by_cases n1 : 549755813888 < now
      · clear hg hgd
        go_wp2_with fail
        refine CG.out.mono ?_
        rintro e w2 ⟨rfl, hb⟩
        have HB2 := Lib.hid (HB1.out.trans (hb.mono HB1.out.size))
        clear hb
        go_wp2
        go_ret
        exact ⟨rfl, HB2.out⟩
      · have HN : Hid (0 ≤ now ∧ now ≤ 549755813888) := Lib.hid (by omega)
        have HG := Lib.hid hg
        clear hg hgd
        go_wp2_with fail
        refine CG.out.mono ?_
        rintro e w2 ⟨rfl, hb⟩
        have HB2 := Lib.hid (HB1.out.trans (hb.mono HB1.out.size))
        have hx2 := flAt_below HX1.out hb (block_lt_of_cell HX1.out.1)
        have HX2 := Lib.hid hx2
        have CN := Lib.hid (tnew_t 5 5 w2 (by unfold InN; omega) (by unfold InN; omega))
        clear CG hb hx2 HB1 HX1 x0 x1 x2 x3 x4
        go_wp2_with fail
        refine CN.out.mono ?_
        rintro e w3 hW3
        obtain ⟨p, rfl, hO⟩ := TOn.made (by unfold OkQ; omega) hW3
        have HXK : Hid (x < w2.heap.size) := Lib.hid (block_lt_of_cell HX2.out.1)
        have hx3 : FlAt w3 x f := flAt_below HX2.out hW3.2 HXK.out
        have HX3 := Lib.hid hx3
        have CP := Lib.hid (hO.put f 1 1 now (by decide) HF.out.1 (by unfold In32; omega) (by unfold InN; omega) HF.out.2.2)
        rw [idl_put HG.out (by have := HN.out; unfold OkN; omega), putV_none] at CP
        obtain ⟨x0, x1, x2, x3, x4⟩ := hx3
        clear CN hW3 hO HX2
        go_wp2_with fail
        refine CP.out.mono ?_
        rintro e w4 ⟨rfl, hO, hk4⟩
        have hx4 := HX3.out.kept hk4 HXK.out
        have HX4 := Lib.hid hx4
        have CT := Lib.hid (hO.touch f flags now (by simp) HF.out.1 HF.out.2.1 HF.out.2.2)
        rw [idl_touch (by have := HN.out; unfold OkN; omega)] at CT
        clear CP hO hk4 HX3 x0 x1 x2 x3 x4
        obtain ⟨x0, x1, x2, x3, x4⟩ := hx4
        go_wp2_with fail
        refine CT.out.mono ?_
        rintro e w5 ⟨rfl, hO, hk5⟩
        have hx5 := HX4.out.kept hk5 HXK.out
        have HX5 := Lib.hid hx5
        have HO := Lib.hid hO
        have HL := Lib.hid (idl_lim (f := f) (flags := flags) (now := now))
        have HE1 := Lib.hid (idl_no (f := f) (flags := flags) HN.out)
        have HE2 := Lib.hid (idl_yes (f := f) (flags := flags) HN.out)
        obtain ⟨y, hy⟩ : ∃ y, y = idlY f flags now := ⟨_, rfl⟩
        rw [← hy] at HO HL HE1 HE2
        clear CT hO hk5 HX4 hy x0 x1 x2 x3 x4
        obtain ⟨x0, x1, x2, x3, x4⟩ := hx5
        cases qa : (f.p == 6) with
        | false =>
          have HFS : Hid (finB f.p flags = false ∧ synB f.p flags = false) := Lib.hid (by unfold finB synB; rw [qa]; exact ⟨rfl, rfl⟩)
          have hLy : limE y = 60 := by rw [HL.out, HFS.out.1, HFS.out.2]; rfl
          rw [hLy] at HE1 HE2
          clear hLy HL
          have CE1 : Hid (∀ V, Below w5.heap.size w5 V → Calls Try.prog 22 #[.pointer (some ⟨p, 0, none⟩), .int .i64 (now + 60)] V fun e w' => ∃ a c, e = .returned (.slice a 0 c) ∧ TOn w2 w' p 5 5 [y] (fun k => k < w2.heap.size) ∧ Kpt (fun k => k < w2.heap.size) V w') := Lib.hid (fun V hb => by
            have h1 := (HO.out.new hb).1.exp (now + 60) (by simp) (by have := HN.out; unfold InN; omega)
            rw [HE1.out] at h1
            refine h1.mono ?_
            rintro e w' ⟨a, c, he, _, h2, h3⟩
            exact ⟨a, c, he, h2.less (fun k hk => .inl hk), h3⟩)
          have CE2 : Hid (∀ V, TOn w2 V p 5 5 [y] (fun k => k < w2.heap.size) → Calls Try.prog 22 #[.pointer (some ⟨p, 0, none⟩), .int .i64 (now + 60 + 1)] V fun e w' => ∃ a c, e = .returned (.slice a 1 c) ∧ InF w' a 1 [f] ∧ TOn w2 w' p 5 5 [] (fun k => k < w2.heap.size) ∧ Kpt (fun k => k < w2.heap.size) V w') := Lib.hid (fun V hV => by
            have h1 := hV.exp (now + 60 + 1) (by simp) (by have := HN.out; unfold InN; omega)
            rw [HE2.out] at h1
            refine h1.mono ?_
            rintro e w' ⟨a, c, he, hI, h2, h3⟩
            exact ⟨a, c, he, hI, h2.less (fun k hk => .inl hk), h3⟩)
          have CE2B : Hid (∀ V, TOn w2 V p 5 5 [y] (fun k => k < w2.heap.size) → Calls Try.prog 22 #[.pointer (some ⟨p, 0, none⟩), .int .i64 (now + 60 + 1)] (V.alloc (.cells (csF f).toArray tyF)) fun e w' => ∃ a c, e = .returned (.slice a 1 c) ∧ InF w' a 1 [f] ∧ InF w' (some ⟨V.heap.size, 0, none⟩) 1 [f] ∧ TOn w2 w' p 5 5 [] (fun k => k < w2.heap.size) ∧ Kpt (fun k => k < w2.heap.size) V w') := Lib.hid (fun V hV => by
            have hb := bl_al (Below.refl V.heap.size V) (.cells (csF f).toArray tyF)
            have h0 := hV.grow hb
            have h1 := h0.exp (now + 60 + 1) (by simp) (by have := HN.out; unfold InN; omega)
            rw [HE2.out] at h1
            refine h1.mono ?_
            rintro e w' ⟨a, c, he, hI, h2, h3⟩
            refine ⟨a, c, he, hI, ?_, h2.less (fun k hk => .inl (.inl hk)), fun k hk => (h3 k (.inl hk)).trans (hb.block k (hV.lt k hk))⟩
            have hr := one_rowF V f
            refine ⟨rfl, .inr ⟨V.heap.size, 0, rfl, fun j hj => ?_⟩⟩
            obtain ⟨b, off, e1, h4⟩ := hr.at (j := j) (by simpa using hj)
            cases e1
            exact h4.map (fun o v hc => h3.cell hc (.inr ⟨Nat.le_refl _, by simp⟩)))
          have CSB : Hid (∀ V a c b, InF V a 1 [f] → InF V (some ⟨b, 0, none⟩) 1 [f] → Calls Try.prog 21 #[.slice a 1 c, .slice (some ⟨b, 0, none⟩) 1 1] V fun e w' => e = .returned (.bool true) ∧ Below V.heap.size V w') := Lib.hid (fun V a c b hI hI2 => by
            have h1 := refSameF_c [f] [f] a (some ⟨b, 0, none⟩) 1 1 c 1 V hI hI2 (by omega) (by omega)
            rw [decide_eq_true rfl] at h1
            exact h1)
          have CS : Hid (∀ V a c, InF V a 1 [f] → Calls Try.prog 21 #[.slice a 1 c, .slice (some ⟨V.heap.size, 0, none⟩) 1 1] (V.alloc (.cells (csF f).toArray tyF)) fun e w' => e = .returned (.bool true) ∧ Below V.heap.size V w') := Lib.hid (fun V a c hI => by
            have hb := bl_al (Below.refl V.heap.size V) (.cells (csF f).toArray tyF)
            have h1 := refSameF_c [f] [f] a (some ⟨V.heap.size, 0, none⟩) 1 1 c 1 _ (hI.below hb) (one_rowF V f) (by omega) (by omega)
            rw [decide_eq_true rfl] at h1
            refine h1.mono ?_
            rintro e w' ⟨he, h2⟩
            exact ⟨he, bl_tr hb h2⟩)
          have CAl : Hid (∀ V, TOn w2 V p 5 5 [] (fun k => k < w2.heap.size) → Calls Try.prog 27 #[.pointer (some ⟨p, 0, none⟩)] V fun e w' => ∃ a c, e = .returned (.slice a 0 c) ∧ TOn w2 w' p 5 5 [] (fun k => k < w2.heap.size) ∧ Kpt (fun k => k < w2.heap.size) V w') := Lib.hid (fun V hV => by
            refine (hV.all (by simp)).mono ?_
            rintro e w' ⟨a, c, he, _, h2, h3⟩
            exact ⟨a, c, he, h2.less (fun k hk => .inl hk), h3⟩)
          go_upto_region 16 with fail
          have v1 : ∀ [Inhabited Nat], IntKind.i64.wrap (now + 60) = now + 60 := by intro _; exact IntWalk.i64_in _ (by have := HN.out; omega)
          have v2 : ∀ [Inhabited Nat], IntKind.i64.wrap (now + 60 + 1) = now + 60 + 1 := by intro _; exact IntWalk.i64_in _ (by have := HN.out; omega)
          have hd0 : Below w5.heap.size w5 w5.drew := (Below.refl _ _).drew
          have hS0 : w5.drew.cell? ⟨x, 0, none⟩ = some (.int .i64 f.p) ∧ w5.drew.cell? ⟨x, 1, none⟩ = some (.int .u32 f.s) ∧ w5.drew.cell? ⟨x, 2, none⟩ = some (.int .i64 f.sp) ∧ w5.drew.cell? ⟨x, 3, none⟩ = some (.int .u32 f.d) ∧ w5.drew.cell? ⟨x, 4, none⟩ = some (.int .i64 f.dp) := flAt_below HX5.out hd0 (block_lt_of_cell HX5.out.1)
          clear x0 x1 x2 x3 x4
          go_region_held3 (fun wx => wx.cell? ⟨x, 0, none⟩ = some (.int .i64 f.p) ∧ wx.cell? ⟨x, 1, none⟩ = some (.int .u32 f.s) ∧ wx.cell? ⟨x, 2, none⟩ = some (.int .i64 f.sp) ∧ wx.cell? ⟨x, 3, none⟩ = some (.int .u32 f.d) ∧ wx.cell? ⟨x, 4, none⟩ = some (.int .i64 f.dp)) (first | (with_reducible exact hS0) | (with_reducible exact hS1) | (with_reducible exact hS1b) | (with_reducible exact hS2) | (with_reducible exact hS3) | (with_reducible exact hS4) | (with_reducible exact hS5) | (with_reducible assumption) | fail)
            (first | (go_at_call 22; (with_reducible refine (CE1.out _ hd0).mono ?_); rintro e w11 ⟨a1, c1, rfl, hO1, hk1⟩; have hS1 : w11.cell? ⟨x, 0, none⟩ = some (.int .i64 f.p) ∧ w11.cell? ⟨x, 1, none⟩ = some (.int .u32 f.s) ∧ w11.cell? ⟨x, 2, none⟩ = some (.int .i64 f.sp) ∧ w11.cell? ⟨x, 3, none⟩ = some (.int .u32 f.d) ∧ w11.cell? ⟨x, 4, none⟩ = some (.int .i64 f.dp) := FlAt.kept hS0 hk1 HXK.out; have hS1b : (w11.alloc (.cells #[.int .i64 f.p, .int .u32 f.s, .int .i64 f.sp, .int .u32 f.d, .int .i64 f.dp] tyF)).cell? ⟨x, 0, none⟩ = some (.int .i64 f.p) ∧ (w11.alloc (.cells #[.int .i64 f.p, .int .u32 f.s, .int .i64 f.sp, .int .u32 f.d, .int .i64 f.dp] tyF)).cell? ⟨x, 1, none⟩ = some (.int .u32 f.s) ∧ (w11.alloc (.cells #[.int .i64 f.p, .int .u32 f.s, .int .i64 f.sp, .int .u32 f.d, .int .i64 f.dp] tyF)).cell? ⟨x, 2, none⟩ = some (.int .i64 f.sp) ∧ (w11.alloc (.cells #[.int .i64 f.p, .int .u32 f.s, .int .i64 f.sp, .int .u32 f.d, .int .i64 f.dp] tyF)).cell? ⟨x, 3, none⟩ = some (.int .u32 f.d) ∧ (w11.alloc (.cells #[.int .i64 f.p, .int .u32 f.s, .int .i64 f.sp, .int .u32 f.d, .int .i64 f.dp] tyF)).cell? ⟨x, 4, none⟩ = some (.int .i64 f.dp) := flAt_below hS1 (bl_al (Below.refl _ _) _) (block_lt_of_cell hS1.1)) | (go_at_call 22; (with_reducible refine (CE2.out _ hO1).mono ?_); rintro e w12 ⟨a2, c2, rfl, hI2, hO2, hk2⟩; have hS2 : w12.cell? ⟨x, 0, none⟩ = some (.int .i64 f.p) ∧ w12.cell? ⟨x, 1, none⟩ = some (.int .u32 f.s) ∧ w12.cell? ⟨x, 2, none⟩ = some (.int .i64 f.sp) ∧ w12.cell? ⟨x, 3, none⟩ = some (.int .u32 f.d) ∧ w12.cell? ⟨x, 4, none⟩ = some (.int .i64 f.dp) := FlAt.kept hS1 hk2 HXK.out; have hS3 : (w12.alloc (.cells #[.int .i64 f.p, .int .u32 f.s, .int .i64 f.sp, .int .u32 f.d, .int .i64 f.dp] tyF)).cell? ⟨x, 0, none⟩ = some (.int .i64 f.p) ∧ (w12.alloc (.cells #[.int .i64 f.p, .int .u32 f.s, .int .i64 f.sp, .int .u32 f.d, .int .i64 f.dp] tyF)).cell? ⟨x, 1, none⟩ = some (.int .u32 f.s) ∧ (w12.alloc (.cells #[.int .i64 f.p, .int .u32 f.s, .int .i64 f.sp, .int .u32 f.d, .int .i64 f.dp] tyF)).cell? ⟨x, 2, none⟩ = some (.int .i64 f.sp) ∧ (w12.alloc (.cells #[.int .i64 f.p, .int .u32 f.s, .int .i64 f.sp, .int .u32 f.d, .int .i64 f.dp] tyF)).cell? ⟨x, 3, none⟩ = some (.int .u32 f.d) ∧ (w12.alloc (.cells #[.int .i64 f.p, .int .u32 f.s, .int .i64 f.sp, .int .u32 f.d, .int .i64 f.dp] tyF)).cell? ⟨x, 4, none⟩ = some (.int .i64 f.dp) := flAt_below hS2 (bl_al (Below.refl _ _) _) (block_lt_of_cell hS2.1)) | (go_at_call 22; refine (CE2B.out _ hO1).mono ?_; rintro e w12 ⟨a2, c2, rfl, hI2, hR2, hO2, hk2⟩; have hS2 : w12.cell? ⟨x, 0, none⟩ = some (.int .i64 f.p) ∧ w12.cell? ⟨x, 1, none⟩ = some (.int .u32 f.s) ∧ w12.cell? ⟨x, 2, none⟩ = some (.int .i64 f.sp) ∧ w12.cell? ⟨x, 3, none⟩ = some (.int .u32 f.d) ∧ w12.cell? ⟨x, 4, none⟩ = some (.int .i64 f.dp) := FlAt.kept hS1 hk2 HXK.out) | (go_at_call 21; (with_reducible refine (CSB.out _ _ _ _ hI2 hR2).mono ?_); rintro e w13 ⟨rfl, hb3⟩; have hO3 := (hO2.new hb3).1; have hS4 : w13.cell? ⟨x, 0, none⟩ = some (.int .i64 f.p) ∧ w13.cell? ⟨x, 1, none⟩ = some (.int .u32 f.s) ∧ w13.cell? ⟨x, 2, none⟩ = some (.int .i64 f.sp) ∧ w13.cell? ⟨x, 3, none⟩ = some (.int .u32 f.d) ∧ w13.cell? ⟨x, 4, none⟩ = some (.int .i64 f.dp) := flAt_below hS2 hb3 (block_lt_of_cell hS2.1)) | (go_at_call 21; refine (CS.out _ _ _ hI2).mono ?_; rintro e w13 ⟨rfl, hb3⟩; have hO3 := (hO2.new hb3).1; have hS4 : w13.cell? ⟨x, 0, none⟩ = some (.int .i64 f.p) ∧ w13.cell? ⟨x, 1, none⟩ = some (.int .u32 f.s) ∧ w13.cell? ⟨x, 2, none⟩ = some (.int .i64 f.sp) ∧ w13.cell? ⟨x, 3, none⟩ = some (.int .u32 f.d) ∧ w13.cell? ⟨x, 4, none⟩ = some (.int .i64 f.dp) := flAt_below hS2 hb3 (block_lt_of_cell hS2.1)) | (go_at_call 27; (with_reducible refine (CAl.out _ hO3).mono ?_); rintro e w14 ⟨a4, c4, rfl, hO4, hk4⟩; have hS5 : w14.cell? ⟨x, 0, none⟩ = some (.int .i64 f.p) ∧ w14.cell? ⟨x, 1, none⟩ = some (.int .u32 f.s) ∧ w14.cell? ⟨x, 2, none⟩ = some (.int .i64 f.sp) ∧ w14.cell? ⟨x, 3, none⟩ = some (.int .u32 f.d) ∧ w14.cell? ⟨x, 4, none⟩ = some (.int .i64 f.dp) := FlAt.kept hS4 hk4 HXK.out) | fail)
          all_goals
            have HQ := Lib.hid (HB2.out.trans (hO4.bel.mono HB2.out.size))
            go_wp2
            go_ret
            exact ⟨rfl, HQ.out⟩
        | true =>
          have HU : Hid (finB f.p flags = (bits .and .i64 flags 1 == 1 || bits .and .i64 flags 4 == 4) ∧ synB f.p flags = (bits .and .i64 flags 2 == 2)) := Lib.hid (by unfold finB synB; rw [qa]; exact ⟨rfl, rfl⟩)
          cases k1 : (bits .and .i64 flags 1 == 1) with
          | true =>
            cases k2 : (bits .and .i64 flags 2 == 2) with
            | true =>
              have HFS : Hid (finB f.p flags = true ∧ synB f.p flags = true) := Lib.hid (by rw [HU.out.1, HU.out.2, k1, k2]; exact ⟨rfl, rfl⟩)
              have hLy : limE y = 5 := by rw [HL.out, HFS.out.1, HFS.out.2]; rfl
              rw [hLy] at HE1 HE2
              clear hLy HL
              have CE1 : Hid (∀ V, Below w5.heap.size w5 V → Calls Try.prog 22 #[.pointer (some ⟨p, 0, none⟩), .int .i64 (now + 5)] V fun e w' => ∃ a c, e = .returned (.slice a 0 c) ∧ TOn w2 w' p 5 5 [y] (fun k => k < w2.heap.size) ∧ Kpt (fun k => k < w2.heap.size) V w') := Lib.hid (fun V hb => by
                have h1 := (HO.out.new hb).1.exp (now + 5) (by simp) (by have := HN.out; unfold InN; omega)
                rw [HE1.out] at h1
                refine h1.mono ?_
                rintro e w' ⟨a, c, he, _, h2, h3⟩
                exact ⟨a, c, he, h2.less (fun k hk => .inl hk), h3⟩)
              have CE2 : Hid (∀ V, TOn w2 V p 5 5 [y] (fun k => k < w2.heap.size) → Calls Try.prog 22 #[.pointer (some ⟨p, 0, none⟩), .int .i64 (now + 5 + 1)] V fun e w' => ∃ a c, e = .returned (.slice a 1 c) ∧ InF w' a 1 [f] ∧ TOn w2 w' p 5 5 [] (fun k => k < w2.heap.size) ∧ Kpt (fun k => k < w2.heap.size) V w') := Lib.hid (fun V hV => by
                have h1 := hV.exp (now + 5 + 1) (by simp) (by have := HN.out; unfold InN; omega)
                rw [HE2.out] at h1
                refine h1.mono ?_
                rintro e w' ⟨a, c, he, hI, h2, h3⟩
                exact ⟨a, c, he, hI, h2.less (fun k hk => .inl hk), h3⟩)
              have CE2B : Hid (∀ V, TOn w2 V p 5 5 [y] (fun k => k < w2.heap.size) → Calls Try.prog 22 #[.pointer (some ⟨p, 0, none⟩), .int .i64 (now + 5 + 1)] (V.alloc (.cells (csF f).toArray tyF)) fun e w' => ∃ a c, e = .returned (.slice a 1 c) ∧ InF w' a 1 [f] ∧ InF w' (some ⟨V.heap.size, 0, none⟩) 1 [f] ∧ TOn w2 w' p 5 5 [] (fun k => k < w2.heap.size) ∧ Kpt (fun k => k < w2.heap.size) V w') := Lib.hid (fun V hV => by
                have hb := bl_al (Below.refl V.heap.size V) (.cells (csF f).toArray tyF)
                have h0 := hV.grow hb
                have h1 := h0.exp (now + 5 + 1) (by simp) (by have := HN.out; unfold InN; omega)
                rw [HE2.out] at h1
                refine h1.mono ?_
                rintro e w' ⟨a, c, he, hI, h2, h3⟩
                refine ⟨a, c, he, hI, ?_, h2.less (fun k hk => .inl (.inl hk)), fun k hk => (h3 k (.inl hk)).trans (hb.block k (hV.lt k hk))⟩
                have hr := one_rowF V f
                refine ⟨rfl, .inr ⟨V.heap.size, 0, rfl, fun j hj => ?_⟩⟩
                obtain ⟨b, off, e1, h4⟩ := hr.at (j := j) (by simpa using hj)
                cases e1
                exact h4.map (fun o v hc => h3.cell hc (.inr ⟨Nat.le_refl _, by simp⟩)))
              have CSB : Hid (∀ V a c b, InF V a 1 [f] → InF V (some ⟨b, 0, none⟩) 1 [f] → Calls Try.prog 21 #[.slice a 1 c, .slice (some ⟨b, 0, none⟩) 1 1] V fun e w' => e = .returned (.bool true) ∧ Below V.heap.size V w') := Lib.hid (fun V a c b hI hI2 => by
                have h1 := refSameF_c [f] [f] a (some ⟨b, 0, none⟩) 1 1 c 1 V hI hI2 (by omega) (by omega)
                rw [decide_eq_true rfl] at h1
                exact h1)
              have CS : Hid (∀ V a c, InF V a 1 [f] → Calls Try.prog 21 #[.slice a 1 c, .slice (some ⟨V.heap.size, 0, none⟩) 1 1] (V.alloc (.cells (csF f).toArray tyF)) fun e w' => e = .returned (.bool true) ∧ Below V.heap.size V w') := Lib.hid (fun V a c hI => by
                have hb := bl_al (Below.refl V.heap.size V) (.cells (csF f).toArray tyF)
                have h1 := refSameF_c [f] [f] a (some ⟨V.heap.size, 0, none⟩) 1 1 c 1 _ (hI.below hb) (one_rowF V f) (by omega) (by omega)
                rw [decide_eq_true rfl] at h1
                refine h1.mono ?_
                rintro e w' ⟨he, h2⟩
                exact ⟨he, bl_tr hb h2⟩)
              have CAl : Hid (∀ V, TOn w2 V p 5 5 [] (fun k => k < w2.heap.size) → Calls Try.prog 27 #[.pointer (some ⟨p, 0, none⟩)] V fun e w' => ∃ a c, e = .returned (.slice a 0 c) ∧ TOn w2 w' p 5 5 [] (fun k => k < w2.heap.size) ∧ Kpt (fun k => k < w2.heap.size) V w') := Lib.hid (fun V hV => by
                refine (hV.all (by simp)).mono ?_
                rintro e w' ⟨a, c, he, _, h2, h3⟩
                exact ⟨a, c, he, h2.less (fun k hk => .inl hk), h3⟩)
              go_upto_region 16 with fail
              have v1 : ∀ [Inhabited Nat], IntKind.i64.wrap (now + 5) = now + 5 := by intro _; exact IntWalk.i64_in _ (by have := HN.out; omega)
              have v2 : ∀ [Inhabited Nat], IntKind.i64.wrap (now + 5 + 1) = now + 5 + 1 := by intro _; exact IntWalk.i64_in _ (by have := HN.out; omega)
              have hd0 : Below w5.heap.size w5 w5.drew := (Below.refl _ _).drew
              have hS0 : w5.drew.cell? ⟨x, 0, none⟩ = some (.int .i64 f.p) ∧ w5.drew.cell? ⟨x, 1, none⟩ = some (.int .u32 f.s) ∧ w5.drew.cell? ⟨x, 2, none⟩ = some (.int .i64 f.sp) ∧ w5.drew.cell? ⟨x, 3, none⟩ = some (.int .u32 f.d) ∧ w5.drew.cell? ⟨x, 4, none⟩ = some (.int .i64 f.dp) := flAt_below HX5.out hd0 (block_lt_of_cell HX5.out.1)
              clear x0 x1 x2 x3 x4
              go_region_held3 (fun wx => wx.cell? ⟨x, 0, none⟩ = some (.int .i64 f.p) ∧ wx.cell? ⟨x, 1, none⟩ = some (.int .u32 f.s) ∧ wx.cell? ⟨x, 2, none⟩ = some (.int .i64 f.sp) ∧ wx.cell? ⟨x, 3, none⟩ = some (.int .u32 f.d) ∧ wx.cell? ⟨x, 4, none⟩ = some (.int .i64 f.dp)) (first | (with_reducible exact hS0) | (with_reducible exact hS1) | (with_reducible exact hS1b) | (with_reducible exact hS2) | (with_reducible exact hS3) | (with_reducible exact hS4) | (with_reducible exact hS5) | (with_reducible assumption) | fail)
                (first | (go_at_call 22; (with_reducible refine (CE1.out _ hd0).mono ?_); rintro e w11 ⟨a1, c1, rfl, hO1, hk1⟩; have hS1 : w11.cell? ⟨x, 0, none⟩ = some (.int .i64 f.p) ∧ w11.cell? ⟨x, 1, none⟩ = some (.int .u32 f.s) ∧ w11.cell? ⟨x, 2, none⟩ = some (.int .i64 f.sp) ∧ w11.cell? ⟨x, 3, none⟩ = some (.int .u32 f.d) ∧ w11.cell? ⟨x, 4, none⟩ = some (.int .i64 f.dp) := FlAt.kept hS0 hk1 HXK.out; have hS1b : (w11.alloc (.cells #[.int .i64 f.p, .int .u32 f.s, .int .i64 f.sp, .int .u32 f.d, .int .i64 f.dp] tyF)).cell? ⟨x, 0, none⟩ = some (.int .i64 f.p) ∧ (w11.alloc (.cells #[.int .i64 f.p, .int .u32 f.s, .int .i64 f.sp, .int .u32 f.d, .int .i64 f.dp] tyF)).cell? ⟨x, 1, none⟩ = some (.int .u32 f.s) ∧ (w11.alloc (.cells #[.int .i64 f.p, .int .u32 f.s, .int .i64 f.sp, .int .u32 f.d, .int .i64 f.dp] tyF)).cell? ⟨x, 2, none⟩ = some (.int .i64 f.sp) ∧ (w11.alloc (.cells #[.int .i64 f.p, .int .u32 f.s, .int .i64 f.sp, .int .u32 f.d, .int .i64 f.dp] tyF)).cell? ⟨x, 3, none⟩ = some (.int .u32 f.d) ∧ (w11.alloc (.cells #[.int .i64 f.p, .int .u32 f.s, .int .i64 f.sp, .int .u32 f.d, .int .i64 f.dp] tyF)).cell? ⟨x, 4, none⟩ = some (.int .i64 f.dp) := flAt_below hS1 (bl_al (Below.refl _ _) _) (block_lt_of_cell hS1.1)) | (go_at_call 22; (with_reducible refine (CE2.out _ hO1).mono ?_); rintro e w12 ⟨a2, c2, rfl, hI2, hO2, hk2⟩; have hS2 : w12.cell? ⟨x, 0, none⟩ = some (.int .i64 f.p) ∧ w12.cell? ⟨x, 1, none⟩ = some (.int .u32 f.s) ∧ w12.cell? ⟨x, 2, none⟩ = some (.int .i64 f.sp) ∧ w12.cell? ⟨x, 3, none⟩ = some (.int .u32 f.d) ∧ w12.cell? ⟨x, 4, none⟩ = some (.int .i64 f.dp) := FlAt.kept hS1 hk2 HXK.out; have hS3 : (w12.alloc (.cells #[.int .i64 f.p, .int .u32 f.s, .int .i64 f.sp, .int .u32 f.d, .int .i64 f.dp] tyF)).cell? ⟨x, 0, none⟩ = some (.int .i64 f.p) ∧ (w12.alloc (.cells #[.int .i64 f.p, .int .u32 f.s, .int .i64 f.sp, .int .u32 f.d, .int .i64 f.dp] tyF)).cell? ⟨x, 1, none⟩ = some (.int .u32 f.s) ∧ (w12.alloc (.cells #[.int .i64 f.p, .int .u32 f.s, .int .i64 f.sp, .int .u32 f.d, .int .i64 f.dp] tyF)).cell? ⟨x, 2, none⟩ = some (.int .i64 f.sp) ∧ (w12.alloc (.cells #[.int .i64 f.p, .int .u32 f.s, .int .i64 f.sp, .int .u32 f.d, .int .i64 f.dp] tyF)).cell? ⟨x, 3, none⟩ = some (.int .u32 f.d) ∧ (w12.alloc (.cells #[.int .i64 f.p, .int .u32 f.s, .int .i64 f.sp, .int .u32 f.d, .int .i64 f.dp] tyF)).cell? ⟨x, 4, none⟩ = some (.int .i64 f.dp) := flAt_below hS2 (bl_al (Below.refl _ _) _) (block_lt_of_cell hS2.1)) | (go_at_call 22; refine (CE2B.out _ hO1).mono ?_; rintro e w12 ⟨a2, c2, rfl, hI2, hR2, hO2, hk2⟩; have hS2 : w12.cell? ⟨x, 0, none⟩ = some (.int .i64 f.p) ∧ w12.cell? ⟨x, 1, none⟩ = some (.int .u32 f.s) ∧ w12.cell? ⟨x, 2, none⟩ = some (.int .i64 f.sp) ∧ w12.cell? ⟨x, 3, none⟩ = some (.int .u32 f.d) ∧ w12.cell? ⟨x, 4, none⟩ = some (.int .i64 f.dp) := FlAt.kept hS1 hk2 HXK.out) | (go_at_call 21; (with_reducible refine (CSB.out _ _ _ _ hI2 hR2).mono ?_); rintro e w13 ⟨rfl, hb3⟩; have hO3 := (hO2.new hb3).1; have hS4 : w13.cell? ⟨x, 0, none⟩ = some (.int .i64 f.p) ∧ w13.cell? ⟨x, 1, none⟩ = some (.int .u32 f.s) ∧ w13.cell? ⟨x, 2, none⟩ = some (.int .i64 f.sp) ∧ w13.cell? ⟨x, 3, none⟩ = some (.int .u32 f.d) ∧ w13.cell? ⟨x, 4, none⟩ = some (.int .i64 f.dp) := flAt_below hS2 hb3 (block_lt_of_cell hS2.1)) | (go_at_call 21; refine (CS.out _ _ _ hI2).mono ?_; rintro e w13 ⟨rfl, hb3⟩; have hO3 := (hO2.new hb3).1; have hS4 : w13.cell? ⟨x, 0, none⟩ = some (.int .i64 f.p) ∧ w13.cell? ⟨x, 1, none⟩ = some (.int .u32 f.s) ∧ w13.cell? ⟨x, 2, none⟩ = some (.int .i64 f.sp) ∧ w13.cell? ⟨x, 3, none⟩ = some (.int .u32 f.d) ∧ w13.cell? ⟨x, 4, none⟩ = some (.int .i64 f.dp) := flAt_below hS2 hb3 (block_lt_of_cell hS2.1)) | (go_at_call 27; (with_reducible refine (CAl.out _ hO3).mono ?_); rintro e w14 ⟨a4, c4, rfl, hO4, hk4⟩; have hS5 : w14.cell? ⟨x, 0, none⟩ = some (.int .i64 f.p) ∧ w14.cell? ⟨x, 1, none⟩ = some (.int .u32 f.s) ∧ w14.cell? ⟨x, 2, none⟩ = some (.int .i64 f.sp) ∧ w14.cell? ⟨x, 3, none⟩ = some (.int .u32 f.d) ∧ w14.cell? ⟨x, 4, none⟩ = some (.int .i64 f.dp) := FlAt.kept hS4 hk4 HXK.out) | fail)
              all_goals
                have HQ := Lib.hid (HB2.out.trans (hO4.bel.mono HB2.out.size))
                go_wp2
                go_ret
                exact ⟨rfl, HQ.out⟩
            | false =>
              have HFS : Hid (finB f.p flags = true ∧ synB f.p flags = false) := Lib.hid (by rw [HU.out.1, HU.out.2, k1, k2]; exact ⟨rfl, rfl⟩)
              have hLy : limE y = 5 := by rw [HL.out, HFS.out.1, HFS.out.2]; rfl
              rw [hLy] at HE1 HE2
              clear hLy HL
              have CE1 : Hid (∀ V, Below w5.heap.size w5 V → Calls Try.prog 22 #[.pointer (some ⟨p, 0, none⟩), .int .i64 (now + 5)] V fun e w' => ∃ a c, e = .returned (.slice a 0 c) ∧ TOn w2 w' p 5 5 [y] (fun k => k < w2.heap.size) ∧ Kpt (fun k => k < w2.heap.size) V w') := Lib.hid (fun V hb => by
                have h1 := (HO.out.new hb).1.exp (now + 5) (by simp) (by have := HN.out; unfold InN; omega)
                rw [HE1.out] at h1
                refine h1.mono ?_
                rintro e w' ⟨a, c, he, _, h2, h3⟩
                exact ⟨a, c, he, h2.less (fun k hk => .inl hk), h3⟩)
              have CE2 : Hid (∀ V, TOn w2 V p 5 5 [y] (fun k => k < w2.heap.size) → Calls Try.prog 22 #[.pointer (some ⟨p, 0, none⟩), .int .i64 (now + 5 + 1)] V fun e w' => ∃ a c, e = .returned (.slice a 1 c) ∧ InF w' a 1 [f] ∧ TOn w2 w' p 5 5 [] (fun k => k < w2.heap.size) ∧ Kpt (fun k => k < w2.heap.size) V w') := Lib.hid (fun V hV => by
                have h1 := hV.exp (now + 5 + 1) (by simp) (by have := HN.out; unfold InN; omega)
                rw [HE2.out] at h1
                refine h1.mono ?_
                rintro e w' ⟨a, c, he, hI, h2, h3⟩
                exact ⟨a, c, he, hI, h2.less (fun k hk => .inl hk), h3⟩)
              have CE2B : Hid (∀ V, TOn w2 V p 5 5 [y] (fun k => k < w2.heap.size) → Calls Try.prog 22 #[.pointer (some ⟨p, 0, none⟩), .int .i64 (now + 5 + 1)] (V.alloc (.cells (csF f).toArray tyF)) fun e w' => ∃ a c, e = .returned (.slice a 1 c) ∧ InF w' a 1 [f] ∧ InF w' (some ⟨V.heap.size, 0, none⟩) 1 [f] ∧ TOn w2 w' p 5 5 [] (fun k => k < w2.heap.size) ∧ Kpt (fun k => k < w2.heap.size) V w') := Lib.hid (fun V hV => by
                have hb := bl_al (Below.refl V.heap.size V) (.cells (csF f).toArray tyF)
                have h0 := hV.grow hb
                have h1 := h0.exp (now + 5 + 1) (by simp) (by have := HN.out; unfold InN; omega)
                rw [HE2.out] at h1
                refine h1.mono ?_
                rintro e w' ⟨a, c, he, hI, h2, h3⟩
                refine ⟨a, c, he, hI, ?_, h2.less (fun k hk => .inl (.inl hk)), fun k hk => (h3 k (.inl hk)).trans (hb.block k (hV.lt k hk))⟩
                have hr := one_rowF V f
                refine ⟨rfl, .inr ⟨V.heap.size, 0, rfl, fun j hj => ?_⟩⟩
                obtain ⟨b, off, e1, h4⟩ := hr.at (j := j) (by simpa using hj)
                cases e1
                exact h4.map (fun o v hc => h3.cell hc (.inr ⟨Nat.le_refl _, by simp⟩)))
              have CSB : Hid (∀ V a c b, InF V a 1 [f] → InF V (some ⟨b, 0, none⟩) 1 [f] → Calls Try.prog 21 #[.slice a 1 c, .slice (some ⟨b, 0, none⟩) 1 1] V fun e w' => e = .returned (.bool true) ∧ Below V.heap.size V w') := Lib.hid (fun V a c b hI hI2 => by
                have h1 := refSameF_c [f] [f] a (some ⟨b, 0, none⟩) 1 1 c 1 V hI hI2 (by omega) (by omega)
                rw [decide_eq_true rfl] at h1
                exact h1)
              have CS : Hid (∀ V a c, InF V a 1 [f] → Calls Try.prog 21 #[.slice a 1 c, .slice (some ⟨V.heap.size, 0, none⟩) 1 1] (V.alloc (.cells (csF f).toArray tyF)) fun e w' => e = .returned (.bool true) ∧ Below V.heap.size V w') := Lib.hid (fun V a c hI => by
                have hb := bl_al (Below.refl V.heap.size V) (.cells (csF f).toArray tyF)
                have h1 := refSameF_c [f] [f] a (some ⟨V.heap.size, 0, none⟩) 1 1 c 1 _ (hI.below hb) (one_rowF V f) (by omega) (by omega)
                rw [decide_eq_true rfl] at h1
                refine h1.mono ?_
                rintro e w' ⟨he, h2⟩
                exact ⟨he, bl_tr hb h2⟩)
              have CAl : Hid (∀ V, TOn w2 V p 5 5 [] (fun k => k < w2.heap.size) → Calls Try.prog 27 #[.pointer (some ⟨p, 0, none⟩)] V fun e w' => ∃ a c, e = .returned (.slice a 0 c) ∧ TOn w2 w' p 5 5 [] (fun k => k < w2.heap.size) ∧ Kpt (fun k => k < w2.heap.size) V w') := Lib.hid (fun V hV => by
                refine (hV.all (by simp)).mono ?_
                rintro e w' ⟨a, c, he, _, h2, h3⟩
                exact ⟨a, c, he, h2.less (fun k hk => .inl hk), h3⟩)
              go_upto_region 16 with fail
              have v1 : ∀ [Inhabited Nat], IntKind.i64.wrap (now + 5) = now + 5 := by intro _; exact IntWalk.i64_in _ (by have := HN.out; omega)
              have v2 : ∀ [Inhabited Nat], IntKind.i64.wrap (now + 5 + 1) = now + 5 + 1 := by intro _; exact IntWalk.i64_in _ (by have := HN.out; omega)
              have hd0 : Below w5.heap.size w5 w5.drew := (Below.refl _ _).drew
              have hS0 : w5.drew.cell? ⟨x, 0, none⟩ = some (.int .i64 f.p) ∧ w5.drew.cell? ⟨x, 1, none⟩ = some (.int .u32 f.s) ∧ w5.drew.cell? ⟨x, 2, none⟩ = some (.int .i64 f.sp) ∧ w5.drew.cell? ⟨x, 3, none⟩ = some (.int .u32 f.d) ∧ w5.drew.cell? ⟨x, 4, none⟩ = some (.int .i64 f.dp) := flAt_below HX5.out hd0 (block_lt_of_cell HX5.out.1)
              clear x0 x1 x2 x3 x4
              go_region_held3 (fun wx => wx.cell? ⟨x, 0, none⟩ = some (.int .i64 f.p) ∧ wx.cell? ⟨x, 1, none⟩ = some (.int .u32 f.s) ∧ wx.cell? ⟨x, 2, none⟩ = some (.int .i64 f.sp) ∧ wx.cell? ⟨x, 3, none⟩ = some (.int .u32 f.d) ∧ wx.cell? ⟨x, 4, none⟩ = some (.int .i64 f.dp)) (first | (with_reducible exact hS0) | (with_reducible exact hS1) | (with_reducible exact hS1b) | (with_reducible exact hS2) | (with_reducible exact hS3) | (with_reducible exact hS4) | (with_reducible exact hS5) | (with_reducible assumption) | fail)
                (first | (go_at_call 22; (with_reducible refine (CE1.out _ hd0).mono ?_); rintro e w11 ⟨a1, c1, rfl, hO1, hk1⟩; have hS1 : w11.cell? ⟨x, 0, none⟩ = some (.int .i64 f.p) ∧ w11.cell? ⟨x, 1, none⟩ = some (.int .u32 f.s) ∧ w11.cell? ⟨x, 2, none⟩ = some (.int .i64 f.sp) ∧ w11.cell? ⟨x, 3, none⟩ = some (.int .u32 f.d) ∧ w11.cell? ⟨x, 4, none⟩ = some (.int .i64 f.dp) := FlAt.kept hS0 hk1 HXK.out; have hS1b : (w11.alloc (.cells #[.int .i64 f.p, .int .u32 f.s, .int .i64 f.sp, .int .u32 f.d, .int .i64 f.dp] tyF)).cell? ⟨x, 0, none⟩ = some (.int .i64 f.p) ∧ (w11.alloc (.cells #[.int .i64 f.p, .int .u32 f.s, .int .i64 f.sp, .int .u32 f.d, .int .i64 f.dp] tyF)).cell? ⟨x, 1, none⟩ = some (.int .u32 f.s) ∧ (w11.alloc (.cells #[.int .i64 f.p, .int .u32 f.s, .int .i64 f.sp, .int .u32 f.d, .int .i64 f.dp] tyF)).cell? ⟨x, 2, none⟩ = some (.int .i64 f.sp) ∧ (w11.alloc (.cells #[.int .i64 f.p, .int .u32 f.s, .int .i64 f.sp, .int .u32 f.d, .int .i64 f.dp] tyF)).cell? ⟨x, 3, none⟩ = some (.int .u32 f.d) ∧ (w11.alloc (.cells #[.int .i64 f.p, .int .u32 f.s, .int .i64 f.sp, .int .u32 f.d, .int .i64 f.dp] tyF)).cell? ⟨x, 4, none⟩ = some (.int .i64 f.dp) := flAt_below hS1 (bl_al (Below.refl _ _) _) (block_lt_of_cell hS1.1)) | (go_at_call 22; (with_reducible refine (CE2.out _ hO1).mono ?_); rintro e w12 ⟨a2, c2, rfl, hI2, hO2, hk2⟩; have hS2 : w12.cell? ⟨x, 0, none⟩ = some (.int .i64 f.p) ∧ w12.cell? ⟨x, 1, none⟩ = some (.int .u32 f.s) ∧ w12.cell? ⟨x, 2, none⟩ = some (.int .i64 f.sp) ∧ w12.cell? ⟨x, 3, none⟩ = some (.int .u32 f.d) ∧ w12.cell? ⟨x, 4, none⟩ = some (.int .i64 f.dp) := FlAt.kept hS1 hk2 HXK.out; have hS3 : (w12.alloc (.cells #[.int .i64 f.p, .int .u32 f.s, .int .i64 f.sp, .int .u32 f.d, .int .i64 f.dp] tyF)).cell? ⟨x, 0, none⟩ = some (.int .i64 f.p) ∧ (w12.alloc (.cells #[.int .i64 f.p, .int .u32 f.s, .int .i64 f.sp, .int .u32 f.d, .int .i64 f.dp] tyF)).cell? ⟨x, 1, none⟩ = some (.int .u32 f.s) ∧ (w12.alloc (.cells #[.int .i64 f.p, .int .u32 f.s, .int .i64 f.sp, .int .u32 f.d, .int .i64 f.dp] tyF)).cell? ⟨x, 2, none⟩ = some (.int .i64 f.sp) ∧ (w12.alloc (.cells #[.int .i64 f.p, .int .u32 f.s, .int .i64 f.sp, .int .u32 f.d, .int .i64 f.dp] tyF)).cell? ⟨x, 3, none⟩ = some (.int .u32 f.d) ∧ (w12.alloc (.cells #[.int .i64 f.p, .int .u32 f.s, .int .i64 f.sp, .int .u32 f.d, .int .i64 f.dp] tyF)).cell? ⟨x, 4, none⟩ = some (.int .i64 f.dp) := flAt_below hS2 (bl_al (Below.refl _ _) _) (block_lt_of_cell hS2.1)) | (go_at_call 22; refine (CE2B.out _ hO1).mono ?_; rintro e w12 ⟨a2, c2, rfl, hI2, hR2, hO2, hk2⟩; have hS2 : w12.cell? ⟨x, 0, none⟩ = some (.int .i64 f.p) ∧ w12.cell? ⟨x, 1, none⟩ = some (.int .u32 f.s) ∧ w12.cell? ⟨x, 2, none⟩ = some (.int .i64 f.sp) ∧ w12.cell? ⟨x, 3, none⟩ = some (.int .u32 f.d) ∧ w12.cell? ⟨x, 4, none⟩ = some (.int .i64 f.dp) := FlAt.kept hS1 hk2 HXK.out) | (go_at_call 21; (with_reducible refine (CSB.out _ _ _ _ hI2 hR2).mono ?_); rintro e w13 ⟨rfl, hb3⟩; have hO3 := (hO2.new hb3).1; have hS4 : w13.cell? ⟨x, 0, none⟩ = some (.int .i64 f.p) ∧ w13.cell? ⟨x, 1, none⟩ = some (.int .u32 f.s) ∧ w13.cell? ⟨x, 2, none⟩ = some (.int .i64 f.sp) ∧ w13.cell? ⟨x, 3, none⟩ = some (.int .u32 f.d) ∧ w13.cell? ⟨x, 4, none⟩ = some (.int .i64 f.dp) := flAt_below hS2 hb3 (block_lt_of_cell hS2.1)) | (go_at_call 21; refine (CS.out _ _ _ hI2).mono ?_; rintro e w13 ⟨rfl, hb3⟩; have hO3 := (hO2.new hb3).1; have hS4 : w13.cell? ⟨x, 0, none⟩ = some (.int .i64 f.p) ∧ w13.cell? ⟨x, 1, none⟩ = some (.int .u32 f.s) ∧ w13.cell? ⟨x, 2, none⟩ = some (.int .i64 f.sp) ∧ w13.cell? ⟨x, 3, none⟩ = some (.int .u32 f.d) ∧ w13.cell? ⟨x, 4, none⟩ = some (.int .i64 f.dp) := flAt_below hS2 hb3 (block_lt_of_cell hS2.1)) | (go_at_call 27; (with_reducible refine (CAl.out _ hO3).mono ?_); rintro e w14 ⟨a4, c4, rfl, hO4, hk4⟩; have hS5 : w14.cell? ⟨x, 0, none⟩ = some (.int .i64 f.p) ∧ w14.cell? ⟨x, 1, none⟩ = some (.int .u32 f.s) ∧ w14.cell? ⟨x, 2, none⟩ = some (.int .i64 f.sp) ∧ w14.cell? ⟨x, 3, none⟩ = some (.int .u32 f.d) ∧ w14.cell? ⟨x, 4, none⟩ = some (.int .i64 f.dp) := FlAt.kept hS4 hk4 HXK.out) | fail)
              all_goals
                have HQ := Lib.hid (HB2.out.trans (hO4.bel.mono HB2.out.size))
                go_wp2
                go_ret
                exact ⟨rfl, HQ.out⟩
          | false =>
            cases k4 : (bits .and .i64 flags 4 == 4) with
            | true =>
              cases k2 : (bits .and .i64 flags 2 == 2) with
              | true =>
                have HFS : Hid (finB f.p flags = true ∧ synB f.p flags = true) := Lib.hid (by rw [HU.out.1, HU.out.2, k1, k2, k4]; exact ⟨rfl, rfl⟩)
                have hLy : limE y = 5 := by rw [HL.out, HFS.out.1, HFS.out.2]; rfl
                rw [hLy] at HE1 HE2
                clear hLy HL
                have CE1 : Hid (∀ V, Below w5.heap.size w5 V → Calls Try.prog 22 #[.pointer (some ⟨p, 0, none⟩), .int .i64 (now + 5)] V fun e w' => ∃ a c, e = .returned (.slice a 0 c) ∧ TOn w2 w' p 5 5 [y] (fun k => k < w2.heap.size) ∧ Kpt (fun k => k < w2.heap.size) V w') := Lib.hid (fun V hb => by
                  have h1 := (HO.out.new hb).1.exp (now + 5) (by simp) (by have := HN.out; unfold InN; omega)
                  rw [HE1.out] at h1
                  refine h1.mono ?_
                  rintro e w' ⟨a, c, he, _, h2, h3⟩
                  exact ⟨a, c, he, h2.less (fun k hk => .inl hk), h3⟩)
                have CE2 : Hid (∀ V, TOn w2 V p 5 5 [y] (fun k => k < w2.heap.size) → Calls Try.prog 22 #[.pointer (some ⟨p, 0, none⟩), .int .i64 (now + 5 + 1)] V fun e w' => ∃ a c, e = .returned (.slice a 1 c) ∧ InF w' a 1 [f] ∧ TOn w2 w' p 5 5 [] (fun k => k < w2.heap.size) ∧ Kpt (fun k => k < w2.heap.size) V w') := Lib.hid (fun V hV => by
                  have h1 := hV.exp (now + 5 + 1) (by simp) (by have := HN.out; unfold InN; omega)
                  rw [HE2.out] at h1
                  refine h1.mono ?_
                  rintro e w' ⟨a, c, he, hI, h2, h3⟩
                  exact ⟨a, c, he, hI, h2.less (fun k hk => .inl hk), h3⟩)
                have CE2B : Hid (∀ V, TOn w2 V p 5 5 [y] (fun k => k < w2.heap.size) → Calls Try.prog 22 #[.pointer (some ⟨p, 0, none⟩), .int .i64 (now + 5 + 1)] (V.alloc (.cells (csF f).toArray tyF)) fun e w' => ∃ a c, e = .returned (.slice a 1 c) ∧ InF w' a 1 [f] ∧ InF w' (some ⟨V.heap.size, 0, none⟩) 1 [f] ∧ TOn w2 w' p 5 5 [] (fun k => k < w2.heap.size) ∧ Kpt (fun k => k < w2.heap.size) V w') := Lib.hid (fun V hV => by
                  have hb := bl_al (Below.refl V.heap.size V) (.cells (csF f).toArray tyF)
                  have h0 := hV.grow hb
                  have h1 := h0.exp (now + 5 + 1) (by simp) (by have := HN.out; unfold InN; omega)
                  rw [HE2.out] at h1
                  refine h1.mono ?_
                  rintro e w' ⟨a, c, he, hI, h2, h3⟩
                  refine ⟨a, c, he, hI, ?_, h2.less (fun k hk => .inl (.inl hk)), fun k hk => (h3 k (.inl hk)).trans (hb.block k (hV.lt k hk))⟩
                  have hr := one_rowF V f
                  refine ⟨rfl, .inr ⟨V.heap.size, 0, rfl, fun j hj => ?_⟩⟩
                  obtain ⟨b, off, e1, h4⟩ := hr.at (j := j) (by simpa using hj)
                  cases e1
                  exact h4.map (fun o v hc => h3.cell hc (.inr ⟨Nat.le_refl _, by simp⟩)))
                have CSB : Hid (∀ V a c b, InF V a 1 [f] → InF V (some ⟨b, 0, none⟩) 1 [f] → Calls Try.prog 21 #[.slice a 1 c, .slice (some ⟨b, 0, none⟩) 1 1] V fun e w' => e = .returned (.bool true) ∧ Below V.heap.size V w') := Lib.hid (fun V a c b hI hI2 => by
                  have h1 := refSameF_c [f] [f] a (some ⟨b, 0, none⟩) 1 1 c 1 V hI hI2 (by omega) (by omega)
                  rw [decide_eq_true rfl] at h1
                  exact h1)
                have CS : Hid (∀ V a c, InF V a 1 [f] → Calls Try.prog 21 #[.slice a 1 c, .slice (some ⟨V.heap.size, 0, none⟩) 1 1] (V.alloc (.cells (csF f).toArray tyF)) fun e w' => e = .returned (.bool true) ∧ Below V.heap.size V w') := Lib.hid (fun V a c hI => by
                  have hb := bl_al (Below.refl V.heap.size V) (.cells (csF f).toArray tyF)
                  have h1 := refSameF_c [f] [f] a (some ⟨V.heap.size, 0, none⟩) 1 1 c 1 _ (hI.below hb) (one_rowF V f) (by omega) (by omega)
                  rw [decide_eq_true rfl] at h1
                  refine h1.mono ?_
                  rintro e w' ⟨he, h2⟩
                  exact ⟨he, bl_tr hb h2⟩)
                have CAl : Hid (∀ V, TOn w2 V p 5 5 [] (fun k => k < w2.heap.size) → Calls Try.prog 27 #[.pointer (some ⟨p, 0, none⟩)] V fun e w' => ∃ a c, e = .returned (.slice a 0 c) ∧ TOn w2 w' p 5 5 [] (fun k => k < w2.heap.size) ∧ Kpt (fun k => k < w2.heap.size) V w') := Lib.hid (fun V hV => by
                  refine (hV.all (by simp)).mono ?_
                  rintro e w' ⟨a, c, he, _, h2, h3⟩
                  exact ⟨a, c, he, h2.less (fun k hk => .inl hk), h3⟩)
                go_upto_region 16 with fail
                have v1 : ∀ [Inhabited Nat], IntKind.i64.wrap (now + 5) = now + 5 := by intro _; exact IntWalk.i64_in _ (by have := HN.out; omega)
                have v2 : ∀ [Inhabited Nat], IntKind.i64.wrap (now + 5 + 1) = now + 5 + 1 := by intro _; exact IntWalk.i64_in _ (by have := HN.out; omega)
                have hd0 : Below w5.heap.size w5 w5.drew := (Below.refl _ _).drew
                have hS0 : w5.drew.cell? ⟨x, 0, none⟩ = some (.int .i64 f.p) ∧ w5.drew.cell? ⟨x, 1, none⟩ = some (.int .u32 f.s) ∧ w5.drew.cell? ⟨x, 2, none⟩ = some (.int .i64 f.sp) ∧ w5.drew.cell? ⟨x, 3, none⟩ = some (.int .u32 f.d) ∧ w5.drew.cell? ⟨x, 4, none⟩ = some (.int .i64 f.dp) := flAt_below HX5.out hd0 (block_lt_of_cell HX5.out.1)
                clear x0 x1 x2 x3 x4
                go_region_held3 (fun wx => wx.cell? ⟨x, 0, none⟩ = some (.int .i64 f.p) ∧ wx.cell? ⟨x, 1, none⟩ = some (.int .u32 f.s) ∧ wx.cell? ⟨x, 2, none⟩ = some (.int .i64 f.sp) ∧ wx.cell? ⟨x, 3, none⟩ = some (.int .u32 f.d) ∧ wx.cell? ⟨x, 4, none⟩ = some (.int .i64 f.dp)) (first | (with_reducible exact hS0) | (with_reducible exact hS1) | (with_reducible exact hS1b) | (with_reducible exact hS2) | (with_reducible exact hS3) | (with_reducible exact hS4) | (with_reducible exact hS5) | (with_reducible assumption) | fail)
                  (first | (go_at_call 22; (with_reducible refine (CE1.out _ hd0).mono ?_); rintro e w11 ⟨a1, c1, rfl, hO1, hk1⟩; have hS1 : w11.cell? ⟨x, 0, none⟩ = some (.int .i64 f.p) ∧ w11.cell? ⟨x, 1, none⟩ = some (.int .u32 f.s) ∧ w11.cell? ⟨x, 2, none⟩ = some (.int .i64 f.sp) ∧ w11.cell? ⟨x, 3, none⟩ = some (.int .u32 f.d) ∧ w11.cell? ⟨x, 4, none⟩ = some (.int .i64 f.dp) := FlAt.kept hS0 hk1 HXK.out; have hS1b : (w11.alloc (.cells #[.int .i64 f.p, .int .u32 f.s, .int .i64 f.sp, .int .u32 f.d, .int .i64 f.dp] tyF)).cell? ⟨x, 0, none⟩ = some (.int .i64 f.p) ∧ (w11.alloc (.cells #[.int .i64 f.p, .int .u32 f.s, .int .i64 f.sp, .int .u32 f.d, .int .i64 f.dp] tyF)).cell? ⟨x, 1, none⟩ = some (.int .u32 f.s) ∧ (w11.alloc (.cells #[.int .i64 f.p, .int .u32 f.s, .int .i64 f.sp, .int .u32 f.d, .int .i64 f.dp] tyF)).cell? ⟨x, 2, none⟩ = some (.int .i64 f.sp) ∧ (w11.alloc (.cells #[.int .i64 f.p, .int .u32 f.s, .int .i64 f.sp, .int .u32 f.d, .int .i64 f.dp] tyF)).cell? ⟨x, 3, none⟩ = some (.int .u32 f.d) ∧ (w11.alloc (.cells #[.int .i64 f.p, .int .u32 f.s, .int .i64 f.sp, .int .u32 f.d, .int .i64 f.dp] tyF)).cell? ⟨x, 4, none⟩ = some (.int .i64 f.dp) := flAt_below hS1 (bl_al (Below.refl _ _) _) (block_lt_of_cell hS1.1)) | (go_at_call 22; (with_reducible refine (CE2.out _ hO1).mono ?_); rintro e w12 ⟨a2, c2, rfl, hI2, hO2, hk2⟩; have hS2 : w12.cell? ⟨x, 0, none⟩ = some (.int .i64 f.p) ∧ w12.cell? ⟨x, 1, none⟩ = some (.int .u32 f.s) ∧ w12.cell? ⟨x, 2, none⟩ = some (.int .i64 f.sp) ∧ w12.cell? ⟨x, 3, none⟩ = some (.int .u32 f.d) ∧ w12.cell? ⟨x, 4, none⟩ = some (.int .i64 f.dp) := FlAt.kept hS1 hk2 HXK.out; have hS3 : (w12.alloc (.cells #[.int .i64 f.p, .int .u32 f.s, .int .i64 f.sp, .int .u32 f.d, .int .i64 f.dp] tyF)).cell? ⟨x, 0, none⟩ = some (.int .i64 f.p) ∧ (w12.alloc (.cells #[.int .i64 f.p, .int .u32 f.s, .int .i64 f.sp, .int .u32 f.d, .int .i64 f.dp] tyF)).cell? ⟨x, 1, none⟩ = some (.int .u32 f.s) ∧ (w12.alloc (.cells #[.int .i64 f.p, .int .u32 f.s, .int .i64 f.sp, .int .u32 f.d, .int .i64 f.dp] tyF)).cell? ⟨x, 2, none⟩ = some (.int .i64 f.sp) ∧ (w12.alloc (.cells #[.int .i64 f.p, .int .u32 f.s, .int .i64 f.sp, .int .u32 f.d, .int .i64 f.dp] tyF)).cell? ⟨x, 3, none⟩ = some (.int .u32 f.d) ∧ (w12.alloc (.cells #[.int .i64 f.p, .int .u32 f.s, .int .i64 f.sp, .int .u32 f.d, .int .i64 f.dp] tyF)).cell? ⟨x, 4, none⟩ = some (.int .i64 f.dp) := flAt_below hS2 (bl_al (Below.refl _ _) _) (block_lt_of_cell hS2.1)) | (go_at_call 22; refine (CE2B.out _ hO1).mono ?_; rintro e w12 ⟨a2, c2, rfl, hI2, hR2, hO2, hk2⟩; have hS2 : w12.cell? ⟨x, 0, none⟩ = some (.int .i64 f.p) ∧ w12.cell? ⟨x, 1, none⟩ = some (.int .u32 f.s) ∧ w12.cell? ⟨x, 2, none⟩ = some (.int .i64 f.sp) ∧ w12.cell? ⟨x, 3, none⟩ = some (.int .u32 f.d) ∧ w12.cell? ⟨x, 4, none⟩ = some (.int .i64 f.dp) := FlAt.kept hS1 hk2 HXK.out) | (go_at_call 21; (with_reducible refine (CSB.out _ _ _ _ hI2 hR2).mono ?_); rintro e w13 ⟨rfl, hb3⟩; have hO3 := (hO2.new hb3).1; have hS4 : w13.cell? ⟨x, 0, none⟩ = some (.int .i64 f.p) ∧ w13.cell? ⟨x, 1, none⟩ = some (.int .u32 f.s) ∧ w13.cell? ⟨x, 2, none⟩ = some (.int .i64 f.sp) ∧ w13.cell? ⟨x, 3, none⟩ = some (.int .u32 f.d) ∧ w13.cell? ⟨x, 4, none⟩ = some (.int .i64 f.dp) := flAt_below hS2 hb3 (block_lt_of_cell hS2.1)) | (go_at_call 21; refine (CS.out _ _ _ hI2).mono ?_; rintro e w13 ⟨rfl, hb3⟩; have hO3 := (hO2.new hb3).1; have hS4 : w13.cell? ⟨x, 0, none⟩ = some (.int .i64 f.p) ∧ w13.cell? ⟨x, 1, none⟩ = some (.int .u32 f.s) ∧ w13.cell? ⟨x, 2, none⟩ = some (.int .i64 f.sp) ∧ w13.cell? ⟨x, 3, none⟩ = some (.int .u32 f.d) ∧ w13.cell? ⟨x, 4, none⟩ = some (.int .i64 f.dp) := flAt_below hS2 hb3 (block_lt_of_cell hS2.1)) | (go_at_call 27; (with_reducible refine (CAl.out _ hO3).mono ?_); rintro e w14 ⟨a4, c4, rfl, hO4, hk4⟩; have hS5 : w14.cell? ⟨x, 0, none⟩ = some (.int .i64 f.p) ∧ w14.cell? ⟨x, 1, none⟩ = some (.int .u32 f.s) ∧ w14.cell? ⟨x, 2, none⟩ = some (.int .i64 f.sp) ∧ w14.cell? ⟨x, 3, none⟩ = some (.int .u32 f.d) ∧ w14.cell? ⟨x, 4, none⟩ = some (.int .i64 f.dp) := FlAt.kept hS4 hk4 HXK.out) | fail)
                all_goals
                  have HQ := Lib.hid (HB2.out.trans (hO4.bel.mono HB2.out.size))
                  go_wp2
                  go_ret
                  exact ⟨rfl, HQ.out⟩
              | false =>
                have HFS : Hid (finB f.p flags = true ∧ synB f.p flags = false) := Lib.hid (by rw [HU.out.1, HU.out.2, k1, k2, k4]; exact ⟨rfl, rfl⟩)
                have hLy : limE y = 5 := by rw [HL.out, HFS.out.1, HFS.out.2]; rfl
                rw [hLy] at HE1 HE2
                clear hLy HL
                have CE1 : Hid (∀ V, Below w5.heap.size w5 V → Calls Try.prog 22 #[.pointer (some ⟨p, 0, none⟩), .int .i64 (now + 5)] V fun e w' => ∃ a c, e = .returned (.slice a 0 c) ∧ TOn w2 w' p 5 5 [y] (fun k => k < w2.heap.size) ∧ Kpt (fun k => k < w2.heap.size) V w') := Lib.hid (fun V hb => by
                  have h1 := (HO.out.new hb).1.exp (now + 5) (by simp) (by have := HN.out; unfold InN; omega)
                  rw [HE1.out] at h1
                  refine h1.mono ?_
                  rintro e w' ⟨a, c, he, _, h2, h3⟩
                  exact ⟨a, c, he, h2.less (fun k hk => .inl hk), h3⟩)
                have CE2 : Hid (∀ V, TOn w2 V p 5 5 [y] (fun k => k < w2.heap.size) → Calls Try.prog 22 #[.pointer (some ⟨p, 0, none⟩), .int .i64 (now + 5 + 1)] V fun e w' => ∃ a c, e = .returned (.slice a 1 c) ∧ InF w' a 1 [f] ∧ TOn w2 w' p 5 5 [] (fun k => k < w2.heap.size) ∧ Kpt (fun k => k < w2.heap.size) V w') := Lib.hid (fun V hV => by
                  have h1 := hV.exp (now + 5 + 1) (by simp) (by have := HN.out; unfold InN; omega)
                  rw [HE2.out] at h1
                  refine h1.mono ?_
                  rintro e w' ⟨a, c, he, hI, h2, h3⟩
                  exact ⟨a, c, he, hI, h2.less (fun k hk => .inl hk), h3⟩)
                have CE2B : Hid (∀ V, TOn w2 V p 5 5 [y] (fun k => k < w2.heap.size) → Calls Try.prog 22 #[.pointer (some ⟨p, 0, none⟩), .int .i64 (now + 5 + 1)] (V.alloc (.cells (csF f).toArray tyF)) fun e w' => ∃ a c, e = .returned (.slice a 1 c) ∧ InF w' a 1 [f] ∧ InF w' (some ⟨V.heap.size, 0, none⟩) 1 [f] ∧ TOn w2 w' p 5 5 [] (fun k => k < w2.heap.size) ∧ Kpt (fun k => k < w2.heap.size) V w') := Lib.hid (fun V hV => by
                  have hb := bl_al (Below.refl V.heap.size V) (.cells (csF f).toArray tyF)
                  have h0 := hV.grow hb
                  have h1 := h0.exp (now + 5 + 1) (by simp) (by have := HN.out; unfold InN; omega)
                  rw [HE2.out] at h1
                  refine h1.mono ?_
                  rintro e w' ⟨a, c, he, hI, h2, h3⟩
                  refine ⟨a, c, he, hI, ?_, h2.less (fun k hk => .inl (.inl hk)), fun k hk => (h3 k (.inl hk)).trans (hb.block k (hV.lt k hk))⟩
                  have hr := one_rowF V f
                  refine ⟨rfl, .inr ⟨V.heap.size, 0, rfl, fun j hj => ?_⟩⟩
                  obtain ⟨b, off, e1, h4⟩ := hr.at (j := j) (by simpa using hj)
                  cases e1
                  exact h4.map (fun o v hc => h3.cell hc (.inr ⟨Nat.le_refl _, by simp⟩)))
                have CSB : Hid (∀ V a c b, InF V a 1 [f] → InF V (some ⟨b, 0, none⟩) 1 [f] → Calls Try.prog 21 #[.slice a 1 c, .slice (some ⟨b, 0, none⟩) 1 1] V fun e w' => e = .returned (.bool true) ∧ Below V.heap.size V w') := Lib.hid (fun V a c b hI hI2 => by
                  have h1 := refSameF_c [f] [f] a (some ⟨b, 0, none⟩) 1 1 c 1 V hI hI2 (by omega) (by omega)
                  rw [decide_eq_true rfl] at h1
                  exact h1)
                have CS : Hid (∀ V a c, InF V a 1 [f] → Calls Try.prog 21 #[.slice a 1 c, .slice (some ⟨V.heap.size, 0, none⟩) 1 1] (V.alloc (.cells (csF f).toArray tyF)) fun e w' => e = .returned (.bool true) ∧ Below V.heap.size V w') := Lib.hid (fun V a c hI => by
                  have hb := bl_al (Below.refl V.heap.size V) (.cells (csF f).toArray tyF)
                  have h1 := refSameF_c [f] [f] a (some ⟨V.heap.size, 0, none⟩) 1 1 c 1 _ (hI.below hb) (one_rowF V f) (by omega) (by omega)
                  rw [decide_eq_true rfl] at h1
                  refine h1.mono ?_
                  rintro e w' ⟨he, h2⟩
                  exact ⟨he, bl_tr hb h2⟩)
                have CAl : Hid (∀ V, TOn w2 V p 5 5 [] (fun k => k < w2.heap.size) → Calls Try.prog 27 #[.pointer (some ⟨p, 0, none⟩)] V fun e w' => ∃ a c, e = .returned (.slice a 0 c) ∧ TOn w2 w' p 5 5 [] (fun k => k < w2.heap.size) ∧ Kpt (fun k => k < w2.heap.size) V w') := Lib.hid (fun V hV => by
                  refine (hV.all (by simp)).mono ?_
                  rintro e w' ⟨a, c, he, _, h2, h3⟩
                  exact ⟨a, c, he, h2.less (fun k hk => .inl hk), h3⟩)
                go_upto_region 16 with fail
                have v1 : ∀ [Inhabited Nat], IntKind.i64.wrap (now + 5) = now + 5 := by intro _; exact IntWalk.i64_in _ (by have := HN.out; omega)
                have v2 : ∀ [Inhabited Nat], IntKind.i64.wrap (now + 5 + 1) = now + 5 + 1 := by intro _; exact IntWalk.i64_in _ (by have := HN.out; omega)
                have hd0 : Below w5.heap.size w5 w5.drew := (Below.refl _ _).drew
                have hS0 : w5.drew.cell? ⟨x, 0, none⟩ = some (.int .i64 f.p) ∧ w5.drew.cell? ⟨x, 1, none⟩ = some (.int .u32 f.s) ∧ w5.drew.cell? ⟨x, 2, none⟩ = some (.int .i64 f.sp) ∧ w5.drew.cell? ⟨x, 3, none⟩ = some (.int .u32 f.d) ∧ w5.drew.cell? ⟨x, 4, none⟩ = some (.int .i64 f.dp) := flAt_below HX5.out hd0 (block_lt_of_cell HX5.out.1)
                clear x0 x1 x2 x3 x4
                go_region_held3 (fun wx => wx.cell? ⟨x, 0, none⟩ = some (.int .i64 f.p) ∧ wx.cell? ⟨x, 1, none⟩ = some (.int .u32 f.s) ∧ wx.cell? ⟨x, 2, none⟩ = some (.int .i64 f.sp) ∧ wx.cell? ⟨x, 3, none⟩ = some (.int .u32 f.d) ∧ wx.cell? ⟨x, 4, none⟩ = some (.int .i64 f.dp)) (first | (with_reducible exact hS0) | (with_reducible exact hS1) | (with_reducible exact hS1b) | (with_reducible exact hS2) | (with_reducible exact hS3) | (with_reducible exact hS4) | (with_reducible exact hS5) | (with_reducible assumption) | fail)
                  (first | (go_at_call 22; (with_reducible refine (CE1.out _ hd0).mono ?_); rintro e w11 ⟨a1, c1, rfl, hO1, hk1⟩; have hS1 : w11.cell? ⟨x, 0, none⟩ = some (.int .i64 f.p) ∧ w11.cell? ⟨x, 1, none⟩ = some (.int .u32 f.s) ∧ w11.cell? ⟨x, 2, none⟩ = some (.int .i64 f.sp) ∧ w11.cell? ⟨x, 3, none⟩ = some (.int .u32 f.d) ∧ w11.cell? ⟨x, 4, none⟩ = some (.int .i64 f.dp) := FlAt.kept hS0 hk1 HXK.out; have hS1b : (w11.alloc (.cells #[.int .i64 f.p, .int .u32 f.s, .int .i64 f.sp, .int .u32 f.d, .int .i64 f.dp] tyF)).cell? ⟨x, 0, none⟩ = some (.int .i64 f.p) ∧ (w11.alloc (.cells #[.int .i64 f.p, .int .u32 f.s, .int .i64 f.sp, .int .u32 f.d, .int .i64 f.dp] tyF)).cell? ⟨x, 1, none⟩ = some (.int .u32 f.s) ∧ (w11.alloc (.cells #[.int .i64 f.p, .int .u32 f.s, .int .i64 f.sp, .int .u32 f.d, .int .i64 f.dp] tyF)).cell? ⟨x, 2, none⟩ = some (.int .i64 f.sp) ∧ (w11.alloc (.cells #[.int .i64 f.p, .int .u32 f.s, .int .i64 f.sp, .int .u32 f.d, .int .i64 f.dp] tyF)).cell? ⟨x, 3, none⟩ = some (.int .u32 f.d) ∧ (w11.alloc (.cells #[.int .i64 f.p, .int .u32 f.s, .int .i64 f.sp, .int .u32 f.d, .int .i64 f.dp] tyF)).cell? ⟨x, 4, none⟩ = some (.int .i64 f.dp) := flAt_below hS1 (bl_al (Below.refl _ _) _) (block_lt_of_cell hS1.1)) | (go_at_call 22; (with_reducible refine (CE2.out _ hO1).mono ?_); rintro e w12 ⟨a2, c2, rfl, hI2, hO2, hk2⟩; have hS2 : w12.cell? ⟨x, 0, none⟩ = some (.int .i64 f.p) ∧ w12.cell? ⟨x, 1, none⟩ = some (.int .u32 f.s) ∧ w12.cell? ⟨x, 2, none⟩ = some (.int .i64 f.sp) ∧ w12.cell? ⟨x, 3, none⟩ = some (.int .u32 f.d) ∧ w12.cell? ⟨x, 4, none⟩ = some (.int .i64 f.dp) := FlAt.kept hS1 hk2 HXK.out; have hS3 : (w12.alloc (.cells #[.int .i64 f.p, .int .u32 f.s, .int .i64 f.sp, .int .u32 f.d, .int .i64 f.dp] tyF)).cell? ⟨x, 0, none⟩ = some (.int .i64 f.p) ∧ (w12.alloc (.cells #[.int .i64 f.p, .int .u32 f.s, .int .i64 f.sp, .int .u32 f.d, .int .i64 f.dp] tyF)).cell? ⟨x, 1, none⟩ = some (.int .u32 f.s) ∧ (w12.alloc (.cells #[.int .i64 f.p, .int .u32 f.s, .int .i64 f.sp, .int .u32 f.d, .int .i64 f.dp] tyF)).cell? ⟨x, 2, none⟩ = some (.int .i64 f.sp) ∧ (w12.alloc (.cells #[.int .i64 f.p, .int .u32 f.s, .int .i64 f.sp, .int .u32 f.d, .int .i64 f.dp] tyF)).cell? ⟨x, 3, none⟩ = some (.int .u32 f.d) ∧ (w12.alloc (.cells #[.int .i64 f.p, .int .u32 f.s, .int .i64 f.sp, .int .u32 f.d, .int .i64 f.dp] tyF)).cell? ⟨x, 4, none⟩ = some (.int .i64 f.dp) := flAt_below hS2 (bl_al (Below.refl _ _) _) (block_lt_of_cell hS2.1)) | (go_at_call 22; refine (CE2B.out _ hO1).mono ?_; rintro e w12 ⟨a2, c2, rfl, hI2, hR2, hO2, hk2⟩; have hS2 : w12.cell? ⟨x, 0, none⟩ = some (.int .i64 f.p) ∧ w12.cell? ⟨x, 1, none⟩ = some (.int .u32 f.s) ∧ w12.cell? ⟨x, 2, none⟩ = some (.int .i64 f.sp) ∧ w12.cell? ⟨x, 3, none⟩ = some (.int .u32 f.d) ∧ w12.cell? ⟨x, 4, none⟩ = some (.int .i64 f.dp) := FlAt.kept hS1 hk2 HXK.out) | (go_at_call 21; (with_reducible refine (CSB.out _ _ _ _ hI2 hR2).mono ?_); rintro e w13 ⟨rfl, hb3⟩; have hO3 := (hO2.new hb3).1; have hS4 : w13.cell? ⟨x, 0, none⟩ = some (.int .i64 f.p) ∧ w13.cell? ⟨x, 1, none⟩ = some (.int .u32 f.s) ∧ w13.cell? ⟨x, 2, none⟩ = some (.int .i64 f.sp) ∧ w13.cell? ⟨x, 3, none⟩ = some (.int .u32 f.d) ∧ w13.cell? ⟨x, 4, none⟩ = some (.int .i64 f.dp) := flAt_below hS2 hb3 (block_lt_of_cell hS2.1)) | (go_at_call 21; refine (CS.out _ _ _ hI2).mono ?_; rintro e w13 ⟨rfl, hb3⟩; have hO3 := (hO2.new hb3).1; have hS4 : w13.cell? ⟨x, 0, none⟩ = some (.int .i64 f.p) ∧ w13.cell? ⟨x, 1, none⟩ = some (.int .u32 f.s) ∧ w13.cell? ⟨x, 2, none⟩ = some (.int .i64 f.sp) ∧ w13.cell? ⟨x, 3, none⟩ = some (.int .u32 f.d) ∧ w13.cell? ⟨x, 4, none⟩ = some (.int .i64 f.dp) := flAt_below hS2 hb3 (block_lt_of_cell hS2.1)) | (go_at_call 27; (with_reducible refine (CAl.out _ hO3).mono ?_); rintro e w14 ⟨a4, c4, rfl, hO4, hk4⟩; have hS5 : w14.cell? ⟨x, 0, none⟩ = some (.int .i64 f.p) ∧ w14.cell? ⟨x, 1, none⟩ = some (.int .u32 f.s) ∧ w14.cell? ⟨x, 2, none⟩ = some (.int .i64 f.sp) ∧ w14.cell? ⟨x, 3, none⟩ = some (.int .u32 f.d) ∧ w14.cell? ⟨x, 4, none⟩ = some (.int .i64 f.dp) := FlAt.kept hS4 hk4 HXK.out) | fail)
                all_goals
                  have HQ := Lib.hid (HB2.out.trans (hO4.bel.mono HB2.out.size))
                  go_wp2
                  go_ret
                  exact ⟨rfl, HQ.out⟩
            | false =>
              cases k2 : (bits .and .i64 flags 2 == 2) with
              | true =>
                have HFS : Hid (finB f.p flags = false ∧ synB f.p flags = true) := Lib.hid (by rw [HU.out.1, HU.out.2, k1, k2, k4]; exact ⟨rfl, rfl⟩)
                have hLy : limE y = 10 := by rw [HL.out, HFS.out.1, HFS.out.2]; rfl
                rw [hLy] at HE1 HE2
                clear hLy HL
                have CE1 : Hid (∀ V, Below w5.heap.size w5 V → Calls Try.prog 22 #[.pointer (some ⟨p, 0, none⟩), .int .i64 (now + 10)] V fun e w' => ∃ a c, e = .returned (.slice a 0 c) ∧ TOn w2 w' p 5 5 [y] (fun k => k < w2.heap.size) ∧ Kpt (fun k => k < w2.heap.size) V w') := Lib.hid (fun V hb => by
                  have h1 := (HO.out.new hb).1.exp (now + 10) (by simp) (by have := HN.out; unfold InN; omega)
                  rw [HE1.out] at h1
                  refine h1.mono ?_
                  rintro e w' ⟨a, c, he, _, h2, h3⟩
                  exact ⟨a, c, he, h2.less (fun k hk => .inl hk), h3⟩)
                have CE2 : Hid (∀ V, TOn w2 V p 5 5 [y] (fun k => k < w2.heap.size) → Calls Try.prog 22 #[.pointer (some ⟨p, 0, none⟩), .int .i64 (now + 10 + 1)] V fun e w' => ∃ a c, e = .returned (.slice a 1 c) ∧ InF w' a 1 [f] ∧ TOn w2 w' p 5 5 [] (fun k => k < w2.heap.size) ∧ Kpt (fun k => k < w2.heap.size) V w') := Lib.hid (fun V hV => by
                  have h1 := hV.exp (now + 10 + 1) (by simp) (by have := HN.out; unfold InN; omega)
                  rw [HE2.out] at h1
                  refine h1.mono ?_
                  rintro e w' ⟨a, c, he, hI, h2, h3⟩
                  exact ⟨a, c, he, hI, h2.less (fun k hk => .inl hk), h3⟩)
                have CE2B : Hid (∀ V, TOn w2 V p 5 5 [y] (fun k => k < w2.heap.size) → Calls Try.prog 22 #[.pointer (some ⟨p, 0, none⟩), .int .i64 (now + 10 + 1)] (V.alloc (.cells (csF f).toArray tyF)) fun e w' => ∃ a c, e = .returned (.slice a 1 c) ∧ InF w' a 1 [f] ∧ InF w' (some ⟨V.heap.size, 0, none⟩) 1 [f] ∧ TOn w2 w' p 5 5 [] (fun k => k < w2.heap.size) ∧ Kpt (fun k => k < w2.heap.size) V w') := Lib.hid (fun V hV => by
                  have hb := bl_al (Below.refl V.heap.size V) (.cells (csF f).toArray tyF)
                  have h0 := hV.grow hb
                  have h1 := h0.exp (now + 10 + 1) (by simp) (by have := HN.out; unfold InN; omega)
                  rw [HE2.out] at h1
                  refine h1.mono ?_
                  rintro e w' ⟨a, c, he, hI, h2, h3⟩
                  refine ⟨a, c, he, hI, ?_, h2.less (fun k hk => .inl (.inl hk)), fun k hk => (h3 k (.inl hk)).trans (hb.block k (hV.lt k hk))⟩
                  have hr := one_rowF V f
                  refine ⟨rfl, .inr ⟨V.heap.size, 0, rfl, fun j hj => ?_⟩⟩
                  obtain ⟨b, off, e1, h4⟩ := hr.at (j := j) (by simpa using hj)
                  cases e1
                  exact h4.map (fun o v hc => h3.cell hc (.inr ⟨Nat.le_refl _, by simp⟩)))
                have CSB : Hid (∀ V a c b, InF V a 1 [f] → InF V (some ⟨b, 0, none⟩) 1 [f] → Calls Try.prog 21 #[.slice a 1 c, .slice (some ⟨b, 0, none⟩) 1 1] V fun e w' => e = .returned (.bool true) ∧ Below V.heap.size V w') := Lib.hid (fun V a c b hI hI2 => by
                  have h1 := refSameF_c [f] [f] a (some ⟨b, 0, none⟩) 1 1 c 1 V hI hI2 (by omega) (by omega)
                  rw [decide_eq_true rfl] at h1
                  exact h1)
                have CS : Hid (∀ V a c, InF V a 1 [f] → Calls Try.prog 21 #[.slice a 1 c, .slice (some ⟨V.heap.size, 0, none⟩) 1 1] (V.alloc (.cells (csF f).toArray tyF)) fun e w' => e = .returned (.bool true) ∧ Below V.heap.size V w') := Lib.hid (fun V a c hI => by
                  have hb := bl_al (Below.refl V.heap.size V) (.cells (csF f).toArray tyF)
                  have h1 := refSameF_c [f] [f] a (some ⟨V.heap.size, 0, none⟩) 1 1 c 1 _ (hI.below hb) (one_rowF V f) (by omega) (by omega)
                  rw [decide_eq_true rfl] at h1
                  refine h1.mono ?_
                  rintro e w' ⟨he, h2⟩
                  exact ⟨he, bl_tr hb h2⟩)
                have CAl : Hid (∀ V, TOn w2 V p 5 5 [] (fun k => k < w2.heap.size) → Calls Try.prog 27 #[.pointer (some ⟨p, 0, none⟩)] V fun e w' => ∃ a c, e = .returned (.slice a 0 c) ∧ TOn w2 w' p 5 5 [] (fun k => k < w2.heap.size) ∧ Kpt (fun k => k < w2.heap.size) V w') := Lib.hid (fun V hV => by
                  refine (hV.all (by simp)).mono ?_
                  rintro e w' ⟨a, c, he, _, h2, h3⟩
                  exact ⟨a, c, he, h2.less (fun k hk => .inl hk), h3⟩)
                go_upto_region 16 with fail
                have v1 : ∀ [Inhabited Nat], IntKind.i64.wrap (now + 10) = now + 10 := by intro _; exact IntWalk.i64_in _ (by have := HN.out; omega)
                have v2 : ∀ [Inhabited Nat], IntKind.i64.wrap (now + 10 + 1) = now + 10 + 1 := by intro _; exact IntWalk.i64_in _ (by have := HN.out; omega)
                have hd0 : Below w5.heap.size w5 w5.drew := (Below.refl _ _).drew
                have hS0 : w5.drew.cell? ⟨x, 0, none⟩ = some (.int .i64 f.p) ∧ w5.drew.cell? ⟨x, 1, none⟩ = some (.int .u32 f.s) ∧ w5.drew.cell? ⟨x, 2, none⟩ = some (.int .i64 f.sp) ∧ w5.drew.cell? ⟨x, 3, none⟩ = some (.int .u32 f.d) ∧ w5.drew.cell? ⟨x, 4, none⟩ = some (.int .i64 f.dp) := flAt_below HX5.out hd0 (block_lt_of_cell HX5.out.1)
                clear x0 x1 x2 x3 x4
                go_region_held3 (fun wx => wx.cell? ⟨x, 0, none⟩ = some (.int .i64 f.p) ∧ wx.cell? ⟨x, 1, none⟩ = some (.int .u32 f.s) ∧ wx.cell? ⟨x, 2, none⟩ = some (.int .i64 f.sp) ∧ wx.cell? ⟨x, 3, none⟩ = some (.int .u32 f.d) ∧ wx.cell? ⟨x, 4, none⟩ = some (.int .i64 f.dp)) (first | (with_reducible exact hS0) | (with_reducible exact hS1) | (with_reducible exact hS1b) | (with_reducible exact hS2) | (with_reducible exact hS3) | (with_reducible exact hS4) | (with_reducible exact hS5) | (with_reducible assumption) | fail)
                  (first | (go_at_call 22; (with_reducible refine (CE1.out _ hd0).mono ?_); rintro e w11 ⟨a1, c1, rfl, hO1, hk1⟩; have hS1 : w11.cell? ⟨x, 0, none⟩ = some (.int .i64 f.p) ∧ w11.cell? ⟨x, 1, none⟩ = some (.int .u32 f.s) ∧ w11.cell? ⟨x, 2, none⟩ = some (.int .i64 f.sp) ∧ w11.cell? ⟨x, 3, none⟩ = some (.int .u32 f.d) ∧ w11.cell? ⟨x, 4, none⟩ = some (.int .i64 f.dp) := FlAt.kept hS0 hk1 HXK.out; have hS1b : (w11.alloc (.cells #[.int .i64 f.p, .int .u32 f.s, .int .i64 f.sp, .int .u32 f.d, .int .i64 f.dp] tyF)).cell? ⟨x, 0, none⟩ = some (.int .i64 f.p) ∧ (w11.alloc (.cells #[.int .i64 f.p, .int .u32 f.s, .int .i64 f.sp, .int .u32 f.d, .int .i64 f.dp] tyF)).cell? ⟨x, 1, none⟩ = some (.int .u32 f.s) ∧ (w11.alloc (.cells #[.int .i64 f.p, .int .u32 f.s, .int .i64 f.sp, .int .u32 f.d, .int .i64 f.dp] tyF)).cell? ⟨x, 2, none⟩ = some (.int .i64 f.sp) ∧ (w11.alloc (.cells #[.int .i64 f.p, .int .u32 f.s, .int .i64 f.sp, .int .u32 f.d, .int .i64 f.dp] tyF)).cell? ⟨x, 3, none⟩ = some (.int .u32 f.d) ∧ (w11.alloc (.cells #[.int .i64 f.p, .int .u32 f.s, .int .i64 f.sp, .int .u32 f.d, .int .i64 f.dp] tyF)).cell? ⟨x, 4, none⟩ = some (.int .i64 f.dp) := flAt_below hS1 (bl_al (Below.refl _ _) _) (block_lt_of_cell hS1.1)) | (go_at_call 22; (with_reducible refine (CE2.out _ hO1).mono ?_); rintro e w12 ⟨a2, c2, rfl, hI2, hO2, hk2⟩; have hS2 : w12.cell? ⟨x, 0, none⟩ = some (.int .i64 f.p) ∧ w12.cell? ⟨x, 1, none⟩ = some (.int .u32 f.s) ∧ w12.cell? ⟨x, 2, none⟩ = some (.int .i64 f.sp) ∧ w12.cell? ⟨x, 3, none⟩ = some (.int .u32 f.d) ∧ w12.cell? ⟨x, 4, none⟩ = some (.int .i64 f.dp) := FlAt.kept hS1 hk2 HXK.out; have hS3 : (w12.alloc (.cells #[.int .i64 f.p, .int .u32 f.s, .int .i64 f.sp, .int .u32 f.d, .int .i64 f.dp] tyF)).cell? ⟨x, 0, none⟩ = some (.int .i64 f.p) ∧ (w12.alloc (.cells #[.int .i64 f.p, .int .u32 f.s, .int .i64 f.sp, .int .u32 f.d, .int .i64 f.dp] tyF)).cell? ⟨x, 1, none⟩ = some (.int .u32 f.s) ∧ (w12.alloc (.cells #[.int .i64 f.p, .int .u32 f.s, .int .i64 f.sp, .int .u32 f.d, .int .i64 f.dp] tyF)).cell? ⟨x, 2, none⟩ = some (.int .i64 f.sp) ∧ (w12.alloc (.cells #[.int .i64 f.p, .int .u32 f.s, .int .i64 f.sp, .int .u32 f.d, .int .i64 f.dp] tyF)).cell? ⟨x, 3, none⟩ = some (.int .u32 f.d) ∧ (w12.alloc (.cells #[.int .i64 f.p, .int .u32 f.s, .int .i64 f.sp, .int .u32 f.d, .int .i64 f.dp] tyF)).cell? ⟨x, 4, none⟩ = some (.int .i64 f.dp) := flAt_below hS2 (bl_al (Below.refl _ _) _) (block_lt_of_cell hS2.1)) | (go_at_call 22; refine (CE2B.out _ hO1).mono ?_; rintro e w12 ⟨a2, c2, rfl, hI2, hR2, hO2, hk2⟩; have hS2 : w12.cell? ⟨x, 0, none⟩ = some (.int .i64 f.p) ∧ w12.cell? ⟨x, 1, none⟩ = some (.int .u32 f.s) ∧ w12.cell? ⟨x, 2, none⟩ = some (.int .i64 f.sp) ∧ w12.cell? ⟨x, 3, none⟩ = some (.int .u32 f.d) ∧ w12.cell? ⟨x, 4, none⟩ = some (.int .i64 f.dp) := FlAt.kept hS1 hk2 HXK.out) | (go_at_call 21; (with_reducible refine (CSB.out _ _ _ _ hI2 hR2).mono ?_); rintro e w13 ⟨rfl, hb3⟩; have hO3 := (hO2.new hb3).1; have hS4 : w13.cell? ⟨x, 0, none⟩ = some (.int .i64 f.p) ∧ w13.cell? ⟨x, 1, none⟩ = some (.int .u32 f.s) ∧ w13.cell? ⟨x, 2, none⟩ = some (.int .i64 f.sp) ∧ w13.cell? ⟨x, 3, none⟩ = some (.int .u32 f.d) ∧ w13.cell? ⟨x, 4, none⟩ = some (.int .i64 f.dp) := flAt_below hS2 hb3 (block_lt_of_cell hS2.1)) | (go_at_call 21; refine (CS.out _ _ _ hI2).mono ?_; rintro e w13 ⟨rfl, hb3⟩; have hO3 := (hO2.new hb3).1; have hS4 : w13.cell? ⟨x, 0, none⟩ = some (.int .i64 f.p) ∧ w13.cell? ⟨x, 1, none⟩ = some (.int .u32 f.s) ∧ w13.cell? ⟨x, 2, none⟩ = some (.int .i64 f.sp) ∧ w13.cell? ⟨x, 3, none⟩ = some (.int .u32 f.d) ∧ w13.cell? ⟨x, 4, none⟩ = some (.int .i64 f.dp) := flAt_below hS2 hb3 (block_lt_of_cell hS2.1)) | (go_at_call 27; (with_reducible refine (CAl.out _ hO3).mono ?_); rintro e w14 ⟨a4, c4, rfl, hO4, hk4⟩; have hS5 : w14.cell? ⟨x, 0, none⟩ = some (.int .i64 f.p) ∧ w14.cell? ⟨x, 1, none⟩ = some (.int .u32 f.s) ∧ w14.cell? ⟨x, 2, none⟩ = some (.int .i64 f.sp) ∧ w14.cell? ⟨x, 3, none⟩ = some (.int .u32 f.d) ∧ w14.cell? ⟨x, 4, none⟩ = some (.int .i64 f.dp) := FlAt.kept hS4 hk4 HXK.out) | fail)
                all_goals
                  have HQ := Lib.hid (HB2.out.trans (hO4.bel.mono HB2.out.size))
                  go_wp2
                  go_ret
                  exact ⟨rfl, HQ.out⟩
              | false =>
                have HFS : Hid (finB f.p flags = false ∧ synB f.p flags = false) := Lib.hid (by rw [HU.out.1, HU.out.2, k1, k2, k4]; exact ⟨rfl, rfl⟩)
                have hLy : limE y = 60 := by rw [HL.out, HFS.out.1, HFS.out.2]; rfl
                rw [hLy] at HE1 HE2
                clear hLy HL
                have CE1 : Hid (∀ V, Below w5.heap.size w5 V → Calls Try.prog 22 #[.pointer (some ⟨p, 0, none⟩), .int .i64 (now + 60)] V fun e w' => ∃ a c, e = .returned (.slice a 0 c) ∧ TOn w2 w' p 5 5 [y] (fun k => k < w2.heap.size) ∧ Kpt (fun k => k < w2.heap.size) V w') := Lib.hid (fun V hb => by
                  have h1 := (HO.out.new hb).1.exp (now + 60) (by simp) (by have := HN.out; unfold InN; omega)
                  rw [HE1.out] at h1
                  refine h1.mono ?_
                  rintro e w' ⟨a, c, he, _, h2, h3⟩
                  exact ⟨a, c, he, h2.less (fun k hk => .inl hk), h3⟩)
                have CE2 : Hid (∀ V, TOn w2 V p 5 5 [y] (fun k => k < w2.heap.size) → Calls Try.prog 22 #[.pointer (some ⟨p, 0, none⟩), .int .i64 (now + 60 + 1)] V fun e w' => ∃ a c, e = .returned (.slice a 1 c) ∧ InF w' a 1 [f] ∧ TOn w2 w' p 5 5 [] (fun k => k < w2.heap.size) ∧ Kpt (fun k => k < w2.heap.size) V w') := Lib.hid (fun V hV => by
                  have h1 := hV.exp (now + 60 + 1) (by simp) (by have := HN.out; unfold InN; omega)
                  rw [HE2.out] at h1
                  refine h1.mono ?_
                  rintro e w' ⟨a, c, he, hI, h2, h3⟩
                  exact ⟨a, c, he, hI, h2.less (fun k hk => .inl hk), h3⟩)
                have CE2B : Hid (∀ V, TOn w2 V p 5 5 [y] (fun k => k < w2.heap.size) → Calls Try.prog 22 #[.pointer (some ⟨p, 0, none⟩), .int .i64 (now + 60 + 1)] (V.alloc (.cells (csF f).toArray tyF)) fun e w' => ∃ a c, e = .returned (.slice a 1 c) ∧ InF w' a 1 [f] ∧ InF w' (some ⟨V.heap.size, 0, none⟩) 1 [f] ∧ TOn w2 w' p 5 5 [] (fun k => k < w2.heap.size) ∧ Kpt (fun k => k < w2.heap.size) V w') := Lib.hid (fun V hV => by
                  have hb := bl_al (Below.refl V.heap.size V) (.cells (csF f).toArray tyF)
                  have h0 := hV.grow hb
                  have h1 := h0.exp (now + 60 + 1) (by simp) (by have := HN.out; unfold InN; omega)
                  rw [HE2.out] at h1
                  refine h1.mono ?_
                  rintro e w' ⟨a, c, he, hI, h2, h3⟩
                  refine ⟨a, c, he, hI, ?_, h2.less (fun k hk => .inl (.inl hk)), fun k hk => (h3 k (.inl hk)).trans (hb.block k (hV.lt k hk))⟩
                  have hr := one_rowF V f
                  refine ⟨rfl, .inr ⟨V.heap.size, 0, rfl, fun j hj => ?_⟩⟩
                  obtain ⟨b, off, e1, h4⟩ := hr.at (j := j) (by simpa using hj)
                  cases e1
                  exact h4.map (fun o v hc => h3.cell hc (.inr ⟨Nat.le_refl _, by simp⟩)))
                have CSB : Hid (∀ V a c b, InF V a 1 [f] → InF V (some ⟨b, 0, none⟩) 1 [f] → Calls Try.prog 21 #[.slice a 1 c, .slice (some ⟨b, 0, none⟩) 1 1] V fun e w' => e = .returned (.bool true) ∧ Below V.heap.size V w') := Lib.hid (fun V a c b hI hI2 => by
                  have h1 := refSameF_c [f] [f] a (some ⟨b, 0, none⟩) 1 1 c 1 V hI hI2 (by omega) (by omega)
                  rw [decide_eq_true rfl] at h1
                  exact h1)
                have CS : Hid (∀ V a c, InF V a 1 [f] → Calls Try.prog 21 #[.slice a 1 c, .slice (some ⟨V.heap.size, 0, none⟩) 1 1] (V.alloc (.cells (csF f).toArray tyF)) fun e w' => e = .returned (.bool true) ∧ Below V.heap.size V w') := Lib.hid (fun V a c hI => by
                  have hb := bl_al (Below.refl V.heap.size V) (.cells (csF f).toArray tyF)
                  have h1 := refSameF_c [f] [f] a (some ⟨V.heap.size, 0, none⟩) 1 1 c 1 _ (hI.below hb) (one_rowF V f) (by omega) (by omega)
                  rw [decide_eq_true rfl] at h1
                  refine h1.mono ?_
                  rintro e w' ⟨he, h2⟩
                  exact ⟨he, bl_tr hb h2⟩)
                have CAl : Hid (∀ V, TOn w2 V p 5 5 [] (fun k => k < w2.heap.size) → Calls Try.prog 27 #[.pointer (some ⟨p, 0, none⟩)] V fun e w' => ∃ a c, e = .returned (.slice a 0 c) ∧ TOn w2 w' p 5 5 [] (fun k => k < w2.heap.size) ∧ Kpt (fun k => k < w2.heap.size) V w') := Lib.hid (fun V hV => by
                  refine (hV.all (by simp)).mono ?_
                  rintro e w' ⟨a, c, he, _, h2, h3⟩
                  exact ⟨a, c, he, h2.less (fun k hk => .inl hk), h3⟩)
                go_upto_region 16 with fail
                have v1 : ∀ [Inhabited Nat], IntKind.i64.wrap (now + 60) = now + 60 := by intro _; exact IntWalk.i64_in _ (by have := HN.out; omega)
                have v2 : ∀ [Inhabited Nat], IntKind.i64.wrap (now + 60 + 1) = now + 60 + 1 := by intro _; exact IntWalk.i64_in _ (by have := HN.out; omega)
                have hd0 : Below w5.heap.size w5 w5.drew := (Below.refl _ _).drew
                have hS0 : w5.drew.cell? ⟨x, 0, none⟩ = some (.int .i64 f.p) ∧ w5.drew.cell? ⟨x, 1, none⟩ = some (.int .u32 f.s) ∧ w5.drew.cell? ⟨x, 2, none⟩ = some (.int .i64 f.sp) ∧ w5.drew.cell? ⟨x, 3, none⟩ = some (.int .u32 f.d) ∧ w5.drew.cell? ⟨x, 4, none⟩ = some (.int .i64 f.dp) := flAt_below HX5.out hd0 (block_lt_of_cell HX5.out.1)
                clear x0 x1 x2 x3 x4
                go_region_held3 (fun wx => wx.cell? ⟨x, 0, none⟩ = some (.int .i64 f.p) ∧ wx.cell? ⟨x, 1, none⟩ = some (.int .u32 f.s) ∧ wx.cell? ⟨x, 2, none⟩ = some (.int .i64 f.sp) ∧ wx.cell? ⟨x, 3, none⟩ = some (.int .u32 f.d) ∧ wx.cell? ⟨x, 4, none⟩ = some (.int .i64 f.dp)) (first | (with_reducible exact hS0) | (with_reducible exact hS1) | (with_reducible exact hS1b) | (with_reducible exact hS2) | (with_reducible exact hS3) | (with_reducible exact hS4) | (with_reducible exact hS5) | (with_reducible assumption) | fail)
                  (first | (go_at_call 22; (with_reducible refine (CE1.out _ hd0).mono ?_); rintro e w11 ⟨a1, c1, rfl, hO1, hk1⟩; have hS1 : w11.cell? ⟨x, 0, none⟩ = some (.int .i64 f.p) ∧ w11.cell? ⟨x, 1, none⟩ = some (.int .u32 f.s) ∧ w11.cell? ⟨x, 2, none⟩ = some (.int .i64 f.sp) ∧ w11.cell? ⟨x, 3, none⟩ = some (.int .u32 f.d) ∧ w11.cell? ⟨x, 4, none⟩ = some (.int .i64 f.dp) := FlAt.kept hS0 hk1 HXK.out; have hS1b : (w11.alloc (.cells #[.int .i64 f.p, .int .u32 f.s, .int .i64 f.sp, .int .u32 f.d, .int .i64 f.dp] tyF)).cell? ⟨x, 0, none⟩ = some (.int .i64 f.p) ∧ (w11.alloc (.cells #[.int .i64 f.p, .int .u32 f.s, .int .i64 f.sp, .int .u32 f.d, .int .i64 f.dp] tyF)).cell? ⟨x, 1, none⟩ = some (.int .u32 f.s) ∧ (w11.alloc (.cells #[.int .i64 f.p, .int .u32 f.s, .int .i64 f.sp, .int .u32 f.d, .int .i64 f.dp] tyF)).cell? ⟨x, 2, none⟩ = some (.int .i64 f.sp) ∧ (w11.alloc (.cells #[.int .i64 f.p, .int .u32 f.s, .int .i64 f.sp, .int .u32 f.d, .int .i64 f.dp] tyF)).cell? ⟨x, 3, none⟩ = some (.int .u32 f.d) ∧ (w11.alloc (.cells #[.int .i64 f.p, .int .u32 f.s, .int .i64 f.sp, .int .u32 f.d, .int .i64 f.dp] tyF)).cell? ⟨x, 4, none⟩ = some (.int .i64 f.dp) := flAt_below hS1 (bl_al (Below.refl _ _) _) (block_lt_of_cell hS1.1)) | (go_at_call 22; (with_reducible refine (CE2.out _ hO1).mono ?_); rintro e w12 ⟨a2, c2, rfl, hI2, hO2, hk2⟩; have hS2 : w12.cell? ⟨x, 0, none⟩ = some (.int .i64 f.p) ∧ w12.cell? ⟨x, 1, none⟩ = some (.int .u32 f.s) ∧ w12.cell? ⟨x, 2, none⟩ = some (.int .i64 f.sp) ∧ w12.cell? ⟨x, 3, none⟩ = some (.int .u32 f.d) ∧ w12.cell? ⟨x, 4, none⟩ = some (.int .i64 f.dp) := FlAt.kept hS1 hk2 HXK.out; have hS3 : (w12.alloc (.cells #[.int .i64 f.p, .int .u32 f.s, .int .i64 f.sp, .int .u32 f.d, .int .i64 f.dp] tyF)).cell? ⟨x, 0, none⟩ = some (.int .i64 f.p) ∧ (w12.alloc (.cells #[.int .i64 f.p, .int .u32 f.s, .int .i64 f.sp, .int .u32 f.d, .int .i64 f.dp] tyF)).cell? ⟨x, 1, none⟩ = some (.int .u32 f.s) ∧ (w12.alloc (.cells #[.int .i64 f.p, .int .u32 f.s, .int .i64 f.sp, .int .u32 f.d, .int .i64 f.dp] tyF)).cell? ⟨x, 2, none⟩ = some (.int .i64 f.sp) ∧ (w12.alloc (.cells #[.int .i64 f.p, .int .u32 f.s, .int .i64 f.sp, .int .u32 f.d, .int .i64 f.dp] tyF)).cell? ⟨x, 3, none⟩ = some (.int .u32 f.d) ∧ (w12.alloc (.cells #[.int .i64 f.p, .int .u32 f.s, .int .i64 f.sp, .int .u32 f.d, .int .i64 f.dp] tyF)).cell? ⟨x, 4, none⟩ = some (.int .i64 f.dp) := flAt_below hS2 (bl_al (Below.refl _ _) _) (block_lt_of_cell hS2.1)) | (go_at_call 22; refine (CE2B.out _ hO1).mono ?_; rintro e w12 ⟨a2, c2, rfl, hI2, hR2, hO2, hk2⟩; have hS2 : w12.cell? ⟨x, 0, none⟩ = some (.int .i64 f.p) ∧ w12.cell? ⟨x, 1, none⟩ = some (.int .u32 f.s) ∧ w12.cell? ⟨x, 2, none⟩ = some (.int .i64 f.sp) ∧ w12.cell? ⟨x, 3, none⟩ = some (.int .u32 f.d) ∧ w12.cell? ⟨x, 4, none⟩ = some (.int .i64 f.dp) := FlAt.kept hS1 hk2 HXK.out) | (go_at_call 21; (with_reducible refine (CSB.out _ _ _ _ hI2 hR2).mono ?_); rintro e w13 ⟨rfl, hb3⟩; have hO3 := (hO2.new hb3).1; have hS4 : w13.cell? ⟨x, 0, none⟩ = some (.int .i64 f.p) ∧ w13.cell? ⟨x, 1, none⟩ = some (.int .u32 f.s) ∧ w13.cell? ⟨x, 2, none⟩ = some (.int .i64 f.sp) ∧ w13.cell? ⟨x, 3, none⟩ = some (.int .u32 f.d) ∧ w13.cell? ⟨x, 4, none⟩ = some (.int .i64 f.dp) := flAt_below hS2 hb3 (block_lt_of_cell hS2.1)) | (go_at_call 21; refine (CS.out _ _ _ hI2).mono ?_; rintro e w13 ⟨rfl, hb3⟩; have hO3 := (hO2.new hb3).1; have hS4 : w13.cell? ⟨x, 0, none⟩ = some (.int .i64 f.p) ∧ w13.cell? ⟨x, 1, none⟩ = some (.int .u32 f.s) ∧ w13.cell? ⟨x, 2, none⟩ = some (.int .i64 f.sp) ∧ w13.cell? ⟨x, 3, none⟩ = some (.int .u32 f.d) ∧ w13.cell? ⟨x, 4, none⟩ = some (.int .i64 f.dp) := flAt_below hS2 hb3 (block_lt_of_cell hS2.1)) | (go_at_call 27; (with_reducible refine (CAl.out _ hO3).mono ?_); rintro e w14 ⟨a4, c4, rfl, hO4, hk4⟩; have hS5 : w14.cell? ⟨x, 0, none⟩ = some (.int .i64 f.p) ∧ w14.cell? ⟨x, 1, none⟩ = some (.int .u32 f.s) ∧ w14.cell? ⟨x, 2, none⟩ = some (.int .i64 f.sp) ∧ w14.cell? ⟨x, 3, none⟩ = some (.int .u32 f.d) ∧ w14.cell? ⟨x, 4, none⟩ = some (.int .i64 f.dp) := FlAt.kept hS4 hk4 HXK.out) | fail)
                all_goals
                  have HQ := Lib.hid (HB2.out.trans (hO4.bel.mono HB2.out.size))
                  go_wp2
                  go_ret
                  exact ⟨rfl, HQ.out⟩
  · have hgd : decide (GoodF f) = false := decide_eq_false hg
    rw [hgd] at CG
    clear hg hgd
    go_wp2_with fail
    refine CG.out.mono ?_
    rintro e w2 ⟨rfl, hb⟩
    have HB2 := Lib.hid (HB1.out.trans (hb.mono HB1.out.size))
    clear hb
    go_wp2
    go_ret
    exact ⟨rfl, HB2.out⟩
end Go.Proofs.Ytbecilepgphpbaa
namespace Go.Proofs.Ytbecilepgphpbaa
open Go Go.RowKit Go.ChangeShapes Go.WideShapes Go.Deep
set_option linter.unusedVariables false
set_option linter.unusedSimpArgs false

theorem weights_at {H : Type} {P : Program} : ∀ {ts : List TypeId} {ds : List (DataW H)}, (DataW.weightsEach P ts ds).all (· ≤ reachBytes) = true → ∀ {j : Nat} {t : TypeId} {d : DataW H}, ts[j]? = some t → ds[j]? = some d → (d.weights P t).all (· ≤ reachBytes) = true
  | [], _, _, _, _, _, ht, _ => by simp at ht
  | _ :: _, [], _, _, _, _, _, hd => by simp at hd
  | t0 :: ts, d0 :: ds, h, 0, t, d, ht, hd => by
    simp only [List.getElem?_cons_zero, Option.some.injEq] at ht hd
    subst ht hd
    rw [DataW.weightsEach, List.all_append, Bool.and_eq_true] at h
    exact h.1
  | t0 :: ts, d0 :: ds, h, j + 1, t, d, ht, hd => by
    simp only [List.getElem?_cons_succ] at ht hd
    rw [DataW.weightsEach, List.all_append, Bool.and_eq_true] at h
    exact weights_at h.2 ht hd
theorem weightsAll_at {H : Type} {P : Program} {e : TypeId} : ∀ {ds : List (DataW H)}, (DataW.weightsAll P e ds).all (· ≤ reachBytes) = true → ∀ d ∈ ds, (d.weights P e).all (· ≤ reachBytes) = true
  | [], _, d, hd => by cases hd
  | d0 :: ds, h, d, hd => by
    rw [DataW.weightsAll, List.all_append, Bool.and_eq_true] at h
    rcases List.mem_cons.1 hd with rfl | hd
    · exact h.1
    · exact weightsAll_at h.2 d hd
theorem plain_of {w : World} {a : Addr} {v : Value} (h : w.cell? (a.add 0) = some v) : a = ⟨a.block, a.off, none⟩ := by
  obtain ⟨b, off, spot⟩ := a
  have hspot : spot = none := by simpa [Addr.add] using World.cell?_spot h
  subst hspot
  rfl
theorem u32_of {n : Int} (h : (Lit.int .u32 n).wf = true) : 0 ≤ n ∧ n < 4294967296 := by
  have e : 0 ≤ n ∧ n ≤ 4294967295 := by simpa [Lit.wf, IntKind.min, IntKind.max, IntKind.signed, IntKind.bits] using h
  omega
theorem getD_range {α : Type} (f : Nat → α) (d : α) {n j : Nat} (hj : j < n) : ((List.range n).map f).getD j d = f j := by
  rw [List.getD_eq_getElem?_getD, List.getElem?_map, List.getElem?_range hj]
  rfl
instance : Inhabited Fl := ⟨fl0⟩
theorem inN_of {n : Int} (h : (Lit.int .i64 n).wf = true) : InN n := by
  have e : -9223372036854775808 ≤ n ∧ n ≤ 9223372036854775807 := by simpa [Lit.wf, IntKind.min, IntKind.max, IntKind.signed, IntKind.bits] using h
  exact e
theorem cells3 : Try.prog.cellsOf 3 = 1 := by kernel_rfl
theorem cells23 : Try.prog.cellsOf 36 = 1 := by kernel_rfl
theorem cellsFl : Try.prog.cellsOf 38 = 5 := by kernel_rfl
theorem bytesFl : Try.prog.bytesOf 38 = 40 := by kernel_rfl
theorem cellsFs : Try.prog.cellsOf 39 = 1 := by kernel_rfl
theorem cellsOp : Try.prog.cellsOf 41 = 11 := by kernel_rfl
theorem bytesOp : Try.prog.bytesOf 41 = 104 := by kernel_rfl
theorem cellsQu : Try.prog.cellsOf 62 = 3 := by kernel_rfl
theorem cellsSc : Try.prog.cellsOf 22 = 1 := by kernel_rfl
set_option maxRecDepth 100000 in
theorem open_flowc {H : Type} {enc : TypeId × Value → H} {W : World} {fuel : Nat} {c3 c4 c5 c6 c7 : Value} {x : DataW H × List MemPlace} (hf : DataW.trod enc Try.prog W 0 (fun _ => true) true fuel 38 [c3, c4, c5, c6, c7] = some x) :
    ∃ f : Fl, c3 = .int .i64 f.p ∧ c4 = .int .u32 f.s ∧ c5 = .int .i64 f.sp ∧ c6 = .int .u32 f.d ∧ c7 = .int .i64 f.dp ∧ FitF f := by
  obtain ⟨xs, n, _, hx, _, hlen, hg⟩ := DataW.trod_struct Try.underlying38 hf
  match xs, hlen with
  | [u0, u1, u2, u3, u4], _ =>
    have k0 : DataW.trod enc Try.prog W 0 (fun _ => true) true n 3 [c3] = some u0 := by simpa [Value.cells, cells3, cells23] using hg 0 _ rfl
    have k1 : DataW.trod enc Try.prog W 0 (fun _ => true) true n 36 [c4] = some u1 := by simpa [Value.cells, cells3, cells23] using hg 1 _ rfl
    have k2 : DataW.trod enc Try.prog W 0 (fun _ => true) true n 3 [c5] = some u2 := by simpa [Value.cells, cells3, cells23] using hg 2 _ rfl
    have k3 : DataW.trod enc Try.prog W 0 (fun _ => true) true n 36 [c6] = some u3 := by simpa [Value.cells, cells3, cells23] using hg 3 _ rfl
    have k4 : DataW.trod enc Try.prog W 0 (fun _ => true) true n 3 [c7] = some u4 := by simpa [Value.cells, cells3, cells23] using hg 4 _ rfl
    obtain ⟨z3, e3, _, w3⟩ := DataW.trod_int Try.underlying3 k0
    obtain ⟨z4, e4, _, w4⟩ := DataW.trod_int Try.underlying36 k1
    obtain ⟨z5, e5, _, w5⟩ := DataW.trod_int Try.underlying3 k2
    obtain ⟨z6, e6, _, w6⟩ := DataW.trod_int Try.underlying36 k3
    obtain ⟨z7, e7, _, w7⟩ := DataW.trod_int Try.underlying3 k4
    simp only [List.cons.injEq, and_true] at e3 e4 e5 e6 e7
    exact ⟨⟨z3, z4, z5, z6, z7⟩, e3, e4, e5, e6, e7, ⟨inN_of w3, u32_of w4, inN_of w5, u32_of w6, inN_of w7⟩⟩
set_option maxRecDepth 100000 in
theorem open_flow {H : Type} {enc : TypeId × Value → H} {W : World} {r : Reach} {b0 : Nat} {v : Value} {d : DataW H} {ps : List MemPlace}
    (hv : Value.okWide Try.prog W r b0 38 v) (h : DataW.Trod enc Try.prog W 0 (fun _ => true) true 38 v d ps) :
    ∃ f : Fl, v = f.val ∧ FitF f := by
  obtain ⟨⟨l⟩, rfl, hsz⟩ := okWide_struct Try.underlying38 hv
  rw [cellsFl] at hsz
  obtain ⟨fuel, hf⟩ := h
  match l, hsz with
  | [c3, c4, c5, c6, c7], _ =>
    obtain ⟨f, e3, e4, e5, e6, e7, hT⟩ := open_flowc (x := (d, ps)) (by simpa [Value.cells] using hf)
    subst e3 e4 e5 e6 e7
    exact ⟨f, rfl, hT⟩
end Go.Proofs.Ytbecilepgphpbaa
