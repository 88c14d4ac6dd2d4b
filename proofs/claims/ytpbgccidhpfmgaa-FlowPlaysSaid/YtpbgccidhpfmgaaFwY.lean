/- The document's table: Put. Conditions: at most 2^20 entries; the quota of untrusted ones is from 0 on. -/
import Derived.Test.YtpbgccidhpfmgaaFwX
import Derived.Deep.RegionHeld3
namespace Go.Proofs.Ytpbgccidhpfmgaa
open Go Go.RowKit
set_option linter.unusedVariables false
set_option linter.unusedSimpArgs false

/-- What Put's walk sees. -/
structure PtS (W : World) (B m : Nat) (qt qu : Int) (l : List En) (ao : Option Addr) (n c p : Nat) (f : Fl) (q r : Nat) : Prop where
  tab : RtM W B m qt qu l ao n c
  fl : FlAt W p f
  bq : BxE W q en0
  br : BxE W r en0
theorem PtS.bel {W W2 : World} {B m n c p q r : Nat} {qt qu : Int} {l : List En} {ao : Option Addr} {f : Fl} (h : PtS W B m qt qu l ao n c p f q r) (hb : Below W.heap.size W W2) : PtS W2 B m qt qu l ao n c p f q r :=
  ⟨h.tab.keep (tch_new hb) (fun h => h) (fun _ _ h => h), flAt_below h.fl hb (block_lt_of_cell h.fl.1), h.bq.keep (tch_new hb) (fun h => h), h.br.keep (tch_new hb) (fun h => h)⟩
theorem same_fin {w w1 : World} {B m q : Nat} {F : Nat → Prop} {qt qu : Int} {l : List En} (hR : RtS w B F m qt qu l) (hb : Below w.heap.size w w1) (hq : w.heap.size ≤ q) (e : En) : ∃ F2, RtTo w B F m qt qu l F2 (stE w1 q e) :=
  ⟨F, RtTo.same hR (tch_new (bl_st hb hq e))⟩
theorem RtTo.box {w Z : World} {B m q : Nat} {F F2 : Nat → Prop} {qt qu : Int} {k : List En} (h : RtTo w B F m qt qu k F2 Z) (hq : w.heap.size ≤ q) (hn : ¬ F2 q) (e : En) : RtTo w B F m qt qu k F2 (stE Z q e) :=
  ⟨h.1.keep (stE_tch Z q e) (fun k hk e2 => hn (e2 ▸ hk)), h.2.1, h.2.2.trans' (stE_tch Z q e) (fun k hk e2 => by omega)⟩
theorem put_fin {w W : World} {B m n c g i q : Nat} {F : Nat → Prop} {qt qu : Int} {l : List En} (hM : RtM W B m qt qu l (some ⟨g, 0, none⟩) n c) (hF : ∀ k, F k ↔ k = m ∨ (Value.slice (some ⟨g, 0, none⟩) n c).ownBlock = some k) (hR : RtS w B F m qt qu l) (hb : Below w.heap.size w W) (hs : SrtE l) (hi : i < l.length) (y : En) (hy : y.f = (l.getD i en0).f) (hq : w.heap.size ≤ q) (e : En) :
    ∃ F2, RtTo w B F m qt qu (setE y l) F2 (stE (stO W g (i * 10) y).drew q e) := by
  have h1 := RtS.set hM hF hi y
  rw [set_is hs hi hy] at h1
  have h2 := h1.trans (RtTo.same h1.1 (tch_new ((Below.refl (stO W g (i * 10) y).heap.size (stO W g (i * 10) y)).drew)))
  have h3 := (RtTo.same hR (tch_new hb)).trans h2
  exact ⟨F, h3.box hq (fun h => by have := (hR.blocks q h).2; omega) e⟩
theorem ins_fin {w W5 w6 : World} {B m q n c n6 c6 : Nat} {F F4 : Nat → Prop} {qt qu : Int} {L K : List En} {ao a6 : Option Addr} (h : RtTo w B F m qt qu L F4 W5) (hM : RtM W5 B m qt qu L ao n c) (hF4 : ∀ k, F4 k ↔ k = m ∨ (Value.slice ao n c).ownBlock = some k) (hB : B ≤ W5.heap.size) (hb : Below W5.heap.size W5 w6) (ho : w6.ownsRow W5.heap.size tyE 10 (.slice a6 n6 c6) n6 (cellsE K)) (hq : w.heap.size ≤ q) (hqm : q ≠ m) (hqW : q < W5.heap.size) (O : En) :
    ∃ F2, RtTo w B F m qt qu K F2 (stE (w6.setCell ⟨m, 0, none⟩ (.slice a6 n6 c6)) q O) := by
  obtain ⟨hM6, hT6⟩ := hM.put hB hb ho
  have h2 : RtTo W5 B F4 m qt qu K (fun k => k = m ∨ (Value.slice a6 n6 c6).ownBlock = some k) (w6.setCell ⟨m, 0, none⟩ (.slice a6 n6 c6)) := by
    refine ⟨⟨_, _, _, hM6, fun k => Iff.rfl⟩, fun k hk => ?_, hT6.mono (fun k hk => (hF4 k).2 (.inl hk))⟩
    rcases hk with hk | hk
    · exact .inl ((hF4 k).2 (.inl hk))
    · exact .inr (own_blkE ho hk)
  refine ⟨_, (h.trans h2).box hq (fun e => ?_) O⟩
  rcases e with e | e
  · exact hqm e
  · have := own_blkE ho e
    omega
theorem drew_box {W : World} {q : Nat} {e : En} (h : BxE W q e) : BxE W.drew q e := h
set_option maxRecDepth 100000 in
set_option maxHeartbeats 8000000 in
theorem refPut_c (B m : Nat) (F : Nat → Prop) (qt qu : Int) (l : List En) (f : Fl) (dip ep now : Int) (w : World) (hR : RtS w B F m qt qu l) (hB : B ≤ w.heap.size) (hs : SrtE l) (hn : l.length ≤ 1048576) (hqu : 0 ≤ qu ∧ qu ≤ 4096) (hff : FitF f) (hfl : ∀ e ∈ l, FitE e) :
    Calls Try.prog 15 #[.pointer (some ⟨m, 0, none⟩), f.val, .int .u32 dip, .int .i64 ep, .int .i64 now] w (RPut w B m F qt qu (putE qu f dip ep now l)) := by
  obtain ⟨j0, hj0, hy0, hy1, hy2⟩ := info_parts infoE
  obtain ⟨ao, n, c, hM, hF⟩ := hR.here
  have hlen := ownE_len hM.row
  obtain ⟨W, hW⟩ : ∃ W, W = ((w.alloc f.obj).alloc (.cells zeroE tyE)).alloc (.cells zeroE tyE) := ⟨_, rfl⟩
  have hb1 : Below w.heap.size w W := by rw [hW]; exact bl_al (bl_al (bl_al (Below.refl _ _) _) _) _
  have hs1 : (w.alloc f.obj).heap.size = w.heap.size + 1 := by simp
  have hs2 : ((w.alloc f.obj).alloc (.cells zeroE tyE)).heap.size = w.heap.size + 1 + 1 := by simp
  have hP : PtS W B m qt qu l ao n c w.heap.size f (w.heap.size + 1) (w.heap.size + 1 + 1) := by
    refine ⟨hM.keep (tch_new hb1) (fun h => h) (fun _ _ h => h), ?_, ?_, ?_⟩
    · rw [hW]
      exact flAt_below (flAt_below (flAt_new w f) (bl_al (Below.refl _ _) _) (by simp)) (bl_al (Below.refl _ _) _) (by rw [hs2]; omega)
    · rw [hW, ← hs1]
      exact (zero_new _).keep (tch_new (bl_al (Below.refl _ _) _)) (fun h => h)
    · rw [hW, ← hs2]
      exact zero_new _
  obtain ⟨p, hp⟩ : ∃ p, p = w.heap.size := ⟨_, rfl⟩
  rw [← hp] at hP
  have HW := Lib.hid hW
  have HP := Lib.hid hp
  have HB1 := Lib.hid hb1
  have HR := Lib.hid hR
  have HM := Lib.hid (And.intro hM hF)
  have HS := Lib.hid (And.intro hs (And.intro hff hfl))
  have HPT := Lib.hid hP
  have HBB := Lib.hid hB
  have CG := Lib.hid (refGood_c f W)
  have HPQ : Hid (w.heap.size ≤ p + 1) := Lib.hid (by omega)
  obtain ⟨d0, d1, d2, d3, d4⟩ := hP.fl
  clear hR hM hF hW hb1 hs1 hs2 hP hp hs hff hfl hB
  go_enter Try.func15, Try.ntmps15
  go_upto_region 2 with fail
  rw [← HW.out, ← HP.out]
  go_wp2_with fail
  refine CG.out.mono ?_
  rintro e w1 ⟨rfl, hb⟩
  have hP1 := HPT.out.bel hb
  have HB2 := Lib.hid (HB1.out.trans (hb.mono HB1.out.size))
  have HP1 := Lib.hid hP1
  clear CG hb d0 d1 d2 d3 d4 HPT
  by_cases hg : GoodF f
  · have hgd : decide (GoodF f) = true := decide_eq_true hg
    rw [hgd]
    have CT := Lib.hid (refTime_c now w1)
    by_cases ho : OkN now
    · have hod : decide (OkN now) = true := decide_eq_true ho
      rw [hod] at CT
      have ho1 := ho.1
      have ho2 := ho.2
      have HGO := Lib.hid (And.intro hg ho)
      have CF := Lib.hid (refFind_c B m n c qt qu f l ao w1 hP1.tab (by omega))
      obtain ⟨d0, d1, d2, d3, d4⟩ := hP1.fl
      clear hg hgd ho hod hP1
      go_wp2_with fail
      refine CT.out.mono ?_
      rintro e w2 ⟨rfl, rfl⟩
      go_wp2_with fail
      refine CF.out.mono ?_
      rintro e w3 ⟨⟨k, rfl, hK⟩, hb⟩
      have hP3 := HP1.out.bel hb
      have HB3 := Lib.hid (HB2.out.trans (hb.mono HB2.out.size))
      have HP3 := Lib.hid hP3
      clear CT CF hb d0 d1 d2 d3 d4 HP1
      rcases hK with ⟨rfl, h1⟩ | ⟨i, rfl, h2, h3, h1⟩
      · have H1 := Lib.hid h1
        have r2 := hP3.tab.c2
        by_cases hz : qu = 0
        · have hzb : (qu == 0) = true := by simp [hz]
          have HE := Lib.hid (put_no (qu := qu) (dip := dip) (ep := ep) HGO.out.1 HGO.out.2 h1 hz)
          obtain ⟨b0, b1, b2, b3, b4, b5, b6, b7, b8, b9⟩ := hP3.bq.cs
          have bf := hP3.bq.free
          obtain ⟨e0, e1, e2, e3, e4, e5, e6, e7, e8, e9⟩ := hP3.br.cs
          have HQ := Lib.hid (same_fin HR.out HB3.out HPQ.out en0)
          clear h1 hP3 hz
          go_wp2
          refine bodyPost_ret (v := .tuple #[en0.val, .bool false, .int .i64 5]) (by simp [results, Try.results15, go_sem, b0, b1, b2, b3, b4, b5, b6, b7, b8, b9, en0, fl0]) rfl ?_
          rw [HE.out]
          exact ⟨rfl, HQ.out⟩
        · have hzb : (qu == 0) = false := by simpa using hz
          have CL := Lib.hid (refLen_c B m n c qt qu l ao w3 hP3.tab (by omega))
          have HZ := Lib.hid hz
          clear hz h1 hP3
          go_wp2_with fail
          refine CL.out.mono ?_
          rintro e w4 ⟨rfl, hb⟩
          have hP4 := HP3.out.bel hb
          have HB4 := Lib.hid (HB3.out.trans (hb.mono HB3.out.size))
          have HP4 := Lib.hid hP4
          obtain ⟨V, hV⟩ : ∃ V, V = w4.alloc (En.obj en0) := ⟨_, rfl⟩
          have hbV : Below w4.heap.size w4 V := by rw [hV]; exact bl_al (Below.refl _ _) _
          have hsV : BxE V w4.heap.size en0 := by rw [hV]; exact BxE.new w4 en0
          obtain ⟨s, hs⟩ : ∃ s, s = w4.heap.size := ⟨_, rfl⟩
          rw [← hs] at hsV
          obtain ⟨e0, e1, e2, e3, e4, e5, e6, e7, e8, e9⟩ := hP4.br.cs
          have r2 : ∀ o, (w4.alloc o).cell? ⟨m, 2, none⟩ = some (.int .i64 qu) := fun o => ((bl_al (Below.refl w4.heap.size w4) o).cell (p := ⟨m, 2, none⟩) hP4.tab.lt).trans hP4.tab.c2
          have HV := Lib.hid (And.intro hV hs)
          have HPV := Lib.hid (HP4.out.bel hbV)
          have HSV := Lib.hid hsV
          have HBV := Lib.hid (HB4.out.trans (hbV.mono HB4.out.size))
          have HSW : Hid (w.heap.size ≤ s ∧ p + 1 + 1 < s ∧ s < V.heap.size ∧ m < w.heap.size) := Lib.hid ⟨by rw [hs]; exact HB4.out.size, by rw [hs]; exact hP4.br.lt, hsV.lt, HM.out.1.lt⟩
          clear hb hP4 hV hbV hsV hs CL HP3 HB3 HP4
          by_cases hu : (unE l : Int) < qu
          · have HE := Lib.hid (put_room (qu := qu) (dip := dip) (ep := ep) HGO.out.1 HGO.out.2 H1.out HZ.out hu)
            have huf : ¬ qu ≤ (unE l : Int) := by omega
            go_upto_region 29 with fail
            rw [← HV.out.1, ← HV.out.2]
            clear e0 e1 e2 e3 e4 e5 e6 e7 e8 e9 r2 HV
            obtain ⟨W5, hW5⟩ : ∃ W5, W5 = V.alloc (En.obj ⟨f, dip, ep, false, false, now⟩) := ⟨_, rfl⟩
            have hb5 : Below V.heap.size V W5 := by rw [hW5]; exact bl_al (Below.refl _ _) _
            have hu5 : BxE W5 V.heap.size ⟨f, dip, ep, false, false, now⟩ := by rw [hW5]; exact BxE.new V _
            obtain ⟨u, hu5e⟩ : ∃ u, u = V.heap.size := ⟨_, rfl⟩
            rw [← hu5e] at hu5
            obtain ⟨d0, d1, d2, d3, d4⟩ := HPV.out.fl
            have HW5 := Lib.hid (And.intro hW5 hu5e)
            have HP5 := Lib.hid (HPV.out.bel hb5)
            have HBU := Lib.hid hu5
            have HBS := Lib.hid (HSV.out.keep (tch_new hb5) (fun h => h))
            have HB5 := Lib.hid (HBV.out.trans (hb5.mono HBV.out.size))
            have HFIN := Lib.hid (fun (a6 : Option Addr) (c6 N : Nat) (w6 : World) (hb : Below W5.heap.size W5 w6) (ho : w6.ownsRow W5.heap.size tyE 10 (.slice a6 N c6) N (cellsE (insE (newE f dip ep now) l))) => ins_fin (q := p + 1) (RtTo.same HR.out (tch_new HB5.out)) HP5.out.tab HM.out.2 (Nat.le_trans HBB.out HB5.out.size) hb ho HPQ.out (by have := HSW.out; have := HPQ.out; omega) (by have := HSW.out; have := hb5.size; omega) en0)
            have HSW5 : Hid (¬ s = m ∧ ¬ p + 1 = m) := Lib.hid (by have := HSW.out; have := HPQ.out; omega)
            clear hW5 hb5 hu5 hu5e
            go_upto_region 32 with fail
            rw [← HW5.out.1, ← HW5.out.2]
            clear d0 d1 d2 d3 d4 HW5
            have X0 : Hid (InsR ⟨f, dip, ep, false, false, now⟩ l 0 false []) := Lib.hid (InsR.start _ _)
            have O0 : Hid (W5.ownsRow W5.heap.size tyE 10 (.slice none 0 0) 0 (cellsE [])) := Lib.hid ⟨rfl, .inl ⟨rfl, rfl⟩⟩
            have HBL0 := Lib.hid (Below.refl W5.heap.size W5)
            have HFT : Hid (∀ e ∈ l, FitE e) := Lib.hid (HS.out.2.2)
            have HLN : Hid (l.length = n) := Lib.hid (ownE_len HP5.out.tab.row)
            have hLN := HLN.out
            go_wp2
            go_loopw [22, 23, 25] (fun nv dv kv wr => ∃ (k N : Nat) (b : Bool) (y : List En), k ≤ n ∧ kv = .int .i64 k ∧ dv = .bool b ∧ N ≤ 2 * k ∧ Hid (InsR ⟨f, dip, ep, false, false, now⟩ l k b y) ∧ Hid (wr.ownsRow W5.heap.size tyE 10 nv N (cellsE y)) ∧ Hid (Below W5.heap.size W5 wr)) (fun _ _ kv _ => n - (intOf kv).toNat)
            case atStart => exact ⟨0, 0, false, [], by omega, rfl, rfl, by omega, X0, O0, HBL0⟩
            case round =>
              obtain ⟨k, N, b, y, hk, rfl, rfl, hN, HI, HO, HBL⟩ := hrel
              obtain ⟨w6, rfl⟩ : ∃ v, v = wr := ⟨_, rfl⟩
              clear X0 O0 HBL0
              have hP6 := HP5.out.bel HBL.out
              have q0 := hP6.tab.c0
              by_cases hlt : k < n
              · have kk : (k : Int) < (n : Int) := by omega
                have k0 : (0 : Int) ≤ (k : Int) := by omega
                obtain ⟨g, ea, _, hE⟩ := ownE_cell hP6.tab.row (j := k) hlt
                subst ea
                obtain ⟨x, hx⟩ : ∃ x, x = l.getD k en0 := ⟨_, rfl⟩
                rw [← hx] at hE
                have HXM : Hid (FitE x) := Lib.hid (HFT.out x (by rw [hx, List.getD_eq_getElem?_getD, List.getElem?_eq_getElem (by omega)]; exact List.getElem_mem _))
                have HX := Lib.hid hx
                have HKL : Hid (k < l.length) := Lib.hid (by omega)
                obtain ⟨c0, c1, c2, c3, c4, c5, c6, c7, c8, c9⟩ := hE
                clear hx
                cases b with
                | true =>
                  have HI2 := Lib.hid (HI.out.later HKL.out)
                  rw [← HX.out] at HI2
                  clear hP6 HI
                  go_wp2
                  go_quiet (fail)
                  obtain ⟨w7, hw7⟩ : ∃ v, v = w6.drewN nq := ⟨_, rfl⟩
                  have HB7 : Hid (Below W5.heap.size W5 w7) := Lib.hid (by rw [hw7]; exact below_drewNT HBL.out nq)
                  have HO7 : Hid (w7.ownsRow W5.heap.size tyE 10 u22 N (cellsE y)) := Lib.hid (by rw [hw7]; exact HO.out)
                  rw [← hw7]
                  clear c0 c1 c2 c3 c4 c5 c6 c7 c8 c9 q0 HO HBL hw7
                  have hPx := HP5.out.bel HB7.out
                  have q0 := hPx.tab.c0
                  obtain ⟨g', eg, _, hEx⟩ := ownE_cell hPx.tab.row (j := k) hlt
                  cases eg
                  rw [← HX.out] at hEx
                  obtain ⟨c0, c1, c2, c3, c4, c5, c6, c7, c8, c9⟩ := hEx
                  go_wp2_with (at_builtin; refine wpList_append_own _ rfl _ _ 32 rfl W5.heap.size tyE j0 (.agg #[.int .i64 0, .int .u32 0, .int .i64 0, .int .u32 0, .int .i64 0, .int .u32 0, .int .i64 0, .bool false, .bool false, .int .i64 0]) 10 72 Try.underlying32 hj0 hy0 hy1 hy2 rfl (by decide) _ _ _ rfl (HO7.out.alloc _) _ 1 1 (csE x) rfl rfl (en_new _ x) (csE_one1 _) ?c1 ?c2 ?c3 ?_)
                  case c1 => unfold maxLen; omega
                  case c2 => omega
                  case c3 => have := HB7.out.size; simp; omega
                  intro v8 w8 ho8 hg8 _
                  rw [← cellsE_one, ← cellsE_app] at ho8
                  have HO8 := Lib.hid ho8
                  have HB8 := Lib.hid ((HB7.out.alloc HB7.out.size _).grown hg8 (by have := HB7.out.size; simp; omega) (fun k hk => own_blkE HO7.out hk))
                  clear ho8 hg8 c0 c1 c2 c3 c4 c5 c6 c7 c8 c9 q0 hPx
                  go_wp2
                  go_roundw
                  case rel => exact ⟨k + 1, N + 1, true, _, by omega, by go_num, rfl, by omega, HI2, HO8, HB8⟩
                  case measure => simp [intOf]; omega
                | false =>
                  obtain ⟨d0, d1, d2, d3, d4⟩ := hP6.fl
                  have HBx := Lib.hid (show ∀ wx, Below w6.heap.size w6 wx → wx.cell? ⟨p, 0, none⟩ = some (.int .i64 f.p) ∧ wx.cell? ⟨p, 1, none⟩ = some (.int .u32 f.s) ∧ wx.cell? ⟨p, 2, none⟩ = some (.int .i64 f.sp) ∧ wx.cell? ⟨p, 3, none⟩ = some (.int .u32 f.d) ∧ wx.cell? ⟨p, 4, none⟩ = some (.int .i64 f.dp) ∧ wx.cell? ⟨m, 0, none⟩ = some (.slice (some ⟨g, 0, none⟩) n c) ∧ wx.cell? ⟨g, k * 10, none⟩ = some (.int .i64 x.f.p) ∧ wx.cell? ⟨g, k * 10 + 1, none⟩ = some (.int .u32 x.f.s) ∧ wx.cell? ⟨g, k * 10 + 2, none⟩ = some (.int .i64 x.f.sp) ∧ wx.cell? ⟨g, k * 10 + 3, none⟩ = some (.int .u32 x.f.d) ∧ wx.cell? ⟨g, k * 10 + 4, none⟩ = some (.int .i64 x.f.dp) ∧ Below w6.heap.size w6 wx from fun wx h => ⟨(h.cell (p := ⟨p, 0, none⟩) (block_lt_of_cell d0)).trans d0, (h.cell (p := ⟨p, 1, none⟩) (block_lt_of_cell d1)).trans d1, (h.cell (p := ⟨p, 2, none⟩) (block_lt_of_cell d2)).trans d2, (h.cell (p := ⟨p, 3, none⟩) (block_lt_of_cell d3)).trans d3, (h.cell (p := ⟨p, 4, none⟩) (block_lt_of_cell d4)).trans d4, (h.cell (p := ⟨m, 0, none⟩) (block_lt_of_cell q0)).trans q0, (h.cell (p := ⟨g, k * 10, none⟩) (block_lt_of_cell c0)).trans c0, (h.cell (p := ⟨g, k * 10 + 1, none⟩) (block_lt_of_cell c1)).trans c1, (h.cell (p := ⟨g, k * 10 + 2, none⟩) (block_lt_of_cell c2)).trans c2, (h.cell (p := ⟨g, k * 10 + 3, none⟩) (block_lt_of_cell c3)).trans c3, (h.cell (p := ⟨g, k * 10 + 4, none⟩) (block_lt_of_cell c4)).trans c4, h⟩)
                  have hd0 : Below w6.heap.size w6 w6.drew := (Below.refl _ _).drew
                  have hS0 := HBx.out _ hd0
                  have CS := Lib.hid (fun (Y : World) => refLess_c f x.f Y HS.out.2.1.s HS.out.2.1.d HXM.out.f.s HXM.out.f.d)
                  clear hP6
                  by_cases hl : ltF f x.f
                  · have hld : decide (ltF f x.f) = true := decide_eq_true hl
                    rw [hld] at CS
                    have HI2 := Lib.hid (HI.out.now HKL.out (by rw [← HX.out]; exact hl))
                    rw [← HX.out] at HI2
                    clear hl hld HI
                    go_upto_region 35 with fail
                    clear c0 c1 c2 c3 c4 c5 c6 c7 c8 c9 q0 d0 d1 d2 d3 d4
                    go_region_held3 (fun wx => wx.cell? ⟨p, 0, none⟩ = some (.int .i64 f.p) ∧ wx.cell? ⟨p, 1, none⟩ = some (.int .u32 f.s) ∧ wx.cell? ⟨p, 2, none⟩ = some (.int .i64 f.sp) ∧ wx.cell? ⟨p, 3, none⟩ = some (.int .u32 f.d) ∧ wx.cell? ⟨p, 4, none⟩ = some (.int .i64 f.dp) ∧ wx.cell? ⟨m, 0, none⟩ = some (.slice (some ⟨g, 0, none⟩) n c) ∧ wx.cell? ⟨g, k * 10, none⟩ = some (.int .i64 x.f.p) ∧ wx.cell? ⟨g, k * 10 + 1, none⟩ = some (.int .u32 x.f.s) ∧ wx.cell? ⟨g, k * 10 + 2, none⟩ = some (.int .i64 x.f.sp) ∧ wx.cell? ⟨g, k * 10 + 3, none⟩ = some (.int .u32 x.f.d) ∧ wx.cell? ⟨g, k * 10 + 4, none⟩ = some (.int .i64 x.f.dp) ∧ Below w6.heap.size w6 wx) (first | (with_reducible exact hS0) | (with_reducible exact HBx.out _ hb7) | (with_reducible assumption) | fail)
                      (first | (go_at_call 61; (with_reducible refine (CS.out _).mono ?_); rintro e w7 ⟨rfl, hb⟩; have hb7 := bl_tr hd0 hb) | fail)
                    all_goals
                      rename_i hHeld
                      have HB7 := Lib.hid (bl_tr HBL.out hHeld.2.2.2.2.2.2.2.2.2.2.2)
                      have HO7 := Lib.hid (owns_bel HO.out hHeld.2.2.2.2.2.2.2.2.2.2.2)
                      clear hHeld hb7 hb hS0 hd0 HBx CS HO HBL
                      obtain ⟨y0, y1, y2, y3, y4, y5, y6, y7, y8, y9⟩ := (HBU.out.keep (tch_new HB7.out) (fun h => h)).cs
                      go_wp2_with (at_builtin; refine wpList_append_own _ rfl _ _ 32 rfl W5.heap.size tyE j0 (.agg #[.int .i64 0, .int .u32 0, .int .i64 0, .int .u32 0, .int .i64 0, .int .u32 0, .int .i64 0, .bool false, .bool false, .int .i64 0]) 10 72 Try.underlying32 hj0 hy0 hy1 hy2 rfl (by decide) _ _ _ rfl (HO7.out.alloc _) _ 1 1 (csE ⟨f, dip, ep, false, false, now⟩) rfl rfl (en_new _ ⟨f, dip, ep, false, false, now⟩) (csE_one1 _) ?c1 ?c2 ?c3 ?_)
                      case c1 => unfold maxLen; omega
                      case c2 => omega
                      case c3 => have := HB7.out.size; simp; omega
                      intro v8 w8 ho8 hg8 _
                      rw [← cellsE_one, ← cellsE_app] at ho8
                      have HO8 := Lib.hid ho8
                      have HB8 := Lib.hid ((HB7.out.alloc HB7.out.size _).grown hg8 (by have := HB7.out.size; simp; omega) (fun k hk => own_blkE HO7.out hk))
                      clear ho8 hg8 y0 y1 y2 y3 y4 y5 y6 y7 y8 y9 HO7
                      have hPx := HP5.out.bel HB8.out
                      have q0 := hPx.tab.c0
                      obtain ⟨g', eg, _, hEx⟩ := ownE_cell hPx.tab.row (j := k) hlt
                      cases eg
                      rw [← HX.out] at hEx
                      obtain ⟨c0, c1, c2, c3, c4, c5, c6, c7, c8, c9⟩ := hEx
                      go_wp2_with (at_builtin; refine wpList_append_own _ rfl _ _ 32 rfl W5.heap.size tyE j0 (.agg #[.int .i64 0, .int .u32 0, .int .i64 0, .int .u32 0, .int .i64 0, .int .u32 0, .int .i64 0, .bool false, .bool false, .int .i64 0]) 10 72 Try.underlying32 hj0 hy0 hy1 hy2 rfl (by decide) _ _ _ rfl (HO8.out.alloc _) _ 1 1 (csE x) rfl rfl (en_new _ x) (csE_one1 _) ?c1 ?c2 ?c3 ?_)
                      case c1 => unfold maxLen; omega
                      case c2 => omega
                      case c3 => have := HB8.out.size; simp; omega
                      intro v9 w9 ho9 hg9 _
                      rw [← cellsE_one, ← cellsE_app] at ho9
                      have HO9 := Lib.hid ho9
                      have HB9 := Lib.hid ((HB8.out.alloc HB8.out.size _).grown hg9 (by have := HB8.out.size; simp; omega) (fun k hk => own_blkE HO8.out hk))
                      clear ho9 hg9 c0 c1 c2 c3 c4 c5 c6 c7 c8 c9 q0 hPx
                      go_wp2
                      go_roundw
                      case rel => exact ⟨k + 1, N + 1 + 1, true, _, by omega, by go_num, rfl, by omega, HI2, HO9, HB9⟩
                      case measure => simp [intOf]; omega
                  · have hld : decide (ltF f x.f) = false := decide_eq_false hl
                    rw [hld] at CS
                    have HI2 := Lib.hid (HI.out.not HKL.out (by rw [← HX.out]; exact hl))
                    rw [← HX.out] at HI2
                    clear hl hld HI
                    go_upto_region 35 with fail
                    clear c0 c1 c2 c3 c4 c5 c6 c7 c8 c9 q0 d0 d1 d2 d3 d4
                    go_region_held3 (fun wx => wx.cell? ⟨p, 0, none⟩ = some (.int .i64 f.p) ∧ wx.cell? ⟨p, 1, none⟩ = some (.int .u32 f.s) ∧ wx.cell? ⟨p, 2, none⟩ = some (.int .i64 f.sp) ∧ wx.cell? ⟨p, 3, none⟩ = some (.int .u32 f.d) ∧ wx.cell? ⟨p, 4, none⟩ = some (.int .i64 f.dp) ∧ wx.cell? ⟨m, 0, none⟩ = some (.slice (some ⟨g, 0, none⟩) n c) ∧ wx.cell? ⟨g, k * 10, none⟩ = some (.int .i64 x.f.p) ∧ wx.cell? ⟨g, k * 10 + 1, none⟩ = some (.int .u32 x.f.s) ∧ wx.cell? ⟨g, k * 10 + 2, none⟩ = some (.int .i64 x.f.sp) ∧ wx.cell? ⟨g, k * 10 + 3, none⟩ = some (.int .u32 x.f.d) ∧ wx.cell? ⟨g, k * 10 + 4, none⟩ = some (.int .i64 x.f.dp) ∧ Below w6.heap.size w6 wx) (first | (with_reducible exact hS0) | (with_reducible exact HBx.out _ hb7) | (with_reducible assumption) | fail)
                      (first | (go_at_call 61; (with_reducible refine (CS.out _).mono ?_); rintro e w7 ⟨rfl, hb⟩; have hb7 := bl_tr hd0 hb) | fail)
                    all_goals
                      rename_i hHeld
                      have HB7 := Lib.hid (bl_tr HBL.out hHeld.2.2.2.2.2.2.2.2.2.2.2)
                      have HO7 := Lib.hid (owns_bel HO.out hHeld.2.2.2.2.2.2.2.2.2.2.2)
                      clear hHeld hb7 hb hS0 hd0 HBx CS HO HBL
                      have hPx := HP5.out.bel HB7.out
                      have q0 := hPx.tab.c0
                      obtain ⟨g', eg, _, hEx⟩ := ownE_cell hPx.tab.row (j := k) hlt
                      cases eg
                      rw [← HX.out] at hEx
                      obtain ⟨c0, c1, c2, c3, c4, c5, c6, c7, c8, c9⟩ := hEx
                      go_wp2_with (at_builtin; refine wpList_append_own _ rfl _ _ 32 rfl W5.heap.size tyE j0 (.agg #[.int .i64 0, .int .u32 0, .int .i64 0, .int .u32 0, .int .i64 0, .int .u32 0, .int .i64 0, .bool false, .bool false, .int .i64 0]) 10 72 Try.underlying32 hj0 hy0 hy1 hy2 rfl (by decide) _ _ _ rfl (HO7.out.alloc _) _ 1 1 (csE x) rfl rfl (en_new _ x) (csE_one1 _) ?c1 ?c2 ?c3 ?_)
                      case c1 => unfold maxLen; omega
                      case c2 => omega
                      case c3 => have := HB7.out.size; simp; omega
                      intro v8 w8 ho8 hg8 _
                      rw [← cellsE_one, ← cellsE_app] at ho8
                      have HO8 := Lib.hid ho8
                      have HB8 := Lib.hid ((HB7.out.alloc HB7.out.size _).grown hg8 (by have := HB7.out.size; simp; omega) (fun k hk => own_blkE HO7.out hk))
                      clear ho8 hg8 c0 c1 c2 c3 c4 c5 c6 c7 c8 c9 q0 hPx
                      go_wp2
                      go_roundw
                      case rel => exact ⟨k + 1, N + 1, false, _, by omega, by go_num, rfl, by omega, HI2, HO8, HB8⟩
                      case measure => simp [intOf]; omega
              · have hkn : k = n := by omega
                subst hkn
                have kk : ¬ (k : Int) < (k : Int) := by omega
                cases b with
                | true =>
                  have HY : Hid (y = insE ⟨f, dip, ep, false, false, now⟩ l) := Lib.hid (by have := HI.out; rw [← HLN.out] at this; exact this.doneT)
                  have ho9 := HO.out
                  rw [HY.out] at ho9
                  have HBZ := HBL
                  have HNb : Hid True := Lib.hid trivial
                  clear hP6 HI q0 HO HBL
                  obtain ⟨a9, c9, hv9⟩ := own_form ho9
                  subst hv9
                  have hP9 := HP5.out.bel HBZ.out
                  have q9 := hP9.tab.c0
                  have f9 := hP9.tab.free
                  have HQ := Lib.hid (HFIN.out _ _ _ _ HBZ.out ho9)
                  obtain ⟨Z, hZ⟩ : ∃ Z, Z = w6.setCell ⟨m, 0, none⟩ (.slice a9 N c9) := ⟨_, rfl⟩
                  have hTZ : Tch (· = m) w6 Z := by rw [hZ]; exact tch_set w6 ⟨m, 0, none⟩ _
                  have hsZ := (HBS.out.keep (tch_new HBZ.out) (fun h => h)).keep hTZ HSW5.out.1
                  have hqZ := hP9.bq.keep hTZ HSW5.out.2
                  obtain ⟨s0, s1, s2, s3, s4, s5, s6, s7, s8, s9⟩ := hsZ.cs
                  obtain ⟨b0, b1, b2, b3, b4, b5, b6, b7, b8, b9⟩ := hqZ.cs
                  have bf := hqZ.free
                  have HZ9 := Lib.hid hZ
                  rw [← hZ] at HQ
                  clear hP9 ho9 hTZ hsZ hqZ hZ
                  go_upto_region 42 with fail
                  rw [← HZ9.out]
                  clear q9 f9
                  go_wp2
                  refine bodyPost_ret (v := .tuple #[(en0 : En).val, .bool false, .int .i64 0]) (by simp [results, Try.results15, go_sem, b0, b1, b2, b3, b4, b5, b6, b7, b8, b9, en0, fl0, hu, huf]) rfl ?_
                  rw [HE.out]
                  exact ⟨rfl, HQ.out⟩
                | false =>
                  have HY : Hid (y ++ [⟨f, dip, ep, false, false, now⟩] = insE ⟨f, dip, ep, false, false, now⟩ l) := Lib.hid (by have := HI.out; rw [← HLN.out] at this; exact this.doneF)
                  clear hP6 HI
                  obtain ⟨y0, y1, y2, y3, y4, y5, y6, y7, y8, y9⟩ := (HBU.out.keep (tch_new HBL.out) (fun h => h)).cs
                  go_wp2_with (at_builtin; refine wpList_append_own _ rfl _ _ 32 rfl W5.heap.size tyE j0 (.agg #[.int .i64 0, .int .u32 0, .int .i64 0, .int .u32 0, .int .i64 0, .int .u32 0, .int .i64 0, .bool false, .bool false, .int .i64 0]) 10 72 Try.underlying32 hj0 hy0 hy1 hy2 rfl (by decide) _ _ _ rfl (HO.out.alloc _) _ 1 1 (csE ⟨f, dip, ep, false, false, now⟩) rfl rfl (en_new _ ⟨f, dip, ep, false, false, now⟩) (csE_one1 _) ?c1 ?c2 ?c3 ?_)
                  case c1 => unfold maxLen; omega
                  case c2 => omega
                  case c3 => have := HBL.out.size; simp; omega
                  intro v8 w8 ho9 hg9 _
                  rw [← cellsE_one, ← cellsE_app] at ho9
                  rw [HY.out] at ho9
                  have HBZ := Lib.hid ((HBL.out.alloc HBL.out.size _).grown hg9 (by have := HBL.out.size; simp; omega) (fun k hk => own_blkE HO.out hk))
                  clear hg9 y0 y1 y2 y3 y4 y5 y6 y7 y8 y9 HO HBL q0
                  obtain ⟨a9, c9, hv9⟩ := own_form ho9
                  subst hv9
                  have hP9 := HP5.out.bel HBZ.out
                  have q9 := hP9.tab.c0
                  have f9 := hP9.tab.free
                  have HQ := Lib.hid (HFIN.out _ _ _ _ HBZ.out ho9)
                  obtain ⟨Z, hZ⟩ : ∃ Z, Z = w8.setCell ⟨m, 0, none⟩ (.slice a9 (N + 1) c9) := ⟨_, rfl⟩
                  have hTZ : Tch (· = m) w8 Z := by rw [hZ]; exact tch_set w8 ⟨m, 0, none⟩ _
                  have hsZ := (HBS.out.keep (tch_new HBZ.out) (fun h => h)).keep hTZ HSW5.out.1
                  have hqZ := hP9.bq.keep hTZ HSW5.out.2
                  obtain ⟨s0, s1, s2, s3, s4, s5, s6, s7, s8, s9⟩ := hsZ.cs
                  obtain ⟨b0, b1, b2, b3, b4, b5, b6, b7, b8, b9⟩ := hqZ.cs
                  have bf := hqZ.free
                  have HZ9 := Lib.hid hZ
                  rw [← hZ] at HQ
                  clear hP9 ho9 hTZ hsZ hqZ hZ
                  go_upto_region 42 with fail
                  rw [← HZ9.out]
                  clear q9 f9
                  go_wp2
                  refine bodyPost_ret (v := .tuple #[(en0 : En).val, .bool false, .int .i64 0]) (by simp [results, Try.results15, go_sem, b0, b1, b2, b3, b4, b5, b6, b7, b8, b9, en0, fl0, hu, huf]) rfl ?_
                  rw [HE.out]
                  exact ⟨rfl, HQ.out⟩
          · have huf : qu ≤ (unE l : Int) := by omega
            have HUP : Hid (0 < unE l) := Lib.hid (by have := HZ.out; omega)
            go_upto_region 21 with fail
            rw [← HV.out.1, ← HV.out.2]
            clear e0 e1 e2 e3 e4 e5 e6 e7 e8 e9 r2 HV
            have O0 : Hid (OldT l 0 (-1)) := Lib.hid (.inl ⟨rfl, rfl⟩)
            have HBL0 := Lib.hid (Below.refl V.heap.size V)
            go_wp2
            go_loopw [20, 21] (fun av kv wr => ∃ (k : Nat) (a : Int), k ≤ n ∧ av = .int .i64 a ∧ kv = .int .i64 k ∧ Hid (OldT l k a) ∧ Hid (Below V.heap.size V wr)) (fun _ kv _ => n - (intOf kv).toNat)
            case atStart => exact ⟨0, -1, by omega, rfl, rfl, O0, HBL0⟩
            case round =>
              obtain ⟨k, a, hk, rfl, rfl, HI, HBL⟩ := hrel
              obtain ⟨w5, rfl⟩ : ∃ v, v = wr := ⟨_, rfl⟩
              clear O0 HBL0
              have hP5 := HPV.out.bel HBL.out
              have q0 := hP5.tab.c0
              by_cases hlt : k < n
              · have kk : (k : Int) < (n : Int) := by omega
                have k0 : (0 : Int) ≤ (k : Int) := by omega
                have HKL : Hid (k < l.length) := Lib.hid (by omega)
                obtain ⟨g, ea, _, hE⟩ := ownE_cell hP5.tab.row (j := k) hlt
                subst ea
                have HCl := Lib.hid (fun (j : Nat) (hj : j < n) => ownE_cell hP5.tab.row hj)
                have HSK := Lib.hid (fun h => HI.out.skip HKL.out h)
                obtain ⟨x, hx⟩ : ∃ x, x = l.getD k en0 := ⟨_, rfl⟩
                rw [← hx] at hE HSK
                have HX := Lib.hid hx
                obtain ⟨_, _, _, _, _, _, _, c7, _, c9⟩ := hE
                clear hx hP5
                cases ht : x.tr with
                | true =>
                  have HI2 := Lib.hid (HSK.out ht)
                  rw [ht] at c7
                  clear HSK HCl c9 ht HI
                  go_wp2
                  go_quiet (fail)
                  have HB9 := Lib.hid (below_drewNT HBL.out nq)
                  go_wp2
                  go_roundw
                  case rel => exact ⟨k + 1, a, by omega, rfl, by go_num, HI2, HB9⟩
                  case measure => simp [intOf]; omega
                | false =>
                  rw [ht] at c7
                  have HT : Hid ((l.getD k en0).tr = false) := Lib.hid (by rw [← HX.out]; exact ht)
                  by_cases ha : a < 0
                  · have HI2 : Hid (OldT l (k + 1) k) := Lib.hid (by
                      have h0 : a = -1 := by
                        rcases HI.out with ⟨h, _⟩ | ⟨i, h, _⟩
                        · exact h
                        · omega
                      have h1 := HI.out
                      rw [h0] at h1
                      exact h1.first HKL.out HT.out)
                    clear HSK HCl c9 ht HI
                    go_wp2
                    go_quiet (fail)
                    have HB9 := Lib.hid (below_drewNT HBL.out nq)
                    go_wp2
                    go_roundw
                    case rel => exact ⟨k + 1, k, by omega, rfl, by go_num, HI2, HB9⟩
                    case measure => simp [intOf]; omega
                  · obtain ⟨i, rfl⟩ : ∃ i : Nat, a = i := ⟨a.toNat, by omega⟩
                    have hik : i < k := by
                      rcases HI.out with ⟨h, _⟩ | ⟨j, h, h2, _⟩
                      · omega
                      · omega
                    have ii : (i : Int) < (n : Int) := by omega
                    have i0 : (0 : Int) ≤ (i : Int) := by omega
                    obtain ⟨g', eg, _, hE2⟩ := HCl.out i (by omega)
                    cases eg
                    obtain ⟨z, hz⟩ : ∃ z, z = l.getD i en0 := ⟨_, rfl⟩
                    rw [← hz] at hE2
                    obtain ⟨_, _, _, _, _, _, _, _, _, d9⟩ := hE2
                    have HZ2 := Lib.hid hz
                    by_cases hl : x.la < z.la
                    · have HI2 := Lib.hid (HI.out.less HKL.out HT.out (by rw [← HX.out, ← HZ2.out]; exact hl))
                      clear HSK HCl ht HI hz
                      go_wp2
                      go_quiet (fail)
                      have HB9 := Lib.hid (below_drewNT HBL.out nq)
                      go_wp2
                      go_roundw
                      case rel => exact ⟨k + 1, k, by omega, rfl, by go_num, HI2, HB9⟩
                      case measure => simp [intOf]; omega
                    · have HI2 := Lib.hid (HI.out.stay HKL.out HT.out (by rw [← HX.out, ← HZ2.out]; exact hl))
                      clear HSK HCl ht HI hz
                      go_wp2
                      go_quiet (fail)
                      have HB9 := Lib.hid (below_drewNT HBL.out nq)
                      go_wp2
                      go_roundw
                      case rel => exact ⟨k + 1, i, by omega, rfl, by go_num, HI2, HB9⟩
                      case measure => simp [intOf]; omega
              · have hkn : k = n := by omega
                have hkl : l.length = k := by omega
                have kk : ¬ (k : Int) < (n : Int) := by omega
                obtain ⟨i, hai, hil, hold⟩ := (show OldT l l.length a by rw [hkl]; exact HI.out).done HUP.out
                have ii : (i : Int) < (n : Int) := by omega
                have i0 : (0 : Int) ≤ (i : Int) := by omega
                obtain ⟨g, ea, _, hE⟩ := ownE_cell hP5.tab.row (j := i) (by omega)
                subst ea hai
                obtain ⟨o, hox⟩ : ∃ o, o = l.getD i en0 := ⟨_, rfl⟩
                rw [← hox] at hE hold
                have HE := Lib.hid (put_full (qu := qu) (dip := dip) (ep := ep) HGO.out.1 HGO.out.2 H1.out HZ.out (by omega) hold)
                have HER : Hid (l.eraseIdx i = cutE o.f l) := Lib.hid (by rw [erase_is HS.out.1 hil, hox])
                obtain ⟨c0, c1, c2, c3, c4, c5, c6, c7, c8, c9⟩ := hE
                have hs5 := HSV.out.keep (tch_new HBL.out) (fun h => h)
                obtain ⟨s0, s1, s2, s3, s4, s5, s6, s7, s8, s9⟩ := hs5.cs
                have sf := hs5.free
                have HB5 := Lib.hid (HBV.out.trans (HBL.out.mono HBV.out.size))
                have hT5 := stE_tch w5 s o
                have hBs : Below w.heap.size w (stE w5 s o) := bl_st HB5.out HSW.out.1 o
                have hRs : RtS (stE w5 s o) B F m qt qu l := HR.out.keep (tch_new hBs) (fun _ _ h => h)
                have CC := Lib.hid (refCut_c B m F qt qu l i (stE w5 s o) hRs (Nat.le_trans HBB.out hBs.size) hil hn)
                have HBX := Lib.hid (hs5.set o)
                have HP6 : Hid (FlAt (stE w5 s o) p f ∧ BxE (stE w5 s o) (p + 1) en0 ∧ BxE (stE w5 s o) (p + 1 + 1) en0) := Lib.hid (by
                    have h1 := HSW.out
                    obtain ⟨d0, d1, d2, d3, d4⟩ := hP5.fl
                    exact ⟨⟨hT5.cell d0 (by simp only; omega), hT5.cell d1 (by simp only; omega), hT5.cell d2 (by simp only; omega), hT5.cell d3 (by simp only; omega), hT5.cell d4 (by simp only; omega)⟩, hP5.bq.keep hT5 (by omega), hP5.br.keep hT5 (by omega)⟩)
                have HBS := Lib.hid hBs
                clear hP5 hs5 hT5 hBs hRs hox hold
                go_wp2_with fail
                refine CC.out.mono ?_
                rintro e w6 ⟨rfl, F4, hR6⟩
                have HR6 := Lib.hid ((RtTo.same HR.out (tch_new HBS.out)).trans hR6)
                have hTF : ∀ k, w.heap.size ≤ k → ¬ F k := fun k hk hf => by have := (HR.out.blocks k hf).2; omega
                obtain ⟨ao2, n2, cK, hM6, hF4⟩ := hR6.1.here
                have hn2 := ownE_len hM6.row
                have hP6 : PtS w6 B m qt qu (l.eraseIdx i) ao2 n2 cK p f (p + 1) (p + 1 + 1) := by
                  have h1 := HSW.out
                  have h2 := HPQ.out
                  have h3 := HP.out
                  obtain ⟨⟨d0, d1, d2, d3, d4⟩, hq, hr⟩ := HP6.out
                  have hpF := hTF p (by omega)
                  exact ⟨hM6, ⟨hR6.2.2.cell d0 hpF, hR6.2.2.cell d1 hpF, hR6.2.2.cell d2 hpF, hR6.2.2.cell d3 hpF, hR6.2.2.cell d4 hpF⟩, hq.keep hR6.2.2 (hTF _ (by omega)), hr.keep hR6.2.2 (hTF _ (by omega))⟩
                have hs6 : BxE w6 s o := HBX.out.keep hR6.2.2 (hTF s HSW.out.1)
                have HB6 : Hid (w.heap.size ≤ w6.heap.size) := Lib.hid HR6.out.2.2.size
                obtain ⟨W5, hW5⟩ : ∃ W5, W5 = w6.alloc (En.obj ⟨f, dip, ep, false, false, now⟩) := ⟨_, rfl⟩
                have hb5 : Below w6.heap.size w6 W5 := by rw [hW5]; exact bl_al (Below.refl _ _) _
                have hu5 : BxE W5 w6.heap.size ⟨f, dip, ep, false, false, now⟩ := by rw [hW5]; exact BxE.new w6 _
                obtain ⟨u, hu5e⟩ : ∃ u, u = w6.heap.size := ⟨_, rfl⟩
                rw [← hu5e] at hu5
                obtain ⟨d0, d1, d2, d3, d4⟩ := hP6.fl
                have HW5 := Lib.hid (And.intro hW5 hu5e)
                have HP5 := Lib.hid (hP6.bel hb5)
                have HBU := Lib.hid hu5
                have HSZ6 : Hid (p + 1 < W5.heap.size) := Lib.hid (by have := hs6.lt; have := HSW.out; have := hb5.size; omega)
                have HBS := Lib.hid (hs6.keep (tch_new hb5) (fun h => h))
                have HRW : Hid (RtTo w B F m qt qu (l.eraseIdx i) F4 W5) := Lib.hid (HR6.out.trans (RtTo.same HR6.out.1 (tch_new hb5)))
                have HB5 : Hid (w.heap.size ≤ W5.heap.size) := Lib.hid HRW.out.2.2.size
                have HFIN := Lib.hid (fun (a6 : Option Addr) (c6 N : Nat) (w6 : World) (hb : Below W5.heap.size W5 w6) (ho : w6.ownsRow W5.heap.size tyE 10 (.slice a6 N c6) N (cellsE (insE (newE f dip ep now) (l.eraseIdx i)))) => ins_fin (q := p + 1) HRW.out HP5.out.tab hF4 (Nat.le_trans HBB.out HB5.out) hb ho HPQ.out (by have := HSW.out; have := HPQ.out; omega) HSZ6.out o)
                rw [HER.out] at HFIN HP5
                have HSW5 : Hid (¬ s = m ∧ ¬ p + 1 = m) := Lib.hid (by have := HSW.out; have := HPQ.out; omega)
                have HN2 : Hid (n2 ≤ 1048576) := Lib.hid (by rw [← hn2]; exact Nat.le_trans (by rw [HER.out]; exact cutE_len o.f l) hn)
                have hn20 := HN2.out
                clear hW5 hb5 hu5 hu5e hP6 hs6 hM6 hF4 hR6 hTF hn2 CC HI HBL
                go_upto_region 32 with fail
                rw [← HW5.out.1, ← HW5.out.2]
                clear d0 d1 d2 d3 d4 HW5 c0 c1 c2 c3 c4 c5 c6 c7 c8 c9 s0 s1 s2 s3 s4 s5 s6 s7 s8 s9 sf q0 kk ii i0
                have X0 : Hid (InsR ⟨f, dip, ep, false, false, now⟩ (cutE o.f l) 0 false []) := Lib.hid (InsR.start _ _)
                have O0 : Hid (W5.ownsRow W5.heap.size tyE 10 (.slice none 0 0) 0 (cellsE [])) := Lib.hid ⟨rfl, .inl ⟨rfl, rfl⟩⟩
                have HBL0 := Lib.hid (Below.refl W5.heap.size W5)
                have HFT : Hid (∀ e ∈ (cutE o.f l), FitE e) := Lib.hid (fun e he => HS.out.2.2 e (List.mem_filter.1 he).1)
                have HLN : Hid ((cutE o.f l).length = n2) := Lib.hid (ownE_len HP5.out.tab.row)
                have hLN := HLN.out
                go_wp2
                go_loopw [22, 23, 25] (fun nv dv kv wr => ∃ (k N : Nat) (b : Bool) (y : List En), k ≤ n2 ∧ kv = .int .i64 k ∧ dv = .bool b ∧ N ≤ 2 * k ∧ Hid (InsR ⟨f, dip, ep, false, false, now⟩ (cutE o.f l) k b y) ∧ Hid (wr.ownsRow W5.heap.size tyE 10 nv N (cellsE y)) ∧ Hid (Below W5.heap.size W5 wr)) (fun _ _ kv _ => n2 - (intOf kv).toNat)
                case atStart => exact ⟨0, 0, false, [], by omega, rfl, rfl, by omega, X0, O0, HBL0⟩
                case round =>
                  obtain ⟨k, N, b, y, hk, rfl, rfl, hN, HI, HO, HBL⟩ := hrel
                  obtain ⟨w6, rfl⟩ : ∃ v, v = wr := ⟨_, rfl⟩
                  clear X0 O0 HBL0
                  have hP6 := HP5.out.bel HBL.out
                  have q0 := hP6.tab.c0
                  by_cases hlt : k < n2
                  · have kk : (k : Int) < (n2 : Int) := by omega
                    have k0 : (0 : Int) ≤ (k : Int) := by omega
                    obtain ⟨g, ea, _, hE⟩ := ownE_cell hP6.tab.row (j := k) hlt
                    subst ea
                    obtain ⟨x, hx⟩ : ∃ x, x = (cutE o.f l).getD k en0 := ⟨_, rfl⟩
                    rw [← hx] at hE
                    have HXM : Hid (FitE x) := Lib.hid (HFT.out x (by rw [hx, List.getD_eq_getElem?_getD, List.getElem?_eq_getElem (by omega)]; exact List.getElem_mem _))
                    have HX := Lib.hid hx
                    have HKL : Hid (k < (cutE o.f l).length) := Lib.hid (by omega)
                    obtain ⟨c0, c1, c2, c3, c4, c5, c6, c7, c8, c9⟩ := hE
                    clear hx
                    cases b with
                    | true =>
                      have HI2 := Lib.hid (HI.out.later HKL.out)
                      rw [← HX.out] at HI2
                      clear hP6 HI
                      go_wp2
                      go_quiet (fail)
                      obtain ⟨w7, hw7⟩ : ∃ v, v = w6.drewN nq := ⟨_, rfl⟩
                      have HB7 : Hid (Below W5.heap.size W5 w7) := Lib.hid (by rw [hw7]; exact below_drewNT HBL.out nq)
                      have HO7 : Hid (w7.ownsRow W5.heap.size tyE 10 u22 N (cellsE y)) := Lib.hid (by rw [hw7]; exact HO.out)
                      rw [← hw7]
                      clear c0 c1 c2 c3 c4 c5 c6 c7 c8 c9 q0 HO HBL hw7
                      have hPx := HP5.out.bel HB7.out
                      have q0 := hPx.tab.c0
                      obtain ⟨g', eg, _, hEx⟩ := ownE_cell hPx.tab.row (j := k) hlt
                      cases eg
                      rw [← HX.out] at hEx
                      obtain ⟨c0, c1, c2, c3, c4, c5, c6, c7, c8, c9⟩ := hEx
                      go_wp2_with (at_builtin; refine wpList_append_own _ rfl _ _ 32 rfl W5.heap.size tyE j0 (.agg #[.int .i64 0, .int .u32 0, .int .i64 0, .int .u32 0, .int .i64 0, .int .u32 0, .int .i64 0, .bool false, .bool false, .int .i64 0]) 10 72 Try.underlying32 hj0 hy0 hy1 hy2 rfl (by decide) _ _ _ rfl (HO7.out.alloc _) _ 1 1 (csE x) rfl rfl (en_new _ x) (csE_one1 _) ?c1 ?c2 ?c3 ?_)
                      case c1 => unfold maxLen; omega
                      case c2 => omega
                      case c3 => have := HB7.out.size; simp; omega
                      intro v8 w8 ho8 hg8 _
                      rw [← cellsE_one, ← cellsE_app] at ho8
                      have HO8 := Lib.hid ho8
                      have HB8 := Lib.hid ((HB7.out.alloc HB7.out.size _).grown hg8 (by have := HB7.out.size; simp; omega) (fun k hk => own_blkE HO7.out hk))
                      clear ho8 hg8 c0 c1 c2 c3 c4 c5 c6 c7 c8 c9 q0 hPx
                      go_wp2
                      go_roundw
                      case rel => exact ⟨k + 1, N + 1, true, _, by omega, by go_num, rfl, by omega, HI2, HO8, HB8⟩
                      case measure => simp [intOf]; omega
                    | false =>
                      obtain ⟨d0, d1, d2, d3, d4⟩ := hP6.fl
                      have HBx := Lib.hid (show ∀ wx, Below w6.heap.size w6 wx → wx.cell? ⟨p, 0, none⟩ = some (.int .i64 f.p) ∧ wx.cell? ⟨p, 1, none⟩ = some (.int .u32 f.s) ∧ wx.cell? ⟨p, 2, none⟩ = some (.int .i64 f.sp) ∧ wx.cell? ⟨p, 3, none⟩ = some (.int .u32 f.d) ∧ wx.cell? ⟨p, 4, none⟩ = some (.int .i64 f.dp) ∧ wx.cell? ⟨m, 0, none⟩ = some (.slice (some ⟨g, 0, none⟩) n2 cK) ∧ wx.cell? ⟨g, k * 10, none⟩ = some (.int .i64 x.f.p) ∧ wx.cell? ⟨g, k * 10 + 1, none⟩ = some (.int .u32 x.f.s) ∧ wx.cell? ⟨g, k * 10 + 2, none⟩ = some (.int .i64 x.f.sp) ∧ wx.cell? ⟨g, k * 10 + 3, none⟩ = some (.int .u32 x.f.d) ∧ wx.cell? ⟨g, k * 10 + 4, none⟩ = some (.int .i64 x.f.dp) ∧ Below w6.heap.size w6 wx from fun wx h => ⟨(h.cell (p := ⟨p, 0, none⟩) (block_lt_of_cell d0)).trans d0, (h.cell (p := ⟨p, 1, none⟩) (block_lt_of_cell d1)).trans d1, (h.cell (p := ⟨p, 2, none⟩) (block_lt_of_cell d2)).trans d2, (h.cell (p := ⟨p, 3, none⟩) (block_lt_of_cell d3)).trans d3, (h.cell (p := ⟨p, 4, none⟩) (block_lt_of_cell d4)).trans d4, (h.cell (p := ⟨m, 0, none⟩) (block_lt_of_cell q0)).trans q0, (h.cell (p := ⟨g, k * 10, none⟩) (block_lt_of_cell c0)).trans c0, (h.cell (p := ⟨g, k * 10 + 1, none⟩) (block_lt_of_cell c1)).trans c1, (h.cell (p := ⟨g, k * 10 + 2, none⟩) (block_lt_of_cell c2)).trans c2, (h.cell (p := ⟨g, k * 10 + 3, none⟩) (block_lt_of_cell c3)).trans c3, (h.cell (p := ⟨g, k * 10 + 4, none⟩) (block_lt_of_cell c4)).trans c4, h⟩)
                      have hd0 : Below w6.heap.size w6 w6.drew := (Below.refl _ _).drew
                      have hS0 := HBx.out _ hd0
                      have CS := Lib.hid (fun (Y : World) => refLess_c f x.f Y HS.out.2.1.s HS.out.2.1.d HXM.out.f.s HXM.out.f.d)
                      clear hP6
                      by_cases hl : ltF f x.f
                      · have hld : decide (ltF f x.f) = true := decide_eq_true hl
                        rw [hld] at CS
                        have HI2 := Lib.hid (HI.out.now HKL.out (by rw [← HX.out]; exact hl))
                        rw [← HX.out] at HI2
                        clear hl hld HI
                        go_upto_region 35 with fail
                        clear c0 c1 c2 c3 c4 c5 c6 c7 c8 c9 q0 d0 d1 d2 d3 d4
                        go_region_held3 (fun wx => wx.cell? ⟨p, 0, none⟩ = some (.int .i64 f.p) ∧ wx.cell? ⟨p, 1, none⟩ = some (.int .u32 f.s) ∧ wx.cell? ⟨p, 2, none⟩ = some (.int .i64 f.sp) ∧ wx.cell? ⟨p, 3, none⟩ = some (.int .u32 f.d) ∧ wx.cell? ⟨p, 4, none⟩ = some (.int .i64 f.dp) ∧ wx.cell? ⟨m, 0, none⟩ = some (.slice (some ⟨g, 0, none⟩) n2 cK) ∧ wx.cell? ⟨g, k * 10, none⟩ = some (.int .i64 x.f.p) ∧ wx.cell? ⟨g, k * 10 + 1, none⟩ = some (.int .u32 x.f.s) ∧ wx.cell? ⟨g, k * 10 + 2, none⟩ = some (.int .i64 x.f.sp) ∧ wx.cell? ⟨g, k * 10 + 3, none⟩ = some (.int .u32 x.f.d) ∧ wx.cell? ⟨g, k * 10 + 4, none⟩ = some (.int .i64 x.f.dp) ∧ Below w6.heap.size w6 wx) (first | (with_reducible exact hS0) | (with_reducible exact HBx.out _ hb7) | (with_reducible assumption) | fail)
                          (first | (go_at_call 61; (with_reducible refine (CS.out _).mono ?_); rintro e w7 ⟨rfl, hb⟩; have hb7 := bl_tr hd0 hb) | fail)
                        all_goals
                          rename_i hHeld
                          have HB7 := Lib.hid (bl_tr HBL.out hHeld.2.2.2.2.2.2.2.2.2.2.2)
                          have HO7 := Lib.hid (owns_bel HO.out hHeld.2.2.2.2.2.2.2.2.2.2.2)
                          clear hHeld hb7 hb hS0 hd0 HBx CS HO HBL
                          obtain ⟨y0, y1, y2, y3, y4, y5, y6, y7, y8, y9⟩ := (HBU.out.keep (tch_new HB7.out) (fun h => h)).cs
                          go_wp2_with (at_builtin; refine wpList_append_own _ rfl _ _ 32 rfl W5.heap.size tyE j0 (.agg #[.int .i64 0, .int .u32 0, .int .i64 0, .int .u32 0, .int .i64 0, .int .u32 0, .int .i64 0, .bool false, .bool false, .int .i64 0]) 10 72 Try.underlying32 hj0 hy0 hy1 hy2 rfl (by decide) _ _ _ rfl (HO7.out.alloc _) _ 1 1 (csE ⟨f, dip, ep, false, false, now⟩) rfl rfl (en_new _ ⟨f, dip, ep, false, false, now⟩) (csE_one1 _) ?c1 ?c2 ?c3 ?_)
                          case c1 => unfold maxLen; omega
                          case c2 => omega
                          case c3 => have := HB7.out.size; simp; omega
                          intro v8 w8 ho8 hg8 _
                          rw [← cellsE_one, ← cellsE_app] at ho8
                          have HO8 := Lib.hid ho8
                          have HB8 := Lib.hid ((HB7.out.alloc HB7.out.size _).grown hg8 (by have := HB7.out.size; simp; omega) (fun k hk => own_blkE HO7.out hk))
                          clear ho8 hg8 y0 y1 y2 y3 y4 y5 y6 y7 y8 y9 HO7
                          have hPx := HP5.out.bel HB8.out
                          have q0 := hPx.tab.c0
                          obtain ⟨g', eg, _, hEx⟩ := ownE_cell hPx.tab.row (j := k) hlt
                          cases eg
                          rw [← HX.out] at hEx
                          obtain ⟨c0, c1, c2, c3, c4, c5, c6, c7, c8, c9⟩ := hEx
                          go_wp2_with (at_builtin; refine wpList_append_own _ rfl _ _ 32 rfl W5.heap.size tyE j0 (.agg #[.int .i64 0, .int .u32 0, .int .i64 0, .int .u32 0, .int .i64 0, .int .u32 0, .int .i64 0, .bool false, .bool false, .int .i64 0]) 10 72 Try.underlying32 hj0 hy0 hy1 hy2 rfl (by decide) _ _ _ rfl (HO8.out.alloc _) _ 1 1 (csE x) rfl rfl (en_new _ x) (csE_one1 _) ?c1 ?c2 ?c3 ?_)
                          case c1 => unfold maxLen; omega
                          case c2 => omega
                          case c3 => have := HB8.out.size; simp; omega
                          intro v9 w9 ho9 hg9 _
                          rw [← cellsE_one, ← cellsE_app] at ho9
                          have HO9 := Lib.hid ho9
                          have HB9 := Lib.hid ((HB8.out.alloc HB8.out.size _).grown hg9 (by have := HB8.out.size; simp; omega) (fun k hk => own_blkE HO8.out hk))
                          clear ho9 hg9 c0 c1 c2 c3 c4 c5 c6 c7 c8 c9 q0 hPx
                          go_wp2
                          go_roundw
                          case rel => exact ⟨k + 1, N + 1 + 1, true, _, by omega, by go_num, rfl, by omega, HI2, HO9, HB9⟩
                          case measure => simp [intOf]; omega
                      · have hld : decide (ltF f x.f) = false := decide_eq_false hl
                        rw [hld] at CS
                        have HI2 := Lib.hid (HI.out.not HKL.out (by rw [← HX.out]; exact hl))
                        rw [← HX.out] at HI2
                        clear hl hld HI
                        go_upto_region 35 with fail
                        clear c0 c1 c2 c3 c4 c5 c6 c7 c8 c9 q0 d0 d1 d2 d3 d4
                        go_region_held3 (fun wx => wx.cell? ⟨p, 0, none⟩ = some (.int .i64 f.p) ∧ wx.cell? ⟨p, 1, none⟩ = some (.int .u32 f.s) ∧ wx.cell? ⟨p, 2, none⟩ = some (.int .i64 f.sp) ∧ wx.cell? ⟨p, 3, none⟩ = some (.int .u32 f.d) ∧ wx.cell? ⟨p, 4, none⟩ = some (.int .i64 f.dp) ∧ wx.cell? ⟨m, 0, none⟩ = some (.slice (some ⟨g, 0, none⟩) n2 cK) ∧ wx.cell? ⟨g, k * 10, none⟩ = some (.int .i64 x.f.p) ∧ wx.cell? ⟨g, k * 10 + 1, none⟩ = some (.int .u32 x.f.s) ∧ wx.cell? ⟨g, k * 10 + 2, none⟩ = some (.int .i64 x.f.sp) ∧ wx.cell? ⟨g, k * 10 + 3, none⟩ = some (.int .u32 x.f.d) ∧ wx.cell? ⟨g, k * 10 + 4, none⟩ = some (.int .i64 x.f.dp) ∧ Below w6.heap.size w6 wx) (first | (with_reducible exact hS0) | (with_reducible exact HBx.out _ hb7) | (with_reducible assumption) | fail)
                          (first | (go_at_call 61; (with_reducible refine (CS.out _).mono ?_); rintro e w7 ⟨rfl, hb⟩; have hb7 := bl_tr hd0 hb) | fail)
                        all_goals
                          rename_i hHeld
                          have HB7 := Lib.hid (bl_tr HBL.out hHeld.2.2.2.2.2.2.2.2.2.2.2)
                          have HO7 := Lib.hid (owns_bel HO.out hHeld.2.2.2.2.2.2.2.2.2.2.2)
                          clear hHeld hb7 hb hS0 hd0 HBx CS HO HBL
                          have hPx := HP5.out.bel HB7.out
                          have q0 := hPx.tab.c0
                          obtain ⟨g', eg, _, hEx⟩ := ownE_cell hPx.tab.row (j := k) hlt
                          cases eg
                          rw [← HX.out] at hEx
                          obtain ⟨c0, c1, c2, c3, c4, c5, c6, c7, c8, c9⟩ := hEx
                          go_wp2_with (at_builtin; refine wpList_append_own _ rfl _ _ 32 rfl W5.heap.size tyE j0 (.agg #[.int .i64 0, .int .u32 0, .int .i64 0, .int .u32 0, .int .i64 0, .int .u32 0, .int .i64 0, .bool false, .bool false, .int .i64 0]) 10 72 Try.underlying32 hj0 hy0 hy1 hy2 rfl (by decide) _ _ _ rfl (HO7.out.alloc _) _ 1 1 (csE x) rfl rfl (en_new _ x) (csE_one1 _) ?c1 ?c2 ?c3 ?_)
                          case c1 => unfold maxLen; omega
                          case c2 => omega
                          case c3 => have := HB7.out.size; simp; omega
                          intro v8 w8 ho8 hg8 _
                          rw [← cellsE_one, ← cellsE_app] at ho8
                          have HO8 := Lib.hid ho8
                          have HB8 := Lib.hid ((HB7.out.alloc HB7.out.size _).grown hg8 (by have := HB7.out.size; simp; omega) (fun k hk => own_blkE HO7.out hk))
                          clear ho8 hg8 c0 c1 c2 c3 c4 c5 c6 c7 c8 c9 q0 hPx
                          go_wp2
                          go_roundw
                          case rel => exact ⟨k + 1, N + 1, false, _, by omega, by go_num, rfl, by omega, HI2, HO8, HB8⟩
                          case measure => simp [intOf]; omega
                  · have hkn : k = n2 := by omega
                    subst hkn
                    have kk : ¬ (k : Int) < (k : Int) := by omega
                    cases b with
                    | true =>
                      have HY : Hid (y = insE ⟨f, dip, ep, false, false, now⟩ (cutE o.f l)) := Lib.hid (by have := HI.out; rw [← HLN.out] at this; exact this.doneT)
                      have ho9 := HO.out
                      rw [HY.out] at ho9
                      have HBZ := HBL
                      have HNb : Hid True := Lib.hid trivial
                      clear hP6 HI q0 HO HBL
                      obtain ⟨a9, c9, hv9⟩ := own_form ho9
                      subst hv9
                      have hP9 := HP5.out.bel HBZ.out
                      have q9 := hP9.tab.c0
                      have f9 := hP9.tab.free
                      have HQ := Lib.hid (HFIN.out _ _ _ _ HBZ.out ho9)
                      obtain ⟨Z, hZ⟩ : ∃ Z, Z = w6.setCell ⟨m, 0, none⟩ (.slice a9 N c9) := ⟨_, rfl⟩
                      have hTZ : Tch (· = m) w6 Z := by rw [hZ]; exact tch_set w6 ⟨m, 0, none⟩ _
                      have hsZ := (HBS.out.keep (tch_new HBZ.out) (fun h => h)).keep hTZ HSW5.out.1
                      have hqZ := hP9.bq.keep hTZ HSW5.out.2
                      obtain ⟨s0, s1, s2, s3, s4, s5, s6, s7, s8, s9⟩ := hsZ.cs
                      obtain ⟨b0, b1, b2, b3, b4, b5, b6, b7, b8, b9⟩ := hqZ.cs
                      have bf := hqZ.free
                      have HZ9 := Lib.hid hZ
                      rw [← hZ] at HQ
                      clear hP9 ho9 hTZ hsZ hqZ hZ
                      go_upto_region 42 with fail
                      rw [← HZ9.out]
                      clear q9 f9
                      go_wp2
                      refine bodyPost_ret (v := .tuple #[(o : En).val, .bool true, .int .i64 0]) (by simp [results, Try.results15, go_sem, b0, b1, b2, b3, b4, b5, b6, b7, b8, b9, en0, fl0, hu, huf]) rfl ?_
                      rw [HE.out]
                      exact ⟨rfl, HQ.out⟩
                    | false =>
                      have HY : Hid (y ++ [⟨f, dip, ep, false, false, now⟩] = insE ⟨f, dip, ep, false, false, now⟩ (cutE o.f l)) := Lib.hid (by have := HI.out; rw [← HLN.out] at this; exact this.doneF)
                      clear hP6 HI
                      obtain ⟨y0, y1, y2, y3, y4, y5, y6, y7, y8, y9⟩ := (HBU.out.keep (tch_new HBL.out) (fun h => h)).cs
                      go_wp2_with (at_builtin; refine wpList_append_own _ rfl _ _ 32 rfl W5.heap.size tyE j0 (.agg #[.int .i64 0, .int .u32 0, .int .i64 0, .int .u32 0, .int .i64 0, .int .u32 0, .int .i64 0, .bool false, .bool false, .int .i64 0]) 10 72 Try.underlying32 hj0 hy0 hy1 hy2 rfl (by decide) _ _ _ rfl (HO.out.alloc _) _ 1 1 (csE ⟨f, dip, ep, false, false, now⟩) rfl rfl (en_new _ ⟨f, dip, ep, false, false, now⟩) (csE_one1 _) ?c1 ?c2 ?c3 ?_)
                      case c1 => unfold maxLen; omega
                      case c2 => omega
                      case c3 => have := HBL.out.size; simp; omega
                      intro v8 w8 ho9 hg9 _
                      rw [← cellsE_one, ← cellsE_app] at ho9
                      rw [HY.out] at ho9
                      have HBZ := Lib.hid ((HBL.out.alloc HBL.out.size _).grown hg9 (by have := HBL.out.size; simp; omega) (fun k hk => own_blkE HO.out hk))
                      clear hg9 y0 y1 y2 y3 y4 y5 y6 y7 y8 y9 HO HBL q0
                      obtain ⟨a9, c9, hv9⟩ := own_form ho9
                      subst hv9
                      have hP9 := HP5.out.bel HBZ.out
                      have q9 := hP9.tab.c0
                      have f9 := hP9.tab.free
                      have HQ := Lib.hid (HFIN.out _ _ _ _ HBZ.out ho9)
                      obtain ⟨Z, hZ⟩ : ∃ Z, Z = w8.setCell ⟨m, 0, none⟩ (.slice a9 (N + 1) c9) := ⟨_, rfl⟩
                      have hTZ : Tch (· = m) w8 Z := by rw [hZ]; exact tch_set w8 ⟨m, 0, none⟩ _
                      have hsZ := (HBS.out.keep (tch_new HBZ.out) (fun h => h)).keep hTZ HSW5.out.1
                      have hqZ := hP9.bq.keep hTZ HSW5.out.2
                      obtain ⟨s0, s1, s2, s3, s4, s5, s6, s7, s8, s9⟩ := hsZ.cs
                      obtain ⟨b0, b1, b2, b3, b4, b5, b6, b7, b8, b9⟩ := hqZ.cs
                      have bf := hqZ.free
                      have HZ9 := Lib.hid hZ
                      rw [← hZ] at HQ
                      clear hP9 ho9 hTZ hsZ hqZ hZ
                      go_upto_region 42 with fail
                      rw [← HZ9.out]
                      clear q9 f9
                      go_wp2
                      refine bodyPost_ret (v := .tuple #[(o : En).val, .bool true, .int .i64 0]) (by simp [results, Try.results15, go_sem, b0, b1, b2, b3, b4, b5, b6, b7, b8, b9, en0, fl0, hu, huf]) rfl ?_
                      rw [HE.out]
                      exact ⟨rfl, HQ.out⟩
      · have ii : (i : Int) < (n : Int) := by omega
        have i0 : (0 : Int) ≤ (i : Int) := by omega
        have q0 := hP3.tab.c0
        obtain ⟨g, rfl, _, hE⟩ := ownE_cell hP3.tab.row (j := i) (by omega)
        obtain ⟨x, hx⟩ : ∃ x, x = l.getD i en0 := ⟨_, rfl⟩
        rw [← hx] at hE h1 h3
        have HX := Lib.hid (And.intro hx h3)
        have HI : Hid (i < l.length) := Lib.hid h2
        have HE := Lib.hid (put_old (qu := qu) (dip := dip) (ep := ep) HGO.out.1 HGO.out.2 h1)
        obtain ⟨c0, c1, c2, c3, c4, c5, c6, c7, c8, c9⟩ := hE
        obtain ⟨Y, hY⟩ : ∃ Y, Y = w3.alloc (En.obj ⟨x.f, dip, ep, x.tr, false, now⟩) := ⟨_, rfl⟩
        have hbY : Below w3.heap.size w3 Y := by rw [hY]; exact bl_al (Below.refl _ _) _
        have hbx : BxE Y w3.heap.size ⟨x.f, dip, ep, x.tr, false, now⟩ := by rw [hY]; exact BxE.new w3 _
        have hPY := hP3.bel hbY
        obtain ⟨s, hs⟩ : ∃ s, s = w3.heap.size := ⟨_, rfl⟩
        rw [← hs] at hbx
        obtain ⟨y0, y1, y2, y3, y4, y5, y6, y7, y8, y9⟩ := hbx.cs
        have r0 := hPY.tab.c0
        obtain ⟨g', eg, _, hE3⟩ := ownE_cell hPY.tab.row (j := i) (by omega)
        cases eg
        rw [← hx] at hE3
        obtain ⟨z0, z1, z2, z3, z4, z5, z6, z7, z8, z9⟩ := hE3
        have zf := hPY.tab.freeR
        have HY := Lib.hid (And.intro hY hs)
        have HBY := Lib.hid (HB3.out.trans (hbY.mono HB3.out.size))
        have HPY := Lib.hid hPY
        have HGL : Hid (g < w.heap.size) := Lib.hid (by
          have := (HM.out.1.blk (k := g) rfl).2
          exact this)
        clear hP3 h1 hx h3 h2 hbY hbx hPY hY hs
        go_upto_region 13 with fail
        rw [← HY.out.1, ← HY.out.2]
        clear c0 c1 c2 c3 c4 c5 c6 c7 c8 c9 q0
        go_region
        obtain ⟨Z, hZ⟩ : ∃ Z, Z = (stO Y g (i * 10) ⟨x.f, dip, ep, x.tr, false, now⟩).drew := ⟨_, rfl⟩
        have hgq : ¬ p + 1 = g := by have := HGL.out; have := HPQ.out; omega
        have hgr : ¬ p + 1 + 1 = g := by have := HGL.out; have := HPQ.out; omega
        have hbq : BxE Z (p + 1) en0 := by rw [hZ]; exact drew_box (HPY.out.bq.keep (stO_tch _ _ _ _) hgq)
        have hbr : BxE Z (p + 1 + 1) en0 := by rw [hZ]; exact drew_box (HPY.out.br.keep (stO_tch _ _ _ _) hgr)
        obtain ⟨b0, b1, b2, b3, b4, b5, b6, b7, b8, b9⟩ := hbq.cs
        have bf := hbq.free
        obtain ⟨e0, e1, e2, e3, e4, e5, e6, e7, e8, e9⟩ := hbr.cs
        have HQ : Hid (∃ F2, RtTo w B F m qt qu (setE ⟨x.f, dip, ep, x.tr, false, now⟩ l) F2 (stE Z (p + 1) en0)) := Lib.hid (by
          rw [hZ]
          exact put_fin HPY.out.tab HM.out.2 HR.out HBY.out HS.out.1 HI.out ⟨x.f, dip, ep, x.tr, false, now⟩ (by rw [← HX.out.1]) HPQ.out en0)
        rw [← hZ]
        clear hbq hbr hZ z0 z1 z2 z3 z4 z5 z6 z7 z8 z9 zf r0 y0 y1 y2 y3 y4 y5 y6 y7 y8 y9
        go_wp2
        refine bodyPost_ret (v := .tuple #[en0.val, .bool false, .int .i64 0]) (by simp [results, Try.results15, go_sem, b0, b1, b2, b3, b4, b5, b6, b7, b8, b9, en0, fl0]) rfl ?_
        rw [HE.out]
        refine ⟨rfl, ?_⟩
        have := HQ.out
        rw [HX.out.2] at this
        exact this
    · have hod : decide (OkN now) = false := decide_eq_false ho
      rw [hod] at CT
      have HE := Lib.hid (put_late (qu := qu) (dip := dip) (ep := ep) (l := l) hg ho)
      obtain ⟨b0, b1, b2, b3, b4, b5, b6, b7, b8, b9⟩ := hP1.bq.cs
      have bf := hP1.bq.free
      obtain ⟨e0, e1, e2, e3, e4, e5, e6, e7, e8, e9⟩ := hP1.br.cs
      have HQ := Lib.hid (same_fin HR.out HB2.out HPQ.out en0)
      clear hg hgd ho hod hP1
      go_wp2_with fail
      refine CT.out.mono ?_
      rintro e w2 ⟨rfl, rfl⟩
      go_wp2
      refine bodyPost_ret (v := .tuple #[en0.val, .bool false, .int .i64 4]) (by simp [results, Try.results15, go_sem, b0, b1, b2, b3, b4, b5, b6, b7, b8, b9, en0, fl0]) rfl ?_
      rw [HE.out]
      exact ⟨rfl, HQ.out⟩
  · have hgd : decide (GoodF f) = false := decide_eq_false hg
    rw [hgd]
    have HE := Lib.hid (put_form (qu := qu) (dip := dip) (ep := ep) (now := now) (l := l) hg)
    obtain ⟨b0, b1, b2, b3, b4, b5, b6, b7, b8, b9⟩ := hP1.bq.cs
    have bf := hP1.bq.free
    obtain ⟨e0, e1, e2, e3, e4, e5, e6, e7, e8, e9⟩ := hP1.br.cs
    have HQ := Lib.hid (same_fin HR.out HB2.out HPQ.out en0)
    clear hg hgd hP1
    go_wp2
    refine bodyPost_ret (v := .tuple #[en0.val, .bool false, .int .i64 9]) (by simp [results, Try.results15, go_sem, b0, b1, b2, b3, b4, b5, b6, b7, b8, b9, en0, fl0]) rfl ?_
    rw [HE.out]
    exact ⟨rfl, HQ.out⟩
end Go.Proofs.Ytpbgccidhpfmgaa
