/- The program's table: Put. Conditions: as each states. -/
import Derived.Test.YtbecilepgphpbaaFmK
namespace Go.Proofs.Ytbecilepgphpbaa
open Go Go.RowKit Go.Maps
set_option linter.unusedVariables false
set_option linter.unusedSimpArgs false

theorem TTo.step {S : TbS} {w w1 w2 : World} {B p : Nat} {F F2 : Nat → Prop} {qt qu : Int} {m : List En} (h1 : ∀ k, F2 k → F k ∨ w.heap.size ≤ k) (h2 : Tch F w w1) (h : TTo S w1 B F2 p qt qu m w2) : TTo S w B F p qt qu m w2 := by
  obtain ⟨F3, h3, h4, h5⟩ := h
  refine ⟨F3, h3, fun k hk => ?_, ?_⟩
  · rcases h4 k hk with h | h
    · exact h1 k h
    · exact .inr (Nat.le_trans h2.size h)
  · exact h2.trans' h5 (fun k hk e => by
      rcases h1 k e with h | h
      · exact h
      · omega)
theorem put_boxes (w : World) (f : Fl) : ∃ W, (w.alloc f.obj).alloc (.cells zeroE tyE) = W ∧ FlAt W w.heap.size f ∧ BxE W (w.heap.size + 1) en0 ∧ Below w.heap.size w W ∧ W.heap.size = w.heap.size + 2 := get_boxes w f
/-- What stays while Put runs: its two boxes. -/
structure PuB (w W : World) (q : Nat) (f : Fl) : Prop where
  fl : FlAt W q f
  res : BxE W (q + 1) en0
  bel : Below w.heap.size w W
  size : q + 1 < W.heap.size
theorem PuB.new {w W W' : World} {q : Nat} {f : Fl} (h : PuB w W q f) (hb : Below W.heap.size W W') : PuB w W' q f :=
  ⟨flAt_below h.fl hb (by have := h.size; omega), h.res.keep (tch_new hb) (fun h => h), bl_tr h.bel hb, Nat.lt_of_lt_of_le h.size hb.size⟩
theorem PuB.tch {T : Nat → Prop} {w W W' : World} {q : Nat} {f : Fl} (h : PuB w W q f) (ht : Tch T W W') (h1 : ¬ T q) (h2 : ¬ T (q + 1)) : FlAt W' q f ∧ BxE W' (q + 1) en0 ∧ q + 1 < W'.heap.size := by
  obtain ⟨y0, y1, y2, y3, y4⟩ := h.fl
  exact ⟨⟨ht.cell y0 h1, ht.cell y1 h1, ht.cell y2 h1, ht.cell y3 h1, ht.cell y4 h1⟩, h.res.keep ht h2, Nat.lt_of_lt_of_le h.size ht.size⟩
theorem ret_box {w W : World} {q : Nat} {f : Fl} (h : PuB w W q f) (hq : q = w.heap.size) (e : En) : ∃ W3, W3 = stE W (q + 1) e ∧ BxE W3 (q + 1) e ∧ Below w.heap.size w W3 :=
  ⟨_, rfl, h.res.set e, bl_st h.bel (by omega) e⟩
set_option maxRecDepth 100000 in
set_option maxHeartbeats 4000000 in
theorem tput_t (B p : Nat) (F : Nat → Prop) (qt qu : Int) (l : List En) (f : Fl) (dip ep now : Int) (w : World) (h : TSt w B F p qt qu l) (hB : B ≤ w.heap.size) (hn : l.length ≤ 1048576) (hf : FitF f) (hd : In32 dip) (he : InN ep) (ho : InN now) :
    Calls Try.prog 12 #[.pointer (some ⟨p, 0, none⟩), f.val, .int .u32 dip, .int .i64 ep, .int .i64 now] w (TPut TSt w B F p qt qu (putE qu f dip ep now l)) := by
  obtain ⟨W, hW, ff, hz, hb1, hsz⟩ := put_boxes w f
  obtain ⟨q, hq⟩ : ∃ q, q = w.heap.size := ⟨_, rfl⟩
  rw [← hq] at ff hz hsz
  have hpu : PuB w W q f := ⟨ff, hz, hb1, by omega⟩
  have CK := Lib.hid (chk_c f W)
  obtain ⟨d0, d1, d2, d3, d4⟩ := ff
  have HW := Lib.hid hW
  have HQ := Lib.hid hq
  have HT := Lib.hid h
  have HPU := Lib.hid hpu
  clear hW hq hz hb1 hpu h
  go_enter Try.func12, Try.ntmps12
  go_upto_region 1 with fail
  rw [HW.out, ← HQ.out]
  go_wp2_with fail
  refine CK.out.mono ?_
  rintro e w1 ⟨rfl, hb2⟩
  have HPU1 := Lib.hid (HPU.out.new hb2)
  clear hb2 CK d0 d1 d2 d3 d4
  by_cases hg : GoodF f
  · rw [show chkF f = Value.nilIface from if_pos hg]
    have hti := isT_c now w1
    have HG := Lib.hid hg
    clear hg
    by_cases hok : OkN now
    · rw [decide_eq_true hok] at hti
      have HOK := Lib.hid hok
      clear hok
      go_wp2_with fail
      refine hti.mono ?_
      rintro e w2 ⟨rfl, rfl⟩
      clear hti
      have hO := orE_c p w1
      go_wp2_with fail
      refine hO.mono ?_
      rintro e w2 ⟨rfl, rfl⟩
      clear hO
      have HT1 := Lib.hid (show TSt w1 B F p qt qu l from HT.out.keep (tch_new HPU1.out.bel) (fun _ _ h => h))
      obtain ⟨b, hF, hne, hc, hm⟩ := HT1.out.map
      have c2 := hc.cs.2.2.1
      obtain ⟨d0, d1, d2, d3, d4⟩ := HPU1.out.fl
      obtain ⟨x, hx⟩ : ∃ x, x = (findE f l).getD en0 := ⟨_, rfl⟩
      obtain ⟨s, hs⟩ : ∃ s, s = (findE f l).isSome := ⟨_, rfl⟩
      obtain ⟨r, hr⟩ : ∃ r, r = w1.heap.size := ⟨_, rfl⟩
      have hqr : q + 1 < r := by rw [hr]; exact HPU1.out.size
      have hl1 : ∀ X : World, X.heap[b]? = w1.heap[b]? → (Instr.lookup tyM (.map (some b)) f.val true).run Try.prog X = .ok (.tuple #[x.val, .bool s]) X := fun X hX => by
        rw [(hm.block hX).look hf, hx, hs]
      have k1 := hl1 w1.drew rfl
      have k2 := hl1 (w1.alloc (.cells zeroE tyE)).drew ((MapKept.heap_alloc _ _).2 b hm.lt)
      have k3 := hl1 w1 rfl
      have k4 := hl1 (w1.alloc (.cells zeroE tyE)) ((MapKept.heap_alloc _ _).2 b hm.lt)
      have HX := Lib.hid hx
      have HS := Lib.hid hs
      have HR := Lib.hid hr
      have hr' := hr.symm
      have HTB := Lib.hid hc
      have HMP := Lib.hid hm
      have HF := Lib.hid hF
      have HNE := Lib.hid hne
      clear hl1 hc hm hx hs hF hne hr
      go_upto_region 7 with fail
      go_cut [14, 15] from 29 to 39 (fun u14 u15 wx => u14 = .pointer (some ⟨r, 0, none⟩) ∧ u15 = .bool s ∧ wx = (w1.alloc x.obj).drew)
      case first =>
        have hS0 : w1.drew.cell? ⟨p, 2, none⟩ = some (.map (some b)) ∧ w1.drew.cell? ⟨q, 0, none⟩ = some (.int .i64 f.p) ∧ w1.drew.cell? ⟨q, 1, none⟩ = some (.int .u32 f.s) ∧ w1.drew.cell? ⟨q, 2, none⟩ = some (.int .i64 f.sp) ∧ w1.drew.cell? ⟨q, 3, none⟩ = some (.int .u32 f.d) ∧ w1.drew.cell? ⟨q, 4, none⟩ = some (.int .i64 f.dp) := ⟨c2, d0, d1, d2, d3, d4⟩
        go_region_held3 (fun wx => wx.cell? ⟨p, 2, none⟩ = some (.map (some b)) ∧ wx.cell? ⟨q, 0, none⟩ = some (.int .i64 f.p) ∧ wx.cell? ⟨q, 1, none⟩ = some (.int .u32 f.s) ∧ wx.cell? ⟨q, 2, none⟩ = some (.int .i64 f.sp) ∧ wx.cell? ⟨q, 3, none⟩ = some (.int .u32 f.d) ∧ wx.cell? ⟨q, 4, none⟩ = some (.int .i64 f.dp)) (first | (with_reducible exact hS0) | go_keep | fail)
          (first | fail)
        all_goals (
          go_wp2
          go_meet
          exact ⟨rfl, rfl, rfl⟩)
      case rest =>
        obtain ⟨rfl, rfl, rfl⟩ := hcut
        obtain ⟨w2, hw2⟩ : ∃ v, v = ((w1.alloc x.obj).alloc (.cells zeroE tyE)).drew := ⟨_, rfl⟩
        have hs1 : (w1.alloc x.obj).heap.size = r + 1 := by rw [← hr']; simp
        have hbb : Below w1.heap.size w1 w2 := by rw [hw2]; exact bl_dr (bl_al (bl_al (Below.refl _ _) _) _)
        have HX2 := Lib.hid (show BxE w2 r x by rw [hw2, ← hr']; exact (BxE.new w1 x).keep (tch_new (bl_dr (bl_al (Below.refl _ _) _))) (fun h => h))
        have HOU := Lib.hid (show BxE w2 (r + 1) en0 by rw [hw2, ← hs1]; exact (zero_new _).keep (tch_new (bl_dr (Below.refl _ _))) (fun h => h))
        have HPU2 := Lib.hid (HPU1.out.new hbb)
        have HTB2 := Lib.hid (HTB.out.tch (tch_new hbb) (fun h => h))
        have HMP2 := Lib.hid (HMP.out.tch (tch_new hbb) (fun h => h))
        have HT2 := Lib.hid (HT1.out.keep (tch_new hbb) (fun _ _ h => h))
        have HR2 := Lib.hid (show r + 1 < w2.heap.size by rw [hw2]; simp only [World.drew, World.size_alloc]; omega)
        have HPR := Lib.hid (show p < w.heap.size ∧ b < w.heap.size from ⟨(HT.out.blocks p HT.out.here).2, (HT.out.blocks b HF.out).2⟩)
        have HW2 := Lib.hid hw2
        clear hbb hw2 k1 k2 k3 k4 d0 d1 d2 d3 d4 c2 hr'
        go_upto_region 9 with fail
        rw [← HW2.out]
        clear hs1
        cases hs : findE f l with
        | none =>
          have hsf : s = false := by rw [HS.out, hs]; rfl
          have hxe : x = en0 := by rw [HX.out, hs]; rfl
          subst hsf
          subst hxe
          have HE0 := Lib.hid hs
          clear hs
          have t1 := HTB2.out.cs.2.1
          by_cases hq0 : qu = 0
          · have HR := Lib.hid (put_no (dip := dip) (ep := ep) HG.out HOK.out HE0.out hq0)
            have qz : (qu == 0) = true := by simp [hq0]
            clear hq0
            obtain ⟨W3, hW3, hx3, hb3⟩ := ret_box HPU2.out HQ.out en0
            obtain ⟨b0, b1, b2, b3, b4, b5, b6, b7, b8, b9⟩ := HPU2.out.res.cs
            have bf := HPU2.out.res.free
            have HB3 := Lib.hid hb3
            have hw3 := hW3
            dsimp only [stE] at hw3
            have HW3 := Lib.hid hw3
            clear hW3 hw3 hb3
            go_wp2
            have hw3 := HW3.out
            simp only [en0, fl0] at hw3
            rw [← hw3]
            obtain ⟨a0, a1, a2, a3, a4, a5, a6, a7, a8, a9⟩ := hx3.cs
            refine bodyPost_ret (v := .tuple #[en0.val, .bool false, errnoF 5]) (by simp [results, Try.results12, go_sem, a0, a1, a2, a3, a4, a5, a6, a7, a8, a9]) rfl ?_
            unfold TPut
            rw [HR.out]
            exact ⟨rfl, HT.out.stay HB3.out⟩
          · have qz : (qu == 0) = false := by simp [hq0]
            have hqp : 0 < qu := by have := HT.out.quota.2.1; omega
            have CM := mk_c B p F qt qu l w2 HT2.out (Nat.le_trans hB HPU2.out.bel.size) hn hqp
            have HQ0 := Lib.hid hq0
            clear hq0
            go_wp2_with fail
            refine CM.mono ?_
            rintro e w3 (⟨hlt, rfl, F2, hT3, hF3, ht3⟩ | ⟨hlt, o, hoo, rfl, F2, hT3, hF3, ht3⟩)
            · have HLT := Lib.hid hlt
              clear CM hlt qz t1
              have hw23 : Tch F w2 w3 := ht3
              have hFq : ∀ k, F k → k < w.heap.size := fun k hk => (HT.out.blocks k hk).2
              have hqw0 : q = w.heap.size := HQ.out
              have hnF : ∀ k, w.heap.size ≤ k → ¬ F k := fun k hk hf9 => by have := hFq k hf9; omega
              have hr1 := HR2.out
              obtain ⟨hfl3, hres3, hsz3⟩ := HPU2.out.tch hw23 (hnF q (by omega)) (hnF (q + 1) (by omega))
              have hx3 := HX2.out.keep hw23 (hnF r (by omega))
              have hou3 := HOU.out.keep hw23 (hnF (r + 1) (by omega))
              obtain ⟨b3, hF3b, hne3, hc3, hm3⟩ := hT3.map
              have HT3 := Lib.hid hT3
              have hb3c : F b3 ∨ w2.heap.size ≤ b3 := hF3 b3 hF3b
              have hbo : ¬ r = b3 ∧ ¬ r + 1 = b3 ∧ ¬ q = b3 ∧ ¬ q + 1 = b3 := by
                rcases hb3c with h | h
                · have := hFq b3 h
                  omega
                · have := hr1
                  omega
              obtain ⟨w4, hw4⟩ : ∃ v, v = stE w3 (r + 1) en0 := ⟨_, rfl⟩
              have ht4 : Tch (· = r + 1) w3 w4 := by rw [hw4]; exact stE_tch _ _ _
              have HOUF := Lib.hid (show BxE w3 (r + 1) en0 from hou3)
              have HOU4 := Lib.hid (show BxE w4 (r + 1) en0 by rw [hw4]; exact hou3.set en0)
              have hFl4 : FlAt w4 q f := by
                obtain ⟨y0, y1, y2, y3, y4⟩ := hfl3
                have hnq : ¬ q = r + 1 := by omega
                exact ⟨ht4.cell y0 hnq, ht4.cell y1 hnq, ht4.cell y2 hnq, ht4.cell y3 hnq, ht4.cell y4 hnq⟩
              have hX4 : BxE w4 r en0 := hx3.keep ht4 (fun (e : r = r + 1) => by omega)
              have hRS4 : BxE w4 (q + 1) en0 := hres3.keep ht4 (fun (e : q + 1 = r + 1) => by omega)
              have hp3 : F2 p := hT3.here
              have hpo : ¬ p = r + 1 := by have := HPR.out.1; omega
              have hpq1 : ¬ p = q + 1 := by have := HPR.out.1; omega
              have hTB4 : TbAt w4 p qt qu b3 (trE l) := hc3.tch ht4 hpo
              have hMP4 : MapS w4 b3 l := hm3.tch ht4 (fun (e : b3 = r + 1) => hbo.2.1 e.symm)
              obtain ⟨y, hy⟩ : ∃ y : En, y = ⟨f, dip, ep, false, false, now⟩ := ⟨_, rfl⟩
              have hfy : findE y.f l = none := by
                rw [hy]
                exact HE0.out
              have hln : l.length ≤ 1048576 := hn
              obtain ⟨w7, hr7, hm7, ht7, hs7⟩ := (hMP4.block (w' := w4.drew) rfl).store (m := insE y l) hln (x := y) (by rw [hy]; exact hf) (fun g => findE_ins HT3.out.srt hfy) (by rw [insE_len, hfy]; rfl)
              have hpnb : ¬ p = b3 := fun e => hne3 e.symm
              have hbw := hbo
              have HW4 := Lib.hid hw4
              dsimp only [stE] at hw4
              have HW4s := Lib.hid hw4
              have bo := HOUF.out.free
              obtain ⟨o0', o1', o2', o3', o4', o5', o6', o7', o8', o9'⟩ := HOUF.out.cs
              have HH := Lib.hid (And.intro hnF (And.intro hbo (And.intro hbw hqw0)))
              clear hw4 hqw0 hnF hbo hbw hr1
              go_upto_region 14 with fail
              have hw4 := HW4s.out
              first
                | rw [← hw4]
                | (simp only [en0, fl0] at hw4; rw [← hw4])
              clear hw4 bo o0' o1' o2' o3' o4' o5' o6' o7' o8' o9'
              obtain ⟨hnF, hbo, hbw, hqw0⟩ := HH.out
              have hr1 := HR2.out
              have hyf : y.f = f := by rw [hy] <;> rfl
              rw [hyf] at hr7
              have ht7' : Tch (· = b3) w4 w7 := ⟨ht7.os, ht7.tape, ht7.output, ht7.size, ht7.block⟩
              have hrb : ¬ r = b3 := by have := hbw; omega
              have hob : ¬ r + 1 = b3 := by have := hbw; omega
              have hqb : ¬ q = b3 := by have := hbw; omega
              have hq1b : ¬ q + 1 = b3 := by have := hbw; omega
              have hpb : ¬ p = b3 := hpnb
              obtain ⟨g0, g1, g2, g3, g4⟩ := hFl4
              obtain ⟨x0, x1, x2, x3, x4, x5, x6, x7, x8, x9⟩ := hX4.cs
              have t2 := hTB4.cs.2.2.1
              have HOU7 := Lib.hid (HOU4.out.keep ht7' hob)
              have HRS7 := Lib.hid (hRS4.keep ht7' hq1b)
              have hS0 : w4.drew.cell? ⟨p, 2, none⟩ = some (.map (some b3)) ∧ w4.drew.cell? ⟨q, 0, none⟩ = some (.int .i64 f.p) ∧ w4.drew.cell? ⟨q, 1, none⟩ = some (.int .u32 f.s) ∧ w4.drew.cell? ⟨q, 2, none⟩ = some (.int .i64 f.sp) ∧ w4.drew.cell? ⟨q, 3, none⟩ = some (.int .u32 f.d) ∧ w4.drew.cell? ⟨q, 4, none⟩ = some (.int .i64 f.dp) ∧ w4.drew.cell? ⟨r, 7, none⟩ = some (.bool false) := ⟨t2, g0, g1, g2, g3, g4, x7⟩
              have hS7 : w7.cell? ⟨p, 2, none⟩ = some (.map (some b3)) ∧ w7.cell? ⟨q, 0, none⟩ = some (.int .i64 f.p) ∧ w7.cell? ⟨q, 1, none⟩ = some (.int .u32 f.s) ∧ w7.cell? ⟨q, 2, none⟩ = some (.int .i64 f.sp) ∧ w7.cell? ⟨q, 3, none⟩ = some (.int .u32 f.d) ∧ w7.cell? ⟨q, 4, none⟩ = some (.int .i64 f.dp) ∧ w7.cell? ⟨r, 7, none⟩ = some (.bool false) := ⟨ht7'.cell t2 hpb, ht7'.cell g0 hqb, ht7'.cell g1 hqb, ht7'.cell g2 hqb, ht7'.cell g3 hqb, ht7'.cell g4 hqb, ht7'.cell x7 hrb⟩
              obtain ⟨W9, hW9⟩ : ∃ v, v = stE w7 (q + 1) en0 := ⟨_, rfl⟩
              have hx9 : BxE W9 (q + 1) en0 := by rw [hW9]; exact HRS7.out.set en0
              have ht9 : Tch (· = q + 1) w7 W9 := by rw [hW9]; exact stE_tch _ _ _
              have hqw : q = w.heap.size := HQ.out
              have HTO := Lib.hid (show TTo TSt w B F p qt qu (insE y l) W9 from by
                have hcn : trE (insE y l) = trE l := by
                  have h1 := (ins_cnt y l).1
                  rw [h1, hy]
                  simp [one]
                have h1 : Tch (fun k => k = r + 1 ∨ k = b3 ∨ k = q + 1) w3 W9 := ((ht4.mono (fun k e => .inl e)).trans (ht7'.mono (fun k e => .inr (.inl e)))).trans (ht9.mono (fun k e => .inr (.inr e)))
                have hbs := HPU2.out.bel.size
                have h2 : Tch F w W9 := (((tch_new HPU2.out.bel).mono (fun _ h => h.elim)).trans hw23).trans' h1 (fun k hk e => by
                  rcases e with e | e | e
                  · exfalso; omega
                  · rcases hb3c with h | h
                    · rw [e]; exact h
                    · exfalso; omega
                  · exfalso; omega)
                refine ⟨F2, ⟨HT3.out.srt.ins hfy, fun e hee => ?_, HT3.out.quota, HT3.out.here, fun k hk => ⟨(HT3.out.blocks k hk).1, Nat.lt_of_lt_of_le (HT3.out.blocks k hk).2 h1.size⟩, b3, hF3b, hne3, ?_, hm7.tch ht9 (fun (e : b3 = q + 1) => hbo.2.2.2 e.symm)⟩, fun k hk => (hF3 k hk).imp id (fun h => by omega), h2⟩
                · rcases insE_mem.1 hee with h | h
                  · rw [h, hy]; exact ⟨hf, hd, he, HOK.out⟩
                  · exact HT3.out.fit e h
                · rw [hcn]
                  exact ((show TbAt w4.drew p qt qu b3 (trE l) from hTB4).tch ht7 hpnb).tch ht9 (fun (e : p = q + 1) => hpq1 e))
              dsimp only [stE] at hW9
              have HW9 := Lib.hid hW9
              have HR9 := Lib.hid (show putE qu f dip ep now l = (none, 0, insE y l) by rw [hy]; exact put_room HG.out HOK.out HE0.out HQ0.out HLT.out)
              rw [hy] at hr7
              clear hqw0 hnF hbo hr1 hsz3
              clear hW9 ht9 ht7 ht7' hm7 hs7 hy g0 g1 g2 g3 g4 x0 x1 x2 x3 x4 x5 x6 x7 x8 x9 t2 hrb hob hqb hq1b hpb hpnb hbw hqw hyf
              go_region_held3 (fun wx => wx.cell? ⟨p, 2, none⟩ = some (.map (some b3)) ∧ wx.cell? ⟨q, 0, none⟩ = some (.int .i64 f.p) ∧ wx.cell? ⟨q, 1, none⟩ = some (.int .u32 f.s) ∧ wx.cell? ⟨q, 2, none⟩ = some (.int .i64 f.sp) ∧ wx.cell? ⟨q, 3, none⟩ = some (.int .u32 f.d) ∧ wx.cell? ⟨q, 4, none⟩ = some (.int .i64 f.dp) ∧ wx.cell? ⟨r, 7, none⟩ = some (.bool false)) (first | (with_reducible exact hS0) | (with_reducible exact hS7) | fail)
                (first | fail)
              clear hS0 hS7
              obtain ⟨o0, o1, o2, o3, o4, o5, o6, o7, o8, o9⟩ := HOU7.out.cs
              obtain ⟨z0, z1, z2, z3, z4, z5, z6, z7, z8, z9⟩ := HRS7.out.cs
              have bf := HRS7.out.free
              go_wp2
              have hw9 := HW9.out
              first
                | rw [← hw9]
                | (simp only [en0, fl0] at hw9; rw [← hw9])
              obtain ⟨a0, a1, a2, a3, a4, a5, a6, a7, a8, a9⟩ := hx9.cs
              refine bodyPost_ret (v := .tuple #[en0.val, .bool false, .nilIface]) (by simp [results, Try.results12, go_sem, a0, a1, a2, a3, a4, a5, a6, a7, a8, a9]) rfl ?_
              unfold TPut
              rw [HR9.out]
              exact ⟨rfl, HTO.out⟩
            · have HLT := Lib.hid hlt
              clear CM hlt qz t1
              obtain ⟨hol, hotr⟩ := old_is hoo
              have hfof := (HT.out.fit o hol).f
              clear hotr
              have hw23 : Tch F w2 w3 := ht3
              have hFq : ∀ k, F k → k < w.heap.size := fun k hk => (HT.out.blocks k hk).2
              have hqw0 : q = w.heap.size := HQ.out
              have hnF : ∀ k, w.heap.size ≤ k → ¬ F k := fun k hk hf9 => by have := hFq k hf9; omega
              have hr1 := HR2.out
              obtain ⟨hfl3, hres3, hsz3⟩ := HPU2.out.tch hw23 (hnF q (by omega)) (hnF (q + 1) (by omega))
              have hx3 := HX2.out.keep hw23 (hnF r (by omega))
              have hou3 := HOU.out.keep hw23 (hnF (r + 1) (by omega))
              obtain ⟨b3, hF3b, hne3, hc3, hm3⟩ := hT3.map
              have HT3 := Lib.hid hT3
              have hb3c : F b3 ∨ w2.heap.size ≤ b3 := hF3 b3 hF3b
              have hbo : ¬ r = b3 ∧ ¬ r + 1 = b3 ∧ ¬ q = b3 ∧ ¬ q + 1 = b3 := by
                rcases hb3c with h | h
                · have := hFq b3 h
                  omega
                · have := hr1
                  omega
              have HOUF := Lib.hid (show BxE w3 (r + 1) en0 from hou3)
              obtain ⟨w4, hw4⟩ : ∃ v, v = stE w3 (r + 1) o := ⟨_, rfl⟩
              have ht4 : Tch (· = r + 1) w3 w4 := by rw [hw4]; exact stE_tch _ _ _
              have HOU4 := Lib.hid (show BxE w4 (r + 1) o by rw [hw4]; exact hou3.set o)
              have hFl4 : FlAt w4 q f := by
                obtain ⟨y0, y1, y2, y3, y4⟩ := hfl3
                have hnq : ¬ q = r + 1 := by omega
                exact ⟨ht4.cell y0 hnq, ht4.cell y1 hnq, ht4.cell y2 hnq, ht4.cell y3 hnq, ht4.cell y4 hnq⟩
              have hX4 : BxE w4 r en0 := hx3.keep ht4 (fun (e : r = r + 1) => by omega)
              have hRS4 : BxE w4 (q + 1) en0 := hres3.keep ht4 (fun (e : q + 1 = r + 1) => by omega)
              have hp3 : F2 p := hT3.here
              have hpo : ¬ p = r + 1 := by have := HPR.out.1; omega
              have hpq1 : ¬ p = q + 1 := by have := HPR.out.1; omega
              have hTB4 : TbAt w4 p qt qu b3 (trE (cutE o.f l)) := hc3.tch ht4 hpo
              have hMP4 : MapS w4 b3 (cutE o.f l) := hm3.tch ht4 (fun (e : b3 = r + 1) => hbo.2.1 e.symm)
              obtain ⟨y, hy⟩ : ∃ y : En, y = ⟨f, dip, ep, false, false, now⟩ := ⟨_, rfl⟩
              have hfy : findE y.f (cutE o.f l) = none := by
                rw [hy]
                rw [findE_cut]; split; rfl; exact HE0.out
              have hln : (cutE o.f l).length ≤ 1048576 := Nat.le_trans (cutE_len _ _) hn
              obtain ⟨w7, hr7, hm7, ht7, hs7⟩ := (hMP4.block (w' := w4.drew) rfl).store (m := insE y (cutE o.f l)) hln (x := y) (by rw [hy]; exact hf) (fun g => findE_ins HT3.out.srt hfy) (by rw [insE_len, hfy]; rfl)
              have hpnb : ¬ p = b3 := fun e => hne3 e.symm
              have hbw := hbo
              have HW4 := Lib.hid hw4
              dsimp only [stE] at hw4
              have HW4s := Lib.hid hw4
              have bo := HOUF.out.free
              obtain ⟨o0', o1', o2', o3', o4', o5', o6', o7', o8', o9'⟩ := HOUF.out.cs
              have HH := Lib.hid (And.intro hnF (And.intro hbo (And.intro hbw hqw0)))
              clear hw4 hqw0 hnF hbo hbw hr1
              go_upto_region 14 with fail
              have hw4 := HW4s.out
              first
                | rw [← hw4]
                | (simp only [en0, fl0] at hw4; rw [← hw4])
              clear hw4 bo o0' o1' o2' o3' o4' o5' o6' o7' o8' o9'
              obtain ⟨hnF, hbo, hbw, hqw0⟩ := HH.out
              have hr1 := HR2.out
              have hyf : y.f = f := by rw [hy] <;> rfl
              rw [hyf] at hr7
              have ht7' : Tch (· = b3) w4 w7 := ⟨ht7.os, ht7.tape, ht7.output, ht7.size, ht7.block⟩
              have hrb : ¬ r = b3 := by have := hbw; omega
              have hob : ¬ r + 1 = b3 := by have := hbw; omega
              have hqb : ¬ q = b3 := by have := hbw; omega
              have hq1b : ¬ q + 1 = b3 := by have := hbw; omega
              have hpb : ¬ p = b3 := hpnb
              obtain ⟨g0, g1, g2, g3, g4⟩ := hFl4
              obtain ⟨x0, x1, x2, x3, x4, x5, x6, x7, x8, x9⟩ := hX4.cs
              have t2 := hTB4.cs.2.2.1
              have HOU7 := Lib.hid (HOU4.out.keep ht7' hob)
              have HRS7 := Lib.hid (hRS4.keep ht7' hq1b)
              have hS0 : w4.drew.cell? ⟨p, 2, none⟩ = some (.map (some b3)) ∧ w4.drew.cell? ⟨q, 0, none⟩ = some (.int .i64 f.p) ∧ w4.drew.cell? ⟨q, 1, none⟩ = some (.int .u32 f.s) ∧ w4.drew.cell? ⟨q, 2, none⟩ = some (.int .i64 f.sp) ∧ w4.drew.cell? ⟨q, 3, none⟩ = some (.int .u32 f.d) ∧ w4.drew.cell? ⟨q, 4, none⟩ = some (.int .i64 f.dp) ∧ w4.drew.cell? ⟨r, 7, none⟩ = some (.bool false) := ⟨t2, g0, g1, g2, g3, g4, x7⟩
              have hS7 : w7.cell? ⟨p, 2, none⟩ = some (.map (some b3)) ∧ w7.cell? ⟨q, 0, none⟩ = some (.int .i64 f.p) ∧ w7.cell? ⟨q, 1, none⟩ = some (.int .u32 f.s) ∧ w7.cell? ⟨q, 2, none⟩ = some (.int .i64 f.sp) ∧ w7.cell? ⟨q, 3, none⟩ = some (.int .u32 f.d) ∧ w7.cell? ⟨q, 4, none⟩ = some (.int .i64 f.dp) ∧ w7.cell? ⟨r, 7, none⟩ = some (.bool false) := ⟨ht7'.cell t2 hpb, ht7'.cell g0 hqb, ht7'.cell g1 hqb, ht7'.cell g2 hqb, ht7'.cell g3 hqb, ht7'.cell g4 hqb, ht7'.cell x7 hrb⟩
              obtain ⟨W9, hW9⟩ : ∃ v, v = stE w7 (q + 1) o := ⟨_, rfl⟩
              have hx9 : BxE W9 (q + 1) o := by rw [hW9]; exact HRS7.out.set o
              have ht9 : Tch (· = q + 1) w7 W9 := by rw [hW9]; exact stE_tch _ _ _
              have hqw : q = w.heap.size := HQ.out
              have HTO := Lib.hid (show TTo TSt w B F p qt qu (insE y (cutE o.f l)) W9 from by
                have hcn : trE (insE y (cutE o.f l)) = trE (cutE o.f l) := by
                  have h1 := (ins_cnt y (cutE o.f l)).1
                  rw [h1, hy]
                  simp [one]
                have h1 : Tch (fun k => k = r + 1 ∨ k = b3 ∨ k = q + 1) w3 W9 := ((ht4.mono (fun k e => .inl e)).trans (ht7'.mono (fun k e => .inr (.inl e)))).trans (ht9.mono (fun k e => .inr (.inr e)))
                have hbs := HPU2.out.bel.size
                have h2 : Tch F w W9 := (((tch_new HPU2.out.bel).mono (fun _ h => h.elim)).trans hw23).trans' h1 (fun k hk e => by
                  rcases e with e | e | e
                  · exfalso; omega
                  · rcases hb3c with h | h
                    · rw [e]; exact h
                    · exfalso; omega
                  · exfalso; omega)
                refine ⟨F2, ⟨HT3.out.srt.ins hfy, fun e hee => ?_, HT3.out.quota, HT3.out.here, fun k hk => ⟨(HT3.out.blocks k hk).1, Nat.lt_of_lt_of_le (HT3.out.blocks k hk).2 h1.size⟩, b3, hF3b, hne3, ?_, hm7.tch ht9 (fun (e : b3 = q + 1) => hbo.2.2.2 e.symm)⟩, fun k hk => (hF3 k hk).imp id (fun h => by omega), h2⟩
                · rcases insE_mem.1 hee with h | h
                  · rw [h, hy]; exact ⟨hf, hd, he, HOK.out⟩
                  · exact HT3.out.fit e h
                · rw [hcn]
                  exact ((show TbAt w4.drew p qt qu b3 (trE (cutE o.f l)) from hTB4).tch ht7 hpnb).tch ht9 (fun (e : p = q + 1) => hpq1 e))
              dsimp only [stE] at hW9
              have HW9 := Lib.hid hW9
              have HR9 := Lib.hid (show putE qu f dip ep now l = (some o, 0, insE y (cutE o.f l)) by rw [hy]; exact put_full HG.out HOK.out HE0.out HQ0.out (by have := HLT.out; omega) hoo)
              rw [hy] at hr7
              clear hqw0 hnF hbo hr1 hsz3
              clear hW9 ht9 ht7 ht7' hm7 hs7 hy g0 g1 g2 g3 g4 x0 x1 x2 x3 x4 x5 x6 x7 x8 x9 t2 hrb hob hqb hq1b hpb hpnb hbw hqw hyf
              go_region_held3 (fun wx => wx.cell? ⟨p, 2, none⟩ = some (.map (some b3)) ∧ wx.cell? ⟨q, 0, none⟩ = some (.int .i64 f.p) ∧ wx.cell? ⟨q, 1, none⟩ = some (.int .u32 f.s) ∧ wx.cell? ⟨q, 2, none⟩ = some (.int .i64 f.sp) ∧ wx.cell? ⟨q, 3, none⟩ = some (.int .u32 f.d) ∧ wx.cell? ⟨q, 4, none⟩ = some (.int .i64 f.dp) ∧ wx.cell? ⟨r, 7, none⟩ = some (.bool false)) (first | (with_reducible exact hS0) | (with_reducible exact hS7) | fail)
                (first | fail)
              clear hS0 hS7
              obtain ⟨o0, o1, o2, o3, o4, o5, o6, o7, o8, o9⟩ := HOU7.out.cs
              obtain ⟨z0, z1, z2, z3, z4, z5, z6, z7, z8, z9⟩ := HRS7.out.cs
              have bf := HRS7.out.free
              go_wp2
              have hw9 := HW9.out
              first
                | rw [← hw9]
                | (simp only [en0, fl0] at hw9; rw [← hw9])
              obtain ⟨a0, a1, a2, a3, a4, a5, a6, a7, a8, a9⟩ := hx9.cs
              refine bodyPost_ret (v := .tuple #[o.val, .bool true, .nilIface]) (by simp [results, Try.results12, go_sem, a0, a1, a2, a3, a4, a5, a6, a7, a8, a9]) rfl ?_
              unfold TPut
              rw [HR9.out]
              exact ⟨rfl, HTO.out⟩
        | some e0 =>
          have hst : s = true := by rw [HS.out, hs]; rfl
          have hxe : x = e0 := by rw [HX.out, hs]; rfl
          subst hst
          subst hxe
          have HE0 := Lib.hid hs
          clear hs
          obtain ⟨y, hy⟩ : ∃ y : En, y = ⟨f, dip, ep, x.tr, false, now⟩ := ⟨_, rfl⟩
          have hxm := (findE_some HE0.out).1
          have hfy : findE y.f l = some x := by rw [hy]; exact HE0.out
          obtain ⟨w7, hr7, hm7, ht7, hs7⟩ := (HMP2.out.block (w' := w2.drew) rfl).store (m := setE y l) hn (x := y) (by rw [hy]; exact hf) (fun g => findE_set HT.out.srt hfy) (by rw [setE_len, hfy]; rfl)
          have hbw : b < q := by rw [HQ.out]; exact HPR.out.2
          have hpw : p < q := by rw [HQ.out]; exact HPR.out.1
          have hpnb : ¬ p = b := fun e => HNE.out e.symm
          have hyf : y.f = f := by rw [hy] <;> rfl
          rw [hyf] at hr7
          have ht7' : Tch (· = b) w2 w7 := ⟨ht7.os, ht7.tape, ht7.output, ht7.size, ht7.block⟩
          have hrb : ¬ r = b := by have := hbw; omega
          have hob : ¬ r + 1 = b := by have := hbw; omega
          have hqb : ¬ q = b := by have := hbw; omega
          have hq1b : ¬ q + 1 = b := by have := hbw; omega
          have hpb : ¬ p = b := hpnb
          obtain ⟨g0, g1, g2, g3, g4⟩ := HPU2.out.fl
          obtain ⟨x0, x1, x2, x3, x4, x5, x6, x7, x8, x9⟩ := HX2.out.cs
          have t2 := HTB2.out.cs.2.2.1
          have HOU7 := Lib.hid (HOU.out.keep ht7' hob)
          have HRS7 := Lib.hid (HPU2.out.res.keep ht7' hq1b)
          have hS0 : w2.drew.cell? ⟨p, 2, none⟩ = some (.map (some b)) ∧ w2.drew.cell? ⟨q, 0, none⟩ = some (.int .i64 f.p) ∧ w2.drew.cell? ⟨q, 1, none⟩ = some (.int .u32 f.s) ∧ w2.drew.cell? ⟨q, 2, none⟩ = some (.int .i64 f.sp) ∧ w2.drew.cell? ⟨q, 3, none⟩ = some (.int .u32 f.d) ∧ w2.drew.cell? ⟨q, 4, none⟩ = some (.int .i64 f.dp) ∧ w2.drew.cell? ⟨r, 7, none⟩ = some (.bool x.tr) := ⟨t2, g0, g1, g2, g3, g4, x7⟩
          have hS7 : w7.cell? ⟨p, 2, none⟩ = some (.map (some b)) ∧ w7.cell? ⟨q, 0, none⟩ = some (.int .i64 f.p) ∧ w7.cell? ⟨q, 1, none⟩ = some (.int .u32 f.s) ∧ w7.cell? ⟨q, 2, none⟩ = some (.int .i64 f.sp) ∧ w7.cell? ⟨q, 3, none⟩ = some (.int .u32 f.d) ∧ w7.cell? ⟨q, 4, none⟩ = some (.int .i64 f.dp) ∧ w7.cell? ⟨r, 7, none⟩ = some (.bool x.tr) := ⟨ht7'.cell t2 hpb, ht7'.cell g0 hqb, ht7'.cell g1 hqb, ht7'.cell g2 hqb, ht7'.cell g3 hqb, ht7'.cell g4 hqb, ht7'.cell x7 hrb⟩
          obtain ⟨W9, hW9⟩ : ∃ v, v = stE w7 (q + 1) en0 := ⟨_, rfl⟩
          have hx9 : BxE W9 (q + 1) en0 := by rw [hW9]; exact HRS7.out.set en0
          have ht9 : Tch (· = q + 1) w7 W9 := by rw [hW9]; exact stE_tch _ _ _
          have hqw : q = w.heap.size := HQ.out
          have HTO := Lib.hid (show TTo TSt w B F p qt qu (setE y l) W9 from by
            have h9 : Tch (fun k => k = b ∨ k = p) w W9 := (((tch_new HPU2.out.bel).mono (fun _ h => h.elim)).trans (ht7'.mono (fun k e => .inl e))).trans' ht9 (fun k hk e => by omega)
            have hcn : trE (setE y l) = trE l := by
              have h1 := (set_cnt HT.out.srt hfy).1
              have h2 : y.tr = x.tr := by rw [hy]
              rw [h2] at h1
              omega
            refine HT.out.set HF.out HNE.out h9 (HT.out.srt.set y) (fun e hee => ?_) ?_ (hm7.tch ht9 (fun (e : b = q + 1) => by omega))
            · obtain ⟨a, ha, rfl⟩ := List.mem_map.1 hee
              split
              · rw [hy]; exact ⟨hf, hd, he, HOK.out⟩
              · exact HT.out.fit a ha
            · rw [hcn]
              exact ((show TbAt w2.drew p qt qu b (trE l) from HTB2.out).tch ht7 hpnb).tch ht9 (fun (e : p = q + 1) => by omega))
          dsimp only [stE] at hW9
          have HW9 := Lib.hid hW9
          have HR9 := Lib.hid (show putE qu f dip ep now l = (none, 0, setE y l) by rw [hy]; exact put_old HG.out HOK.out HE0.out)
          rw [hy] at hr7
          clear hW9 ht9 ht7 ht7' hm7 hs7 hy g0 g1 g2 g3 g4 x0 x1 x2 x3 x4 x5 x6 x7 x8 x9 t2 hrb hob hqb hq1b hpb hpnb hbw hqw hyf
          go_upto_region 14 with fail
          go_region_held3 (fun wx => wx.cell? ⟨p, 2, none⟩ = some (.map (some b)) ∧ wx.cell? ⟨q, 0, none⟩ = some (.int .i64 f.p) ∧ wx.cell? ⟨q, 1, none⟩ = some (.int .u32 f.s) ∧ wx.cell? ⟨q, 2, none⟩ = some (.int .i64 f.sp) ∧ wx.cell? ⟨q, 3, none⟩ = some (.int .u32 f.d) ∧ wx.cell? ⟨q, 4, none⟩ = some (.int .i64 f.dp) ∧ wx.cell? ⟨r, 7, none⟩ = some (.bool x.tr)) (first | (with_reducible exact hS0) | (with_reducible exact hS7) | fail)
            (first | fail)
          clear hS0 hS7
          obtain ⟨o0, o1, o2, o3, o4, o5, o6, o7, o8, o9⟩ := HOU7.out.cs
          obtain ⟨z0, z1, z2, z3, z4, z5, z6, z7, z8, z9⟩ := HRS7.out.cs
          have bf := HRS7.out.free
          go_wp2
          have hw9 := HW9.out
          first
            | rw [← hw9]
            | (simp only [en0, fl0] at hw9; rw [← hw9])
          obtain ⟨a0, a1, a2, a3, a4, a5, a6, a7, a8, a9⟩ := hx9.cs
          refine bodyPost_ret (v := .tuple #[en0.val, .bool false, .nilIface]) (by simp [results, Try.results12, go_sem, a0, a1, a2, a3, a4, a5, a6, a7, a8, a9]) rfl ?_
          unfold TPut
          rw [HR9.out]
          exact ⟨rfl, HTO.out⟩
    · rw [decide_eq_false hok] at hti
      have HR := Lib.hid (put_late (qu := qu) (dip := dip) (ep := ep) (l := l) HG.out hok)
      clear hok
      go_wp2_with fail
      refine hti.mono ?_
      rintro e w2 ⟨rfl, rfl⟩
      clear hti
      obtain ⟨W3, hW3, hx3, hb3⟩ := ret_box HPU1.out HQ.out en0
      obtain ⟨b0, b1, b2, b3, b4, b5, b6, b7, b8, b9⟩ := HPU1.out.res.cs
      have bf := HPU1.out.res.free
      have HB3 := Lib.hid hb3
      have hw3 := hW3
      dsimp only [stE] at hw3
      have HW3 := Lib.hid hw3
      clear hW3 hw3 hb3
      go_wp2
      have hw3 := HW3.out
      simp only [en0, fl0] at hw3
      rw [← hw3]
      obtain ⟨a0, a1, a2, a3, a4, a5, a6, a7, a8, a9⟩ := hx3.cs
      refine bodyPost_ret (v := .tuple #[en0.val, .bool false, errnoF 4]) (by simp [results, Try.results12, go_sem, a0, a1, a2, a3, a4, a5, a6, a7, a8, a9]) rfl ?_
      unfold TPut
      rw [HR.out]
      exact ⟨rfl, HT.out.stay HB3.out⟩
  · rw [show chkF f = errnoF 9 from if_neg hg]
    have HR := Lib.hid (put_form (qu := qu) (dip := dip) (ep := ep) (now := now) (l := l) hg)
    clear hg
    obtain ⟨W3, hW3, hx3, hb3⟩ := ret_box HPU1.out HQ.out en0
    obtain ⟨b0, b1, b2, b3, b4, b5, b6, b7, b8, b9⟩ := HPU1.out.res.cs
    have bf := HPU1.out.res.free
    have HB3 := Lib.hid hb3
    have hw3 := hW3
    dsimp only [stE] at hw3
    have HW3 := Lib.hid hw3
    clear hW3 hw3 hb3
    go_wp2
    have hw3 := HW3.out
    simp only [en0, fl0] at hw3
    rw [← hw3]
    obtain ⟨a0, a1, a2, a3, a4, a5, a6, a7, a8, a9⟩ := hx3.cs
    refine bodyPost_ret (v := .tuple #[en0.val, .bool false, errnoF 9]) (by simp [results, Try.results12, go_sem, a0, a1, a2, a3, a4, a5, a6, a7, a8, a9]) rfl ?_
    unfold TPut
    rw [HR.out]
    exact ⟨rfl, HT.out.stay HB3.out⟩
end Go.Proofs.Ytbecilepgphpbaa
