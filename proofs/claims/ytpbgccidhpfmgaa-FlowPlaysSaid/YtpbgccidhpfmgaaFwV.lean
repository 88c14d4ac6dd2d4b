/- The document's table: Touch. Conditions: at most 2^20 entries. -/
import Derived.Test.YtpbgccidhpfmgaaFwU
namespace Go.Proofs.Ytpbgccidhpfmgaa
open Go Go.RowKit
set_option linter.unusedVariables false
set_option linter.unusedSimpArgs false

theorem touch_some {qt : Int} {f : Fl} {flags now : Int} {l : List En} {e : En} (h : findE f l = some e) (ho : OkN now) : touchE qt f flags now l = (true, setE (tchE qt flags now (trE l) e) l) := by
  unfold touchE
  rw [h]
  exact if_pos ho
theorem touch_none {qt : Int} {f : Fl} {flags now : Int} {l : List En} (h : findE f l = none) : touchE qt f flags now l = (false, l) := by
  unfold touchE
  rw [h]
theorem touch_late {qt : Int} {f : Fl} {flags now : Int} {l : List En} (ho : ¬ OkN now) : touchE qt f flags now l = (false, l) := by
  unfold touchE
  split
  · rfl
  · exact if_neg ho
def RTch (w : World) (B m : Nat) (F : Nat → Prop) (qt qu : Int) (r : Bool × List En) (e : Ending) (w' : World) : Prop :=
  e = .returned (.bool r.1) ∧ ∃ F2, RtTo w B F m qt qu r.2 F2 w'
theorem touch_fin {w w3 : World} {B m n c g i : Nat} {F : Nat → Prop} {qt qu : Int} {l : List En} (hM3 : RtM w3 B m qt qu l (some ⟨g, 0, none⟩) n c) (hF : ∀ k, F k ↔ k = m ∨ (Value.slice (some ⟨g, 0, none⟩) n c).ownBlock = some k) (hR0 : RtS w B F m qt qu l) (hb : Below w.heap.size w w3) (hs : SrtE l) (hi : i < l.length) (y : En) (hy : y.f = (l.getD i en0).f) :
    ∃ F2, RtTo w B F m qt qu (setE y l) F2 (stO w3 g (i * 10) y).drew := by
  have h1 := RtS.set hM3 hF hi y
  rw [set_is hs hi hy] at h1
  have h2 := h1.trans (RtTo.same h1.1 (tch_new ((Below.refl (stO w3 g (i * 10) y).heap.size (stO w3 g (i * 10) y)).drew)))
  exact ⟨F, (RtTo.same hR0 (tch_new hb)).trans h2⟩
theorem tch_is {qt flags now : Int} {n : Nat} {x : En} {tr cl : Bool} (h1 : (x.tr || (!synB x.f.p flags && decide ((n : Int) < qt))) = tr) (h2 : (if finB x.f.p flags then true else if synB x.f.p flags then false else x.cl) = cl) : tchE qt flags now n x = ⟨x.f, x.dip, x.ep, tr, cl, now⟩ := by
  unfold tchE
  rw [h1, h2]
set_option maxRecDepth 100000 in
set_option maxHeartbeats 8000000 in
theorem refTouch_c (B m : Nat) (F : Nat → Prop) (qt qu : Int) (l : List En) (f : Fl) (flags now : Int) (w : World) (hR : RtS w B F m qt qu l) (hs : SrtE l) (hn : l.length ≤ 1048576) :
    Calls Try.prog 18 #[.pointer (some ⟨m, 0, none⟩), f.val, .int .i64 flags, .int .i64 now] w (RTch w B m F qt qu (touchE qt f flags now l)) := by
  obtain ⟨ao, n, c, hM, hF⟩ := hR.here
  have hlen := ownE_len hM.row
  obtain ⟨W, hW⟩ : ∃ W, W = w.alloc f.obj := ⟨_, rfl⟩
  have hb1 : Below w.heap.size w W := by rw [hW]; exact bl_al (Below.refl _ _) _
  have hf : FlAt W w.heap.size f := by rw [hW]; exact flAt_new w f
  have hMW := hM.keep (tch_new hb1) (fun h => h) (fun _ _ h => h)
  have CF := Lib.hid (refFind_c B m n c qt qu f l ao W hMW (by omega))
  obtain ⟨p, hp⟩ : ∃ p, p = w.heap.size := ⟨_, rfl⟩
  rw [← hp] at hf
  have HFA := Lib.hid hf
  obtain ⟨d0, d1, d2, d3, d4⟩ := hf
  have HW := Lib.hid hW
  have HP := Lib.hid hp
  have HB1 := Lib.hid hb1
  have HR0 := Lib.hid hR
  have HM := Lib.hid (And.intro hMW hF)
  have HS := Lib.hid hs
  clear hR hM hW hb1 hMW hp hF hs
  have CT := Lib.hid (refTime_c now)
  go_enter Try.func18, Try.ntmps18
  go_upto_region 1 with fail
  rw [← HW.out, ← HP.out]
  go_wp2_with fail
  refine CF.out.mono ?_
  rintro e w1 ⟨⟨k, rfl, hK⟩, hb⟩
  have HBB := Lib.hid (HB1.out.trans (hb.mono HB1.out.size))
  have hM1 := HM.out.1.keep (tch_new hb) (fun h => h) (fun _ _ h => h)
  have hfa := flAt_below HFA.out hb (block_lt_of_cell HFA.out.1)
  have q0 := hM1.c0
  have HM1 := Lib.hid hM1
  clear CF hb d0 d1 d2 d3 d4
  rcases hK with ⟨rfl, h1⟩ | ⟨i, rfl, h2, h3, h1⟩
  · have HE := Lib.hid (touch_none (qt := qt) (flags := flags) (now := now) h1)
    have HQ : Hid (∃ F2, RtTo w B F m qt qu l F2 w1) := Lib.hid ⟨F, RtTo.same HR0.out (tch_new HBB.out)⟩
    clear hM1 h1 hfa
    go_wp2
    go_ret
    rw [HE.out]
    exact ⟨rfl, HQ.out⟩
  · have ii : (i : Int) < (n : Int) := by omega
    have i0 : (0 : Int) ≤ (i : Int) := by omega
    by_cases ho : OkN now
    · have HO := Lib.hid ho
      have ho1 := ho.1
      have ho2 := ho.2
      have hd : decide (OkN now) = true := decide_eq_true ho
      rw [hd] at CT
      obtain ⟨x, hx⟩ : ∃ x, x = l.getD i en0 := ⟨_, rfl⟩
      obtain ⟨g, rfl, _, hE⟩ := ownE_cell hM1.row (j := i) (by omega)
      rw [← hx] at hE h1 h3
      have HX := Lib.hid (And.intro hx h3)
      have HE := Lib.hid (touch_some (qt := qt) (flags := flags) h1 ho)
      have HI : Hid (i < l.length) := Lib.hid h2
      obtain ⟨c0, c1, c2, c3, c4, c5, c6, c7, c8, c9⟩ := hE
      have hq1 : FlAt w1 p f := hfa
      obtain ⟨e0, e1, e2, e3, e4⟩ := hq1
      have CL := Lib.hid (fun (U : World) (ht : Below w1.heap.size w1 U) => refLen_c B m n c qt qu l (some ⟨g, 0, none⟩) U (HM1.out.keep (tch_new ht) (fun h => h) (fun _ _ h => h)) (by omega))
      clear hM1 h1 hx h3 hd ho h2 hfa
      cases qa : (f.p == 6) with
      | false =>
        have HFS : Hid (finB f.p flags = false ∧ synB f.p flags = false) := Lib.hid (by unfold finB synB; rw [qa]; exact ⟨rfl, rfl⟩)
        go_wp2_with fail
        refine (CT.out w1).mono ?_
        rintro e w2 ⟨rfl, rfl⟩
        have ea : ∀ o, (w2.alloc o).cell? ⟨p, 0, none⟩ = some (.int .i64 f.p) := fun o => ((bl_al (Below.refl w2.heap.size w2) o).cell (p := ⟨p, 0, none⟩) (block_lt_of_cell e0)).trans e0
        go_wp2_with fail
        refine (CL.out _ (bl_al (Below.refl _ _) _)).mono ?_
        rintro e w3 ⟨rfl, hb3⟩
        have hz3 := (BxE.new w2 ⟨x.f, x.dip, x.ep, x.tr, x.cl, now⟩).keep (tch_new hb3) (fun h => h)
        have hb23 : Below w2.heap.size w2 w3 := (bl_al (Below.refl w2.heap.size w2) (En.obj ⟨x.f, x.dip, x.ep, x.tr, x.cl, now⟩)).trans (hb3.mono (by simp))
        have hM3 := HM1.out.keep (tch_new hb23) (fun h => h) (fun _ _ h => h)
        obtain ⟨y0, y1, y2, y3, y4, y5, y6, y7, y8, y9⟩ := hz3.cs
        have yf := hz3.free
        have r0 := hM3.c0
        have r1 := hM3.c1
        obtain ⟨g', eg, _, hE3⟩ := ownE_cell hM3.row (j := i) (by omega)
        cases eg
        rw [← HX.out.1] at hE3
        obtain ⟨z0, z1, z2, z3, z4, z5, z6, z7, z8, z9⟩ := hE3
        have zf := hM3.freeR
        have HMQ : Hid (m < w2.heap.size ∧ g < w2.heap.size) := Lib.hid ⟨HM1.out.lt, block_lt_of_cell c0⟩
        have HM3 := Lib.hid hM3
        have HB3 := Lib.hid (HBB.out.trans (hb23.mono HBB.out.size))
        have HCL : Hid ((if finB x.f.p flags then true else if synB x.f.p flags then false else x.cl) = x.cl ∧ synB x.f.p flags = false) := Lib.hid (by rw [HX.out.2, HFS.out.1, HFS.out.2]; exact ⟨rfl, rfl⟩)
        have hgq : ¬ g = w2.heap.size := by have := HMQ.out.2; omega
        have hmq : ¬ m = w2.heap.size := by have := HMQ.out.1; omega
        have s0 : ∀ v, (w3.setCell ⟨w2.heap.size, 7, none⟩ v).cell? ⟨m, 0, none⟩ = some (.slice (some ⟨g, 0, none⟩) n c) := fun v => (tch_set w3 ⟨w2.heap.size, 7, none⟩ v).cell r0 hmq
        clear hM3 hz3 hb3 hb23 c0 c1 c2 c3 c4 c5 c6 c7 c8 c9 e0 e1 e2 e3 e4 q0 CL CT ea
        cases ht : x.tr with
        | true =>
          simp only [ht] at y7 z7
          have HY0 : Hid (tchE qt flags now (trE l) x = ⟨x.f, x.dip, x.ep, true, x.cl, now⟩) := Lib.hid (tch_is (by rw [ht]; rfl) HCL.out.1)
          go_upto_region 15 with fail
          go_region
          have HY := HY0
          have HQ := Lib.hid (touch_fin (HM3.out) HM.out.2 HR0.out (HB3.out) HS.out HI.out ⟨x.f, x.dip, x.ep, true, x.cl, now⟩ (by rw [← HX.out.1]))
          rw [← HY.out] at HQ
          go_wp2
          go_ret
          rw [HE.out]
          exact ⟨rfl, by rw [HY.out] at HQ ⊢; exact HQ.out⟩
        | false =>
          simp only [ht] at y7 z7
          by_cases hq : (trE l : Int) < qt
          · have HY0 : Hid (tchE qt flags now (trE l) x = ⟨x.f, x.dip, x.ep, true, x.cl, now⟩) := Lib.hid (tch_is (by rw [ht, HCL.out.2, decide_eq_true hq]; rfl) HCL.out.1)
            go_upto_region 15 with fail
            go_region
            have HY := HY0
            have HQ := Lib.hid (touch_fin (HM3.out.keep (tch_set w3 ⟨w2.heap.size, 7, none⟩ (.bool true)) hmq (fun k hk e => by cases hk; exact hgq e)) HM.out.2 HR0.out (HB3.out.trans ((tch_set w3 ⟨w2.heap.size, 7, none⟩ (.bool true)).below (fun k hk => by subst hk; exact HBB.out.size) HB3.out.size)) HS.out HI.out ⟨x.f, x.dip, x.ep, true, x.cl, now⟩ (by rw [← HX.out.1]))
            rw [← HY.out] at HQ
            go_wp2
            go_ret
            rw [HE.out]
            exact ⟨rfl, by rw [HY.out] at HQ ⊢; exact HQ.out⟩
          · have HY0 : Hid (tchE qt flags now (trE l) x = ⟨x.f, x.dip, x.ep, false, x.cl, now⟩) := Lib.hid (tch_is (by rw [ht, HCL.out.2, decide_eq_false hq]; rfl) HCL.out.1)
            go_upto_region 15 with fail
            go_region
            have HY := HY0
            have HQ := Lib.hid (touch_fin (HM3.out) HM.out.2 HR0.out (HB3.out) HS.out HI.out ⟨x.f, x.dip, x.ep, false, x.cl, now⟩ (by rw [← HX.out.1]))
            rw [← HY.out] at HQ
            go_wp2
            go_ret
            rw [HE.out]
            exact ⟨rfl, by rw [HY.out] at HQ ⊢; exact HQ.out⟩
      | true =>
        have HU : Hid (finB f.p flags = (bits .and .i64 flags 1 == 1 || bits .and .i64 flags 4 == 4) ∧ synB f.p flags = (bits .and .i64 flags 2 == 2)) := Lib.hid (by unfold finB synB; rw [qa]; exact ⟨rfl, rfl⟩)
        cases k1 : (bits .and .i64 flags 1 == 1) with
        | true =>
          cases k2 : (bits .and .i64 flags 2 == 2) with
          | true =>
            have HFS : Hid (finB f.p flags = true ∧ synB f.p flags = true) := Lib.hid (by rw [HU.out.1, HU.out.2, k1, k2]; exact ⟨rfl, rfl⟩)
            go_wp2_with fail
            refine (CT.out w1).mono ?_
            rintro e w2 ⟨rfl, rfl⟩
            have ea : ∀ o, (w2.alloc o).cell? ⟨p, 0, none⟩ = some (.int .i64 f.p) := fun o => ((bl_al (Below.refl w2.heap.size w2) o).cell (p := ⟨p, 0, none⟩) (block_lt_of_cell e0)).trans e0
            go_wp2_with fail
            refine (CL.out _ (bl_al (Below.refl _ _) _)).mono ?_
            rintro e w3 ⟨rfl, hb3⟩
            have hz3 := (BxE.new w2 ⟨x.f, x.dip, x.ep, x.tr, true, now⟩).keep (tch_new hb3) (fun h => h)
            have hb23 : Below w2.heap.size w2 w3 := (bl_al (Below.refl w2.heap.size w2) (En.obj ⟨x.f, x.dip, x.ep, x.tr, true, now⟩)).trans (hb3.mono (by simp))
            have hM3 := HM1.out.keep (tch_new hb23) (fun h => h) (fun _ _ h => h)
            obtain ⟨y0, y1, y2, y3, y4, y5, y6, y7, y8, y9⟩ := hz3.cs
            have yf := hz3.free
            have r0 := hM3.c0
            have r1 := hM3.c1
            obtain ⟨g', eg, _, hE3⟩ := ownE_cell hM3.row (j := i) (by omega)
            cases eg
            rw [← HX.out.1] at hE3
            obtain ⟨z0, z1, z2, z3, z4, z5, z6, z7, z8, z9⟩ := hE3
            have zf := hM3.freeR
            have HMQ : Hid (m < w2.heap.size ∧ g < w2.heap.size) := Lib.hid ⟨HM1.out.lt, block_lt_of_cell c0⟩
            have HM3 := Lib.hid hM3
            have HB3 := Lib.hid (HBB.out.trans (hb23.mono HBB.out.size))
            have HCL : Hid ((if finB x.f.p flags then true else if synB x.f.p flags then false else x.cl) = true ∧ synB x.f.p flags = true) := Lib.hid (by rw [HX.out.2, HFS.out.1, HFS.out.2]; exact ⟨rfl, rfl⟩)
            have hgq : ¬ g = w2.heap.size := by have := HMQ.out.2; omega
            have hmq : ¬ m = w2.heap.size := by have := HMQ.out.1; omega
            have s0 : ∀ v, (w3.setCell ⟨w2.heap.size, 7, none⟩ v).cell? ⟨m, 0, none⟩ = some (.slice (some ⟨g, 0, none⟩) n c) := fun v => (tch_set w3 ⟨w2.heap.size, 7, none⟩ v).cell r0 hmq
            clear hM3 hz3 hb3 hb23 c0 c1 c2 c3 c4 c5 c6 c7 c8 c9 e0 e1 e2 e3 e4 q0 CL CT ea
            cases ht : x.tr with
            | true =>
              simp only [ht] at y7 z7
              have HY0 : Hid (tchE qt flags now (trE l) x = ⟨x.f, x.dip, x.ep, true, true, now⟩) := Lib.hid (tch_is (by rw [ht]; rfl) HCL.out.1)
              go_upto_region 15 with fail
              go_region
              have HY := HY0
              have HQ := Lib.hid (touch_fin (HM3.out) HM.out.2 HR0.out (HB3.out) HS.out HI.out ⟨x.f, x.dip, x.ep, true, true, now⟩ (by rw [← HX.out.1]))
              rw [← HY.out] at HQ
              go_wp2
              go_ret
              rw [HE.out]
              exact ⟨rfl, by rw [HY.out] at HQ ⊢; exact HQ.out⟩
            | false =>
              simp only [ht] at y7 z7
              have HY0 : Hid (tchE qt flags now (trE l) x = ⟨x.f, x.dip, x.ep, false, true, now⟩) := Lib.hid (tch_is (by rw [ht, HCL.out.2]; rfl) HCL.out.1)
              go_upto_region 15 with fail
              go_region
              have HY := HY0
              have HQ := Lib.hid (touch_fin (HM3.out) HM.out.2 HR0.out (HB3.out) HS.out HI.out ⟨x.f, x.dip, x.ep, false, true, now⟩ (by rw [← HX.out.1]))
              rw [← HY.out] at HQ
              go_wp2
              go_ret
              rw [HE.out]
              exact ⟨rfl, by rw [HY.out] at HQ ⊢; exact HQ.out⟩
          | false =>
            have HFS : Hid (finB f.p flags = true ∧ synB f.p flags = false) := Lib.hid (by rw [HU.out.1, HU.out.2, k1, k2]; exact ⟨rfl, rfl⟩)
            go_wp2_with fail
            refine (CT.out w1).mono ?_
            rintro e w2 ⟨rfl, rfl⟩
            have ea : ∀ o, (w2.alloc o).cell? ⟨p, 0, none⟩ = some (.int .i64 f.p) := fun o => ((bl_al (Below.refl w2.heap.size w2) o).cell (p := ⟨p, 0, none⟩) (block_lt_of_cell e0)).trans e0
            go_wp2_with fail
            refine (CL.out _ (bl_al (Below.refl _ _) _)).mono ?_
            rintro e w3 ⟨rfl, hb3⟩
            have hz3 := (BxE.new w2 ⟨x.f, x.dip, x.ep, x.tr, true, now⟩).keep (tch_new hb3) (fun h => h)
            have hb23 : Below w2.heap.size w2 w3 := (bl_al (Below.refl w2.heap.size w2) (En.obj ⟨x.f, x.dip, x.ep, x.tr, true, now⟩)).trans (hb3.mono (by simp))
            have hM3 := HM1.out.keep (tch_new hb23) (fun h => h) (fun _ _ h => h)
            obtain ⟨y0, y1, y2, y3, y4, y5, y6, y7, y8, y9⟩ := hz3.cs
            have yf := hz3.free
            have r0 := hM3.c0
            have r1 := hM3.c1
            obtain ⟨g', eg, _, hE3⟩ := ownE_cell hM3.row (j := i) (by omega)
            cases eg
            rw [← HX.out.1] at hE3
            obtain ⟨z0, z1, z2, z3, z4, z5, z6, z7, z8, z9⟩ := hE3
            have zf := hM3.freeR
            have HMQ : Hid (m < w2.heap.size ∧ g < w2.heap.size) := Lib.hid ⟨HM1.out.lt, block_lt_of_cell c0⟩
            have HM3 := Lib.hid hM3
            have HB3 := Lib.hid (HBB.out.trans (hb23.mono HBB.out.size))
            have HCL : Hid ((if finB x.f.p flags then true else if synB x.f.p flags then false else x.cl) = true ∧ synB x.f.p flags = false) := Lib.hid (by rw [HX.out.2, HFS.out.1, HFS.out.2]; exact ⟨rfl, rfl⟩)
            have hgq : ¬ g = w2.heap.size := by have := HMQ.out.2; omega
            have hmq : ¬ m = w2.heap.size := by have := HMQ.out.1; omega
            have s0 : ∀ v, (w3.setCell ⟨w2.heap.size, 7, none⟩ v).cell? ⟨m, 0, none⟩ = some (.slice (some ⟨g, 0, none⟩) n c) := fun v => (tch_set w3 ⟨w2.heap.size, 7, none⟩ v).cell r0 hmq
            clear hM3 hz3 hb3 hb23 c0 c1 c2 c3 c4 c5 c6 c7 c8 c9 e0 e1 e2 e3 e4 q0 CL CT ea
            cases ht : x.tr with
            | true =>
              simp only [ht] at y7 z7
              have HY0 : Hid (tchE qt flags now (trE l) x = ⟨x.f, x.dip, x.ep, true, true, now⟩) := Lib.hid (tch_is (by rw [ht]; rfl) HCL.out.1)
              go_upto_region 15 with fail
              go_region
              have HY := HY0
              have HQ := Lib.hid (touch_fin (HM3.out) HM.out.2 HR0.out (HB3.out) HS.out HI.out ⟨x.f, x.dip, x.ep, true, true, now⟩ (by rw [← HX.out.1]))
              rw [← HY.out] at HQ
              go_wp2
              go_ret
              rw [HE.out]
              exact ⟨rfl, by rw [HY.out] at HQ ⊢; exact HQ.out⟩
            | false =>
              simp only [ht] at y7 z7
              by_cases hq : (trE l : Int) < qt
              · have HY0 : Hid (tchE qt flags now (trE l) x = ⟨x.f, x.dip, x.ep, true, true, now⟩) := Lib.hid (tch_is (by rw [ht, HCL.out.2, decide_eq_true hq]; rfl) HCL.out.1)
                go_upto_region 15 with fail
                go_region
                have HY := HY0
                have HQ := Lib.hid (touch_fin (HM3.out.keep (tch_set w3 ⟨w2.heap.size, 7, none⟩ (.bool true)) hmq (fun k hk e => by cases hk; exact hgq e)) HM.out.2 HR0.out (HB3.out.trans ((tch_set w3 ⟨w2.heap.size, 7, none⟩ (.bool true)).below (fun k hk => by subst hk; exact HBB.out.size) HB3.out.size)) HS.out HI.out ⟨x.f, x.dip, x.ep, true, true, now⟩ (by rw [← HX.out.1]))
                rw [← HY.out] at HQ
                go_wp2
                go_ret
                rw [HE.out]
                exact ⟨rfl, by rw [HY.out] at HQ ⊢; exact HQ.out⟩
              · have HY0 : Hid (tchE qt flags now (trE l) x = ⟨x.f, x.dip, x.ep, false, true, now⟩) := Lib.hid (tch_is (by rw [ht, HCL.out.2, decide_eq_false hq]; rfl) HCL.out.1)
                go_upto_region 15 with fail
                go_region
                have HY := HY0
                have HQ := Lib.hid (touch_fin (HM3.out) HM.out.2 HR0.out (HB3.out) HS.out HI.out ⟨x.f, x.dip, x.ep, false, true, now⟩ (by rw [← HX.out.1]))
                rw [← HY.out] at HQ
                go_wp2
                go_ret
                rw [HE.out]
                exact ⟨rfl, by rw [HY.out] at HQ ⊢; exact HQ.out⟩
        | false =>
          cases k4 : (bits .and .i64 flags 4 == 4) with
          | true =>
            cases k2 : (bits .and .i64 flags 2 == 2) with
            | true =>
              have HFS : Hid (finB f.p flags = true ∧ synB f.p flags = true) := Lib.hid (by rw [HU.out.1, HU.out.2, k1, k2, k4]; exact ⟨rfl, rfl⟩)
              go_wp2_with fail
              refine (CT.out w1).mono ?_
              rintro e w2 ⟨rfl, rfl⟩
              have ea : ∀ o, (w2.alloc o).cell? ⟨p, 0, none⟩ = some (.int .i64 f.p) := fun o => ((bl_al (Below.refl w2.heap.size w2) o).cell (p := ⟨p, 0, none⟩) (block_lt_of_cell e0)).trans e0
              go_wp2_with fail
              refine (CL.out _ (bl_al (Below.refl _ _) _)).mono ?_
              rintro e w3 ⟨rfl, hb3⟩
              have hz3 := (BxE.new w2 ⟨x.f, x.dip, x.ep, x.tr, true, now⟩).keep (tch_new hb3) (fun h => h)
              have hb23 : Below w2.heap.size w2 w3 := (bl_al (Below.refl w2.heap.size w2) (En.obj ⟨x.f, x.dip, x.ep, x.tr, true, now⟩)).trans (hb3.mono (by simp))
              have hM3 := HM1.out.keep (tch_new hb23) (fun h => h) (fun _ _ h => h)
              obtain ⟨y0, y1, y2, y3, y4, y5, y6, y7, y8, y9⟩ := hz3.cs
              have yf := hz3.free
              have r0 := hM3.c0
              have r1 := hM3.c1
              obtain ⟨g', eg, _, hE3⟩ := ownE_cell hM3.row (j := i) (by omega)
              cases eg
              rw [← HX.out.1] at hE3
              obtain ⟨z0, z1, z2, z3, z4, z5, z6, z7, z8, z9⟩ := hE3
              have zf := hM3.freeR
              have HMQ : Hid (m < w2.heap.size ∧ g < w2.heap.size) := Lib.hid ⟨HM1.out.lt, block_lt_of_cell c0⟩
              have HM3 := Lib.hid hM3
              have HB3 := Lib.hid (HBB.out.trans (hb23.mono HBB.out.size))
              have HCL : Hid ((if finB x.f.p flags then true else if synB x.f.p flags then false else x.cl) = true ∧ synB x.f.p flags = true) := Lib.hid (by rw [HX.out.2, HFS.out.1, HFS.out.2]; exact ⟨rfl, rfl⟩)
              have hgq : ¬ g = w2.heap.size := by have := HMQ.out.2; omega
              have hmq : ¬ m = w2.heap.size := by have := HMQ.out.1; omega
              have s0 : ∀ v, (w3.setCell ⟨w2.heap.size, 7, none⟩ v).cell? ⟨m, 0, none⟩ = some (.slice (some ⟨g, 0, none⟩) n c) := fun v => (tch_set w3 ⟨w2.heap.size, 7, none⟩ v).cell r0 hmq
              clear hM3 hz3 hb3 hb23 c0 c1 c2 c3 c4 c5 c6 c7 c8 c9 e0 e1 e2 e3 e4 q0 CL CT ea
              cases ht : x.tr with
              | true =>
                simp only [ht] at y7 z7
                have HY0 : Hid (tchE qt flags now (trE l) x = ⟨x.f, x.dip, x.ep, true, true, now⟩) := Lib.hid (tch_is (by rw [ht]; rfl) HCL.out.1)
                go_upto_region 15 with fail
                go_region
                have HY := HY0
                have HQ := Lib.hid (touch_fin (HM3.out) HM.out.2 HR0.out (HB3.out) HS.out HI.out ⟨x.f, x.dip, x.ep, true, true, now⟩ (by rw [← HX.out.1]))
                rw [← HY.out] at HQ
                go_wp2
                go_ret
                rw [HE.out]
                exact ⟨rfl, by rw [HY.out] at HQ ⊢; exact HQ.out⟩
              | false =>
                simp only [ht] at y7 z7
                have HY0 : Hid (tchE qt flags now (trE l) x = ⟨x.f, x.dip, x.ep, false, true, now⟩) := Lib.hid (tch_is (by rw [ht, HCL.out.2]; rfl) HCL.out.1)
                go_upto_region 15 with fail
                go_region
                have HY := HY0
                have HQ := Lib.hid (touch_fin (HM3.out) HM.out.2 HR0.out (HB3.out) HS.out HI.out ⟨x.f, x.dip, x.ep, false, true, now⟩ (by rw [← HX.out.1]))
                rw [← HY.out] at HQ
                go_wp2
                go_ret
                rw [HE.out]
                exact ⟨rfl, by rw [HY.out] at HQ ⊢; exact HQ.out⟩
            | false =>
              have HFS : Hid (finB f.p flags = true ∧ synB f.p flags = false) := Lib.hid (by rw [HU.out.1, HU.out.2, k1, k2, k4]; exact ⟨rfl, rfl⟩)
              go_wp2_with fail
              refine (CT.out w1).mono ?_
              rintro e w2 ⟨rfl, rfl⟩
              have ea : ∀ o, (w2.alloc o).cell? ⟨p, 0, none⟩ = some (.int .i64 f.p) := fun o => ((bl_al (Below.refl w2.heap.size w2) o).cell (p := ⟨p, 0, none⟩) (block_lt_of_cell e0)).trans e0
              go_wp2_with fail
              refine (CL.out _ (bl_al (Below.refl _ _) _)).mono ?_
              rintro e w3 ⟨rfl, hb3⟩
              have hz3 := (BxE.new w2 ⟨x.f, x.dip, x.ep, x.tr, true, now⟩).keep (tch_new hb3) (fun h => h)
              have hb23 : Below w2.heap.size w2 w3 := (bl_al (Below.refl w2.heap.size w2) (En.obj ⟨x.f, x.dip, x.ep, x.tr, true, now⟩)).trans (hb3.mono (by simp))
              have hM3 := HM1.out.keep (tch_new hb23) (fun h => h) (fun _ _ h => h)
              obtain ⟨y0, y1, y2, y3, y4, y5, y6, y7, y8, y9⟩ := hz3.cs
              have yf := hz3.free
              have r0 := hM3.c0
              have r1 := hM3.c1
              obtain ⟨g', eg, _, hE3⟩ := ownE_cell hM3.row (j := i) (by omega)
              cases eg
              rw [← HX.out.1] at hE3
              obtain ⟨z0, z1, z2, z3, z4, z5, z6, z7, z8, z9⟩ := hE3
              have zf := hM3.freeR
              have HMQ : Hid (m < w2.heap.size ∧ g < w2.heap.size) := Lib.hid ⟨HM1.out.lt, block_lt_of_cell c0⟩
              have HM3 := Lib.hid hM3
              have HB3 := Lib.hid (HBB.out.trans (hb23.mono HBB.out.size))
              have HCL : Hid ((if finB x.f.p flags then true else if synB x.f.p flags then false else x.cl) = true ∧ synB x.f.p flags = false) := Lib.hid (by rw [HX.out.2, HFS.out.1, HFS.out.2]; exact ⟨rfl, rfl⟩)
              have hgq : ¬ g = w2.heap.size := by have := HMQ.out.2; omega
              have hmq : ¬ m = w2.heap.size := by have := HMQ.out.1; omega
              have s0 : ∀ v, (w3.setCell ⟨w2.heap.size, 7, none⟩ v).cell? ⟨m, 0, none⟩ = some (.slice (some ⟨g, 0, none⟩) n c) := fun v => (tch_set w3 ⟨w2.heap.size, 7, none⟩ v).cell r0 hmq
              clear hM3 hz3 hb3 hb23 c0 c1 c2 c3 c4 c5 c6 c7 c8 c9 e0 e1 e2 e3 e4 q0 CL CT ea
              cases ht : x.tr with
              | true =>
                simp only [ht] at y7 z7
                have HY0 : Hid (tchE qt flags now (trE l) x = ⟨x.f, x.dip, x.ep, true, true, now⟩) := Lib.hid (tch_is (by rw [ht]; rfl) HCL.out.1)
                go_upto_region 15 with fail
                go_region
                have HY := HY0
                have HQ := Lib.hid (touch_fin (HM3.out) HM.out.2 HR0.out (HB3.out) HS.out HI.out ⟨x.f, x.dip, x.ep, true, true, now⟩ (by rw [← HX.out.1]))
                rw [← HY.out] at HQ
                go_wp2
                go_ret
                rw [HE.out]
                exact ⟨rfl, by rw [HY.out] at HQ ⊢; exact HQ.out⟩
              | false =>
                simp only [ht] at y7 z7
                by_cases hq : (trE l : Int) < qt
                · have HY0 : Hid (tchE qt flags now (trE l) x = ⟨x.f, x.dip, x.ep, true, true, now⟩) := Lib.hid (tch_is (by rw [ht, HCL.out.2, decide_eq_true hq]; rfl) HCL.out.1)
                  go_upto_region 15 with fail
                  go_region
                  have HY := HY0
                  have HQ := Lib.hid (touch_fin (HM3.out.keep (tch_set w3 ⟨w2.heap.size, 7, none⟩ (.bool true)) hmq (fun k hk e => by cases hk; exact hgq e)) HM.out.2 HR0.out (HB3.out.trans ((tch_set w3 ⟨w2.heap.size, 7, none⟩ (.bool true)).below (fun k hk => by subst hk; exact HBB.out.size) HB3.out.size)) HS.out HI.out ⟨x.f, x.dip, x.ep, true, true, now⟩ (by rw [← HX.out.1]))
                  rw [← HY.out] at HQ
                  go_wp2
                  go_ret
                  rw [HE.out]
                  exact ⟨rfl, by rw [HY.out] at HQ ⊢; exact HQ.out⟩
                · have HY0 : Hid (tchE qt flags now (trE l) x = ⟨x.f, x.dip, x.ep, false, true, now⟩) := Lib.hid (tch_is (by rw [ht, HCL.out.2, decide_eq_false hq]; rfl) HCL.out.1)
                  go_upto_region 15 with fail
                  go_region
                  have HY := HY0
                  have HQ := Lib.hid (touch_fin (HM3.out) HM.out.2 HR0.out (HB3.out) HS.out HI.out ⟨x.f, x.dip, x.ep, false, true, now⟩ (by rw [← HX.out.1]))
                  rw [← HY.out] at HQ
                  go_wp2
                  go_ret
                  rw [HE.out]
                  exact ⟨rfl, by rw [HY.out] at HQ ⊢; exact HQ.out⟩
          | false =>
            cases k2 : (bits .and .i64 flags 2 == 2) with
            | true =>
              have HFS : Hid (finB f.p flags = false ∧ synB f.p flags = true) := Lib.hid (by rw [HU.out.1, HU.out.2, k1, k2, k4]; exact ⟨rfl, rfl⟩)
              go_wp2_with fail
              refine (CT.out w1).mono ?_
              rintro e w2 ⟨rfl, rfl⟩
              have ea : ∀ o, (w2.alloc o).cell? ⟨p, 0, none⟩ = some (.int .i64 f.p) := fun o => ((bl_al (Below.refl w2.heap.size w2) o).cell (p := ⟨p, 0, none⟩) (block_lt_of_cell e0)).trans e0
              go_wp2_with fail
              refine (CL.out _ (bl_al (Below.refl _ _) _)).mono ?_
              rintro e w3 ⟨rfl, hb3⟩
              have hz3 := (BxE.new w2 ⟨x.f, x.dip, x.ep, x.tr, false, now⟩).keep (tch_new hb3) (fun h => h)
              have hb23 : Below w2.heap.size w2 w3 := (bl_al (Below.refl w2.heap.size w2) (En.obj ⟨x.f, x.dip, x.ep, x.tr, false, now⟩)).trans (hb3.mono (by simp))
              have hM3 := HM1.out.keep (tch_new hb23) (fun h => h) (fun _ _ h => h)
              obtain ⟨y0, y1, y2, y3, y4, y5, y6, y7, y8, y9⟩ := hz3.cs
              have yf := hz3.free
              have r0 := hM3.c0
              have r1 := hM3.c1
              obtain ⟨g', eg, _, hE3⟩ := ownE_cell hM3.row (j := i) (by omega)
              cases eg
              rw [← HX.out.1] at hE3
              obtain ⟨z0, z1, z2, z3, z4, z5, z6, z7, z8, z9⟩ := hE3
              have zf := hM3.freeR
              have HMQ : Hid (m < w2.heap.size ∧ g < w2.heap.size) := Lib.hid ⟨HM1.out.lt, block_lt_of_cell c0⟩
              have HM3 := Lib.hid hM3
              have HB3 := Lib.hid (HBB.out.trans (hb23.mono HBB.out.size))
              have HCL : Hid ((if finB x.f.p flags then true else if synB x.f.p flags then false else x.cl) = false ∧ synB x.f.p flags = true) := Lib.hid (by rw [HX.out.2, HFS.out.1, HFS.out.2]; exact ⟨rfl, rfl⟩)
              have hgq : ¬ g = w2.heap.size := by have := HMQ.out.2; omega
              have hmq : ¬ m = w2.heap.size := by have := HMQ.out.1; omega
              have s0 : ∀ v, (w3.setCell ⟨w2.heap.size, 7, none⟩ v).cell? ⟨m, 0, none⟩ = some (.slice (some ⟨g, 0, none⟩) n c) := fun v => (tch_set w3 ⟨w2.heap.size, 7, none⟩ v).cell r0 hmq
              clear hM3 hz3 hb3 hb23 c0 c1 c2 c3 c4 c5 c6 c7 c8 c9 e0 e1 e2 e3 e4 q0 CL CT ea
              cases ht : x.tr with
              | true =>
                simp only [ht] at y7 z7
                have HY0 : Hid (tchE qt flags now (trE l) x = ⟨x.f, x.dip, x.ep, true, false, now⟩) := Lib.hid (tch_is (by rw [ht]; rfl) HCL.out.1)
                go_upto_region 15 with fail
                go_region
                have HY := HY0
                have HQ := Lib.hid (touch_fin (HM3.out) HM.out.2 HR0.out (HB3.out) HS.out HI.out ⟨x.f, x.dip, x.ep, true, false, now⟩ (by rw [← HX.out.1]))
                rw [← HY.out] at HQ
                go_wp2
                go_ret
                rw [HE.out]
                exact ⟨rfl, by rw [HY.out] at HQ ⊢; exact HQ.out⟩
              | false =>
                simp only [ht] at y7 z7
                have HY0 : Hid (tchE qt flags now (trE l) x = ⟨x.f, x.dip, x.ep, false, false, now⟩) := Lib.hid (tch_is (by rw [ht, HCL.out.2]; rfl) HCL.out.1)
                go_upto_region 15 with fail
                go_region
                have HY := HY0
                have HQ := Lib.hid (touch_fin (HM3.out) HM.out.2 HR0.out (HB3.out) HS.out HI.out ⟨x.f, x.dip, x.ep, false, false, now⟩ (by rw [← HX.out.1]))
                rw [← HY.out] at HQ
                go_wp2
                go_ret
                rw [HE.out]
                exact ⟨rfl, by rw [HY.out] at HQ ⊢; exact HQ.out⟩
            | false =>
              have HFS : Hid (finB f.p flags = false ∧ synB f.p flags = false) := Lib.hid (by rw [HU.out.1, HU.out.2, k1, k2, k4]; exact ⟨rfl, rfl⟩)
              go_wp2_with fail
              refine (CT.out w1).mono ?_
              rintro e w2 ⟨rfl, rfl⟩
              have ea : ∀ o, (w2.alloc o).cell? ⟨p, 0, none⟩ = some (.int .i64 f.p) := fun o => ((bl_al (Below.refl w2.heap.size w2) o).cell (p := ⟨p, 0, none⟩) (block_lt_of_cell e0)).trans e0
              go_wp2_with fail
              refine (CL.out _ (bl_al (Below.refl _ _) _)).mono ?_
              rintro e w3 ⟨rfl, hb3⟩
              have hz3 := (BxE.new w2 ⟨x.f, x.dip, x.ep, x.tr, x.cl, now⟩).keep (tch_new hb3) (fun h => h)
              have hb23 : Below w2.heap.size w2 w3 := (bl_al (Below.refl w2.heap.size w2) (En.obj ⟨x.f, x.dip, x.ep, x.tr, x.cl, now⟩)).trans (hb3.mono (by simp))
              have hM3 := HM1.out.keep (tch_new hb23) (fun h => h) (fun _ _ h => h)
              obtain ⟨y0, y1, y2, y3, y4, y5, y6, y7, y8, y9⟩ := hz3.cs
              have yf := hz3.free
              have r0 := hM3.c0
              have r1 := hM3.c1
              obtain ⟨g', eg, _, hE3⟩ := ownE_cell hM3.row (j := i) (by omega)
              cases eg
              rw [← HX.out.1] at hE3
              obtain ⟨z0, z1, z2, z3, z4, z5, z6, z7, z8, z9⟩ := hE3
              have zf := hM3.freeR
              have HMQ : Hid (m < w2.heap.size ∧ g < w2.heap.size) := Lib.hid ⟨HM1.out.lt, block_lt_of_cell c0⟩
              have HM3 := Lib.hid hM3
              have HB3 := Lib.hid (HBB.out.trans (hb23.mono HBB.out.size))
              have HCL : Hid ((if finB x.f.p flags then true else if synB x.f.p flags then false else x.cl) = x.cl ∧ synB x.f.p flags = false) := Lib.hid (by rw [HX.out.2, HFS.out.1, HFS.out.2]; exact ⟨rfl, rfl⟩)
              have hgq : ¬ g = w2.heap.size := by have := HMQ.out.2; omega
              have hmq : ¬ m = w2.heap.size := by have := HMQ.out.1; omega
              have s0 : ∀ v, (w3.setCell ⟨w2.heap.size, 7, none⟩ v).cell? ⟨m, 0, none⟩ = some (.slice (some ⟨g, 0, none⟩) n c) := fun v => (tch_set w3 ⟨w2.heap.size, 7, none⟩ v).cell r0 hmq
              clear hM3 hz3 hb3 hb23 c0 c1 c2 c3 c4 c5 c6 c7 c8 c9 e0 e1 e2 e3 e4 q0 CL CT ea
              cases ht : x.tr with
              | true =>
                simp only [ht] at y7 z7
                have HY0 : Hid (tchE qt flags now (trE l) x = ⟨x.f, x.dip, x.ep, true, x.cl, now⟩) := Lib.hid (tch_is (by rw [ht]; rfl) HCL.out.1)
                go_upto_region 15 with fail
                go_region
                have HY := HY0
                have HQ := Lib.hid (touch_fin (HM3.out) HM.out.2 HR0.out (HB3.out) HS.out HI.out ⟨x.f, x.dip, x.ep, true, x.cl, now⟩ (by rw [← HX.out.1]))
                rw [← HY.out] at HQ
                go_wp2
                go_ret
                rw [HE.out]
                exact ⟨rfl, by rw [HY.out] at HQ ⊢; exact HQ.out⟩
              | false =>
                simp only [ht] at y7 z7
                by_cases hq : (trE l : Int) < qt
                · have HY0 : Hid (tchE qt flags now (trE l) x = ⟨x.f, x.dip, x.ep, true, x.cl, now⟩) := Lib.hid (tch_is (by rw [ht, HCL.out.2, decide_eq_true hq]; rfl) HCL.out.1)
                  go_upto_region 15 with fail
                  go_region
                  have HY := HY0
                  have HQ := Lib.hid (touch_fin (HM3.out.keep (tch_set w3 ⟨w2.heap.size, 7, none⟩ (.bool true)) hmq (fun k hk e => by cases hk; exact hgq e)) HM.out.2 HR0.out (HB3.out.trans ((tch_set w3 ⟨w2.heap.size, 7, none⟩ (.bool true)).below (fun k hk => by subst hk; exact HBB.out.size) HB3.out.size)) HS.out HI.out ⟨x.f, x.dip, x.ep, true, x.cl, now⟩ (by rw [← HX.out.1]))
                  rw [← HY.out] at HQ
                  go_wp2
                  go_ret
                  rw [HE.out]
                  exact ⟨rfl, by rw [HY.out] at HQ ⊢; exact HQ.out⟩
                · have HY0 : Hid (tchE qt flags now (trE l) x = ⟨x.f, x.dip, x.ep, false, x.cl, now⟩) := Lib.hid (tch_is (by rw [ht, HCL.out.2, decide_eq_false hq]; rfl) HCL.out.1)
                  go_upto_region 15 with fail
                  go_region
                  have HY := HY0
                  have HQ := Lib.hid (touch_fin (HM3.out) HM.out.2 HR0.out (HB3.out) HS.out HI.out ⟨x.f, x.dip, x.ep, false, x.cl, now⟩ (by rw [← HX.out.1]))
                  rw [← HY.out] at HQ
                  go_wp2
                  go_ret
                  rw [HE.out]
                  exact ⟨rfl, by rw [HY.out] at HQ ⊢; exact HQ.out⟩
    · have hd : decide (OkN now) = false := decide_eq_false ho
      rw [hd] at CT
      have HE := Lib.hid (touch_late (qt := qt) (f := f) (flags := flags) (l := l) ho)
      have HQ : Hid (∃ F2, RtTo w B F m qt qu l F2 w1) := Lib.hid ⟨F, RtTo.same HR0.out (tch_new HBB.out)⟩
      clear hM1 h1 ho hd hfa
      go_wp2_with fail
      refine (CT.out w1).mono ?_
      rintro e w2 ⟨rfl, rfl⟩
      go_wp2
      go_ret
      rw [HE.out]
      exact ⟨rfl, HQ.out⟩
end Go.Proofs.Ytpbgccidhpfmgaa
