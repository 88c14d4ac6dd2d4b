/- The walk of FabricPlays over the contracts of the fabric. No conditions but those stated. -/
import Derived.Test.YtkiccdgfhahdlaaPlB
import Derived.Deep.RegionHeld3
import Derived.Deep.CutRange
import Derived.Deep.CutBlock
namespace Go.Proofs.Ytkiccdgfhahdlaa
open Go Go.RowKit
set_option linter.unusedVariables false
set_option linter.unusedSimpArgs false

/-- What FabricPlays holds behind j calls. -/
structure PlS (w0 w : World) (f m j : Nat) (F : Nat → Prop) (ls : List Lt) (last : Nat) (R : Nat → Prop) : Prop where
  p2 : Pl2 w0 w f F ls last m R ls last
  ok : Okl ls
  len : ls.length ≤ j
  last : last ≤ j
theorem PlS.new {w0 w w' : World} {f m j last : Nat} {F R : Nat → Prop} {ls : List Lt} (h : PlS w0 w f m j F ls last R) (hb : Below w.heap.size w w') : PlS w0 w' f m j F ls last R := ⟨h.p2.new hb, h.ok, h.len, h.last⟩
theorem WtI.bytes {w0 w : World} {g n c : Nat} {ls : List Lt} {vs : List Value} {q : Nat} (h : WtI w0 w (some ⟨g, 0, none⟩) n c ls vs q) (hq : q < n) : w.cell? ⟨g, q * 5 + 4, none⟩ = some (vs.getD q undef) ∧ w.ownsRow w0.heap.size 5 1 (vs.getD q undef) (ls.getD q lt0).bs.length (u8s (ls.getD q lt0).bs) := by
  have hv : vs.length = ls.length := by
    have := h.rest.len
    have h1 := h.row.1
    by_cases hc : vs.length = ls.length
    · exact hc
    · simp at this
      have h2 : ∀ (ls : List Lt) (vs : List Value), (cellsL ls vs).length = min ls.length vs.length * 5 := by
        intro ls
        induction ls with
        | nil => intro vs; simp [cellsL]
        | cons l ls ih =>
          intro vs
          cases vs with
          | nil => simp [cellsL]
          | cons v vs => simp only [cellsL, List.length_append, ih, List.length_cons, Lt.cs]; simp; omega
      rw [h2] at h1
      omega
  have hl : n = ls.length := by have := h.row.1; rw [cellsL_len hv] at this; omega
  refine ⟨?_, ?_⟩
  · have hc := cellsL_at hv (j := q) (i := 4) (by omega) (by omega)
    rcases h.row.2 with ⟨e, h0⟩ | ⟨g', cap, cur, e, _, hg, h1, h2, h3, h4⟩
    · cases e
    · cases e
      rw [cell_of_row w g (q * 5 + 4) _ _ _ hg, ← Array.getElem?_toList]
      rw [← h4, List.getElem?_take, if_pos (by omega)] at hc
      rw [hc]
      rfl
  · have hr := h.rest.at (j := 0) (by simp; omega)
    have e1 : (vs.drop q).getD 0 undef = vs.getD q undef := by
      rw [List.getD_eq_getElem?_getD, List.getElem?_drop, ← List.getD_eq_getElem?_getD, Nat.add_zero]
    have e2 : ((ls.drop q).map (·.bs)).getD 0 [] = (ls.getD q lt0).bs := by
      rw [List.getD_eq_getElem?_getD, List.getElem?_map, List.getElem?_drop, Nat.add_zero, List.getElem?_eq_getElem (by omega), List.getD_eq_getElem?_getD, List.getElem?_eq_getElem (by omega)]
      rfl
    rw [e1, e2] at hr
    exact hr.1
set_option maxRecDepth 100000 in
set_option maxHeartbeats 8000000 in
theorem playsF_t (ao : Option Addr) (n c : Nat) (os : List Op8) (w : World) (hI : S8In w ao n os) (hn : n ≤ 1152921504606846976) (hl : ∀ j, j < n → (os.getD j op8).n ≤ 1152921504606846976) :
    Calls Try.prog 3 #[.slice ao n c] w fun e w' => e = .returned (.bool true) ∧ Below w.heap.size w w' := by
  have CA := Lib.hid (alive8_any w)
  have CL := Lib.hid (fun U (hU : Below w.heap.size w U) => long8_t ao n c os U (hI.below hU) hn hl)
  have HI := Lib.hid hI
  clear hI hl
  go_enter Try.func3, Try.ntmps3
  go_wp2_with fail
  refine CA.out.mono ?_
  rintro e w0 ⟨rfl, hb⟩
  have CL0 := Lib.hid (CL.out w0 hb)
  have HB0 := Lib.hid hb
  clear hb CA CL
  go_wp2_with fail
  refine CL0.out.mono ?_
  rintro e w1 ⟨z, rfl, hb, hz⟩
  have HB1 := Lib.hid (bl_tr HB0.out hb)
  have HZ := Lib.hid hz
  clear hb CL0 HB0 hz
  cases z with
  | true =>
    go_wp2
    go_ret
    exact ⟨rfl, HB1.out⟩
  | false =>
    have HFW := Lib.hid (HZ.out rfl).2
    have hn7 : n ≤ 700 := (HZ.out rfl).1
    have CN := Lib.hid (fnew_t w1)
    clear HZ hn
    go_wp2_with fail
    refine CN.out.mono ?_
    rintro e w2 ⟨f, F, rfl, hf, hb⟩
    obtain ⟨W, hW⟩ : ∃ W, W = w2.alloc (.cells #[.slice none 0 0, .int .i64 0] 30) := ⟨_, rfl⟩
    obtain ⟨m, hm⟩ : ∃ m, m = w2.heap.size := ⟨_, rfl⟩
    have hbW : Below w2.heap.size w2 W := by rw [hW]; exact bl_al (Below.refl _ _) _
    have hh : W.heap[m]? = some (.cells #[.slice none 0 0, .int .i64 0] 30 (0, 0)) := by rw [hW, hm]; exact heap_alloc_new _ _
    have hM : LsM W w1.heap.size m [] 0 none 0 0 [] := ⟨by rw [cell_of_row W m 0 _ _ _ hh]; rfl, by rw [cell_of_row W m 1 _ _ _ hh]; rfl, fun o => frozen_of_row W m o _ _ hh, by rw [hm]; exact hb.size, World.ownsRow_nil _ _ _ _, trivial, List.Pairwise.nil, (fun v hv => by cases hv), (fun e => by cases e)⟩
    have hdj : ∀ k, F k → ¬ (k = m ∨ RfB none 0 0 [] k) := fun k hk e => by
      have h1 := (hf.blocks k hk).2
      rcases e with e | e | ⟨v, hv, _⟩
      · omega
      · cases e
      · cases hv
    have P0 : Hid (PlS w1 W f m 0 F [] 0 (fun k => k = m ∨ RfB none 0 0 [] k)) := Lib.hid ⟨⟨hf.keep (tch_new hbW) (fun _ _ h => h), ⟨_, _, _, _, hM, fun k => Iff.rfl⟩, hdj, hb.trans (hbW.mono hb.size)⟩, (fun x hx => by cases hx), Nat.le_refl _, Nat.le_refl _⟩
    have HW := Lib.hid hW
    have HM := Lib.hid hm
    clear hf hb CN hbW hW hm hh hM hdj
    go_upto_region 6 with fail
    rw [← HW.out, ← HM.out]
    clear HW HM
    go_wp2
    go_loopw [36] (fun i wr => ∃ (j : Nat) (F : Nat → Prop) (ls : List Lt) (last : Nat) (R : Nat → Prop), j ≤ n ∧ i = .int .i64 j ∧ Hid (PlS w1 wr f m j F ls last R)) (fun i _ => n - (intOf i).toNat)
    case atStart => exact ⟨0, F, [], 0, _, by omega, rfl, P0⟩
    case round =>
      obtain ⟨j, F, ls, last, R, hj, rfl, HP⟩ := hrel
      obtain ⟨wo, rfl⟩ : ∃ v, v = wr := ⟨_, rfl⟩
      clear P0
      by_cases hlj : j < n
      · have ilj : (j : Int) < (n : Int) := by omega
        have j0 : (0 : Int) ≤ (j : Int) := by omega
        have hst := HP.out
        have hIr := HI.out.below (bl_tr HB1.out hst.p2.bel)
        obtain ⟨b, off, rfl⟩ := hIr.block (by omega)
        obtain ⟨o, ho⟩ : ∃ o, o = os.getD j op8 := ⟨_, rfl⟩
        obtain ⟨e0, e1, e2, e3, e4, e5⟩ := hIr.cells hlj ho.symm
        have hfw := HFW.out j hlj
        obtain ⟨hif, hid, hin⟩ := hIr.ints j hlj
        have hrow := fun U (hU : Below w.heap.size w U) => (HI.out.below hU).rows j hlj
        rw [← ho] at hfw hif hid hin
        simp only [← ho] at hrow
        have hlen := (hrow w (Below.refl _ _)).len
        obtain ⟨X, hX⟩ : ∃ X, X = WOp wo o := ⟨_, rfl⟩
        have hox : Ox X wo.heap.size o := by rw [hX]; exact Ox.new wo o
        have hbX : Below wo.heap.size wo X := by rw [hX]; exact bl_al (Below.refl _ _) _
        have hstX := hst.new hbX
        have hqF : ¬ F wo.heap.size := fun h => by have := (hst.p2.st.blocks _ h).2; omega
        have hqR : ¬ R wo.heap.size := fun h => by have := (hst.p2.rf.blocks _ h).2; omega
        obtain ⟨q, hq⟩ : ∃ q, q = wo.heap.size := ⟨_, rfl⟩
        rw [← hq] at hox hqF hqR
        obtain ⟨c0, c1, c2, c3, c4, c5⟩ := hox.cell
        obtain ⟨kind, frm, dst, ctl, num, ra, rn, rc, bs⟩ := o
        simp only at e0 e1 e2 e3 e4 e5 c0 c1 c2 c3 c4 c5 hfw hif hid hin hrow hlen
        have HX := Lib.hid (show X = wo.alloc (.cells #[.int .i64 kind, .int .i64 frm, .int .i64 dst, .bool ctl, .int .i64 num, .slice ra rn rc] 33) from hX)
        have HQ := Lib.hid hq
        have HST := Lib.hid hstX
        have HOX := Lib.hid hox
        have HROW := Lib.hid hrow
        have HQF := Lib.hid hqF
        have HQR := Lib.hid hqR
        have HLEN := Lib.hid hlen
        have HIN := Lib.hid hin
        have HIF := Lib.hid hif
        have HID := Lib.hid hid
        have HBS : Hid (bs.length ≤ 1048576) := Lib.hid (by omega)
        have hrn : rn ≤ 1048576 := hfw
        have HLL : Hid (ls.length ≤ 700 ∧ last ≤ 700) := Lib.hid ⟨by have := hstX.len; omega, by have := hstX.last; omega⟩
        clear hIr ho hX hox hbX hst hstX hq hqF hqR hrow hlen hif hid hin hfw HP
        go_upto_region 10 with fail
        rw [← HX.out, ← HQ.out]
        clear HX HQ e0 e1 e2 e3 e4 e5
        go_upto_block 2 with fail
        go_cut [7] from 37 to 215 (fun t wx => t = .bool true ∧ Hid (∃ F2 ls2 last2 R2, PlS w1 wx f m (j + 1) F2 ls2 last2 R2))
        case first =>
          by_cases hk0 : kind = 0
          · subst hk0
            have CC := Lib.hid (copy_any bs ra rn rc X (HROW.out X (bl_tr HB1.out HST.out.p2.bel)) (by omega))
            obtain ⟨r, hr⟩ : ∃ r, r = sendR ls last frm dst ctl bs := ⟨_, rfl⟩
            have hgr := sendR_grow (frm := frm) (dst := dst) (ctl := ctl) (bs := bs) HST.out.len HST.out.last
            have hok := HST.out.ok.send (last := last) (frm := frm) (dst := dst) (ctl := ctl) HBS.out
            have her := sendR_err ls last frm dst ctl bs
            rw [← hr] at hgr hok her
            have HGR := Lib.hid hgr
            have HOK := Lib.hid hok
            have HR0 := Lib.hid hr
            clear hgr hok hr
            go_wp2_with fail
            refine CC.out.mono ?_
            rintro e w3 ⟨g, rfl, hown, hb3⟩
            have h3 := HST.out.new hb3
            have hgF : ¬ F g := fun e => by have := (HST.out.p2.st.blocks g e).2; have := hown.2.2; omega
            have hgR : ¬ R g := fun e => by have := (HST.out.p2.rf.blocks g e).2; have := hown.2.2; omega
            have hin3 := HROW.out
            have CS := Lib.hid (fsend_t w1.heap.size f last F ls frm dst ctl bs (some ⟨g, 0, none⟩) rn (rn + 2) w3 h3.p2.st h3.p2.bel.size (by have := HLL.out; omega) (by have := HLL.out; omega) HIF.out HID.out (fun U hU => own_marks ⟨hU.own hown.1 (fun k hk e => hgF (by cases hk; exact e)), hown.2.1, hown.2.2⟩ HLEN.out (HROW.out w (Below.refl _ _)).fit) hrn)
            rw [← HR0.out] at CS
            have hox3 := HOX.out.keep (tch_new hb3) (fun h => h)
            have hqg : q ≠ g := fun e => by have h1 : q < X.heap.size := lt_of_block HOX.out; have := hown.2.2; omega
            obtain ⟨d0, d1, d2, d3, d4, d5⟩ := hox3.cell
            simp only at d0 d1 d2 d3 d4 d5
            have HOW := Lib.hid hown
            have H3 := Lib.hid h3
            have HGF := Lib.hid hgF
            have HGR2 := Lib.hid hgR
            have HOX3 := Lib.hid hox3
            clear hown hb3 h3 hgF hgR hox3 hqg CC c0 c1 c2 c3 c4 c5 hin3
            go_wp2_with fail
            refine CS.out.mono ?_
            rintro e w4 ⟨rfl, F2, hF2⟩
            have h4 := H3.out.p2.turnF hF2
            have hox4 := HOX3.out.keep hF2.2.2 HQF.out
            have hown4 := hF2.2.2.own HOW.out.1 (fun k hk e => HGF.out (by cases hk; exact e))
            have hF2n := hF2.2.1
            have hgF2 : ¬ F2 g := fun e => by
              rcases hF2n g e with h | h
              · exact HGF.out h
              · have := (HOW.out.1.lt g rfl).2; omega
            have CR := Lib.hid (refSend_t w1.heap.size m last R ls frm dst ctl bs ra rn rc w4 h4.rf h4.bel.size (by have := HLL.out; omega) (fun U hU => HROW.out U (bl_tr HB1.out (h4.bel.trans (hU.below (fun k hk => by have : k = m := hk; subst this; obtain ⟨_, _, _, _, hM', _⟩ := h4.rf.here; exact hM'.hm) h4.bel.size)))) hrn)
            rw [← HR0.out] at CR
            obtain ⟨d0, d1, d2, d3, d4, d5⟩ := hox4.cell
            simp only at d0 d1 d2 d3 d4 d5
            have H4 := Lib.hid h4
            have HOX4 := Lib.hid hox4
            have HOW4 := Lib.hid hown4
            have HGF2 := Lib.hid hgF2
            clear h4 hox4 hown4 hF2 hF2n hgF2 CS H3 HOX3
            go_wp2_with fail
            refine CR.out.mono ?_
            rintro e w5 ⟨rfl, R2, hR2⟩
            have h5 := H4.out.turnR hR2
            have hox5 := HOX4.out.keep hR2.2.2 HQR.out
            have hown5 := hR2.2.2.own HOW4.out (fun k hk e => HGR2.out (by cases hk; exact e))
            have hgR2 : ¬ R2 g := fun e => by
              rcases hR2.2.1 g e with h | h
              · exact HGR2.out h
              · have := (HOW4.out.lt g rfl).2; omega
            have CNm := Lib.hid (num_t r.2.1 her w5)
            have hin5 := HROW.out w5 (bl_tr HB1.out h5.bel)
            have hO5 : Own w5 X.heap.size g (rn + 2) (rn + 2) (bs ++ [165, 90]) := ⟨hown5, HOW.out.2.1, HOW.out.2.2⟩
            have CK := Lib.hid (kept_any bs ra rn rc g w5 hin5 (hO5.marked HLEN.out) (by omega))
            obtain ⟨d0, d1, d2, d3, d4, d5⟩ := hox5.cell
            simp only at d0 d1 d2 d3 d4 d5
            have q1 : ((r.1 : Int) == (r.1 : Int)) = true := by simp
            have q2 : ((r.2.1 : Int) == (r.2.1 : Int)) = true := by simp
            have H5 := Lib.hid h5
            have HO5 := Lib.hid hO5
            have HGR3 := Lib.hid hgR2
            clear h5 hox5 hown5 hR2 hgR2 hin5 hO5 CR H4 HOX4 HOW4 her
            go_wp2_with fail
            refine CNm.out.mono ?_
            rintro e w6 ⟨rfl, rfl⟩
            clear CNm
            go_wp2_with fail
            refine CK.out.mono ?_
            rintro e w7 ⟨rfl, hb7⟩
            have h7 := H5.out.new hb7
            have hO7 : Own w7 X.heap.size g (rn + 2) (rn + 2) (bs ++ [165, 90]) := ⟨(tch_new hb7).own HO5.out.1 (fun _ _ h => h), HO5.out.2.1, HO5.out.2.2⟩
            have CO := Lib.hid (over_any X.heap.size g (rn + 2) rn (rn + 2) (bs ++ [165, 90]) w7 hO7 (by omega) (by omega) (rn + 2))
            have H7 := Lib.hid h7
            have hgX := hO7.2.2
            clear hb7 h7 hO7 CK d0 d1 d2 d3 d4 d5
            go_wp2_with fail
            refine CO.out.mono ?_
            rintro e w9 ⟨rfl, hgr⟩
            have HP9 : Hid (PlS w1 w9 f m (j + 1) F2 r.2.2.1 r.2.2.2 R2) := Lib.hid ⟨H7.out.tch (tch_grown hgr) (fun k hk e => HGF2.out (by cases e; exact hk)) (fun k hk e => HGR3.out (by cases e; exact hk)) (fun k hk => by cases hk; have := HST.out.p2.bel.size; omega), HOK.out, HGR.out.1, HGR.out.2⟩
            clear hgr CO H7 hgX H5 HO5 HGR3 HGF2 HGF HGR2 HOW HOK HGR HR0 HST HOX HROW HQF HQR HLEN HIN HIF HID HBS
            go_wp2
            go_meet
            exact ⟨rfl, Lib.hid ⟨_, _, _, _, HP9.out⟩⟩
          · have k0 : (kind == 0) = false := by rw [beq_eq_false_iff_ne]; exact hk0
            by_cases hk1 : kind = 1
            · subst hk1
              clear hk0
              have CT := Lib.hid (ftake_t w1.heap.size f last F ls num X HST.out.p2.st HST.out.p2.bel.size (by have := HLL.out; omega) HIN.out HST.out.ok.few)
              have her := nthR_err ls num
              obtain ⟨x, er, hxe⟩ : ∃ x er, nthR ls num = (x, er) := ⟨_, _, rfl⟩
              rw [hxe] at CT her
              simp only at her
              have HXE := Lib.hid hxe
              have hok := HST.out.ok.left (n := num)
              have hgr := leftR_grow (n := num) HST.out.len
              obtain ⟨ms, hms⟩ : ∃ ms, ms = leftR ls num := ⟨_, rfl⟩
              rw [← hms] at CT hok hgr
              have HMS := Lib.hid hms
              have HOK := Lib.hid hok
              have HGR := Lib.hid hgr
              clear hxe hok hgr hms
              go_wp2_with fail
              refine CT.out.mono ?_
              rintro e w3 ⟨v, F2, rfl, ho, hv, hF2⟩
              obtain ⟨av, cv, rfl⟩ := own_form ho
              obtain ⟨xi, xf, xd, xc, xb⟩ := x
              simp only at ho hv ⊢
              obtain ⟨nb, hnb⟩ : ∃ k, k = xb.length := ⟨_, rfl⟩
              rw [← hnb] at ho hv ⊢
              obtain ⟨Y, hY⟩ : ∃ Y, Y = w3.alloc (.cells #[.int .i64 xi, .int .i64 xf, .int .i64 xd, .bool xc, .slice av nb cv] tyL) := ⟨_, rfl⟩
              have hbY : Below w3.heap.size w3 Y := by rw [hY]; exact bl_al (Below.refl _ _) _
              have hbx : Bx Y w3.heap.size ⟨xi, xf, xd, xc, xb⟩ (.slice av nb cv) := by rw [hY]; exact Bx.new w3 ⟨xi, xf, xd, xc, xb⟩ _
              have h3 := HST.out.p2.turnF hF2
              have hY3 := h3.new hbY
              have hoxY := (HOX.out.keep hF2.2.2 HQF.out).keep (tch_new hbY) (fun h => h)
              have hoY := (tch_new hbY).own ho (fun _ _ h => h)
              have hvR : ∀ k, (Value.slice av nb cv).ownBlock = some k → ¬ R k := fun k hk e => (hv k hk).2.elim (fun h => HST.out.p2.dj k h e) (fun h => by have := (HST.out.p2.rf.blocks k e).2; omega)
              obtain ⟨p, hp⟩ : ∃ p, p = w3.heap.size := ⟨_, rfl⟩
              rw [← hp] at hbx
              have hpR : ¬ R p := fun e => by have := (HST.out.p2.rf.blocks p e).2; have := hF2.2.2.size; omega
              have CR := Lib.hid (refTake_t w1.heap.size m last R ls num Y hY3.rf hY3.bel.size (by have := HLL.out; omega))
              rw [HXE.out, ← HMS.out] at CR
              obtain ⟨d0, d1, d2, d3, d4, d5⟩ := hoxY.cell
              simp only at d0 d1 d2 d3 d4 d5
              have HBX := Lib.hid hbx
              have HY3 := Lib.hid hY3
              have HOY := Lib.hid hoY
              have HVR := Lib.hid hvR
              have HPR := Lib.hid hpR
              have HY := Lib.hid hY
              have HPP := Lib.hid hp
              have HNB := Lib.hid hnb
              clear ho hv hF2 hY hbY hbx h3 hY3 hoxY hoY hvR hp hpR hnb CT c0 c1 c2 c3 c4 c5
              unfold Lt.val
              go_upto_region 20 with fail
              rw [← HY.out, ← HPP.out]
              clear HY HPP
              go_wp2_with fail
              refine CR.out.mono ?_
              rintro e w5 ⟨v, rfl, ho, R2, hR2⟩
              obtain ⟨au, cu, rfl⟩ := own_form ho
              simp only at ho ⊢
              rw [← HNB.out] at ho ⊢
              obtain ⟨Z, hZ⟩ : ∃ Z, Z = w5.alloc (.cells #[.int .i64 xi, .int .i64 xf, .int .i64 xd, .bool xc, .slice au nb cu] tyL) := ⟨_, rfl⟩
              have hbZ : Below w5.heap.size w5 Z := by rw [hZ]; exact bl_al (Below.refl _ _) _
              have hbz : Bx Z w5.heap.size ⟨xi, xf, xd, xc, xb⟩ (.slice au nb cu) := by rw [hZ]; exact Bx.new w5 ⟨xi, xf, xd, xc, xb⟩ _
              have h5 := (HY3.out.turnR hR2).new hbZ
              have hbx5 := (HBX.out.keep hR2.2.2 HPR.out).keep (tch_new hbZ) (fun h => h)
              have ho5 := (tch_new hbZ).own (hR2.2.2.own HOY.out HVR.out) (fun _ _ h => h)
              have hoZ := (tch_new hbZ).own ho (fun _ _ h => h)
              obtain ⟨t, ht⟩ : ∃ t, t = w5.heap.size := ⟨_, rfl⟩
              rw [← ht] at hbz
              obtain ⟨y0, y1, y2, y3, y4⟩ := hbx5.cell
              obtain ⟨z0, z1, z2, z3, z4⟩ := hbz.cell
              simp only at y0 y1 y2 y3 y4 z0 z1 z2 z3 z4
              have CLk := Lib.hid (like_t ⟨xi, xf, xd, xc, xb⟩ av au nb cv nb cu Z (by have := ho5; rw [HNB.out] at this ⊢; exact At.own this) HNB.out.symm (by have := hoZ; rw [HNB.out] at this ⊢; exact At.own this) HNB.out.symm)
              unfold Lt.val at CLk
              simp only at CLk
              have H5 := Lib.hid h5
              have HZ := Lib.hid hZ
              have HTT := Lib.hid ht
              clear ho hR2 hZ hbZ hbz h5 hbx5 ho5 hoZ ht CR HBX HY3 HOY HVR HPR d0 d1 d2 d3 d4 d5
              unfold Lt.val
              go_upto_region 21 with fail
              rw [← HZ.out, ← HTT.out]
              clear HZ HTT
              go_wp2_with fail
              refine CLk.out.mono ?_
              rintro e w9 ⟨rfl, ht9⟩
              have CNm := Lib.hid (num_t er her w9)
              have q2 : ((er : Int) == (er : Int)) = true := by simp
              have HP9 : Hid (PlS w1 w9 f m (j + 1) F2 ms last R2) := Lib.hid ⟨H5.out.new (ht9.below (fun _ h => h.elim) (Nat.le_refl _)), HOK.out, HGR.out, Nat.le_succ_of_le HST.out.last⟩
              clear ht9 CLk H5 y0 y1 y2 y3 y4 z0 z1 z2 z3 z4 her
              go_wp2_with fail
              refine CNm.out.mono ?_
              rintro e w6 ⟨rfl, rfl⟩
              clear CNm HOK HGR HMS HXE HNB HST HOX HROW HQF HQR HLEN HIN HIF HID HBS
              go_wp2
              go_meet
              exact ⟨rfl, Lib.hid ⟨_, _, _, _, HP9.out⟩⟩
            · have k1 : (kind == 1) = false := by rw [beq_eq_false_iff_ne]; exact hk1
              by_cases hk2 : kind = 2
              · subst hk2
                clear hk0 hk1
                have CC := Lib.hid (fcopy_t w1.heap.size f last F ls num X HST.out.p2.st HST.out.p2.bel.size (by have := HLL.out; omega) (by have := HLL.out; omega) HIN.out HST.out.ok.few)
                obtain ⟨r, hr⟩ : ∃ r, r = copyR ls last num := ⟨_, rfl⟩
                have hgr := copyR_grow (n := num) HST.out.len HST.out.last
                have hok := HST.out.ok.copy (last := last) (n := num)
                have her := copyR_err ls last num
                rw [← hr] at hgr hok her CC
                have HGR := Lib.hid hgr
                have HOK := Lib.hid hok
                have HR0 := Lib.hid hr
                clear hgr hok hr
                go_wp2_with fail
                refine CC.out.mono ?_
                rintro e w4 ⟨rfl, F2, hF2⟩
                have h4 := HST.out.p2.turnF hF2
                have hox4 := HOX.out.keep hF2.2.2 HQF.out
                have CR := Lib.hid (refCopy_t w1.heap.size m last R ls num w4 h4.rf h4.bel.size (by have := HLL.out; omega) (by have := HLL.out; omega) HST.out.ok.few)
                rw [← HR0.out] at CR
                obtain ⟨d0, d1, d2, d3, d4, d5⟩ := hox4.cell
                simp only at d0 d1 d2 d3 d4 d5
                have H4 := Lib.hid h4
                clear h4 hox4 hF2 CC c0 c1 c2 c3 c4 c5
                go_wp2_with fail
                refine CR.out.mono ?_
                rintro e w9 ⟨rfl, R2, hR2⟩
                have h5 := H4.out.turnR hR2
                have CNm := Lib.hid (num_t r.2.1 her w9)
                have q1 : ((r.1 : Int) == (r.1 : Int)) = true := by simp
                have q2 : ((r.2.1 : Int) == (r.2.1 : Int)) = true := by simp
                have HP9 : Hid (PlS w1 w9 f m (j + 1) F2 r.2.2.1 r.2.2.2 R2) := Lib.hid ⟨h5, HOK.out, HGR.out.1, HGR.out.2⟩
                clear h5 hR2 CR H4 her d0 d1 d2 d3 d4 d5
                go_wp2_with fail
                refine CNm.out.mono ?_
                rintro e w6 ⟨rfl, rfl⟩
                clear CNm HOK HGR HR0 HST HOX HROW HQF HQR HLEN HIN HIF HID HBS
                go_wp2
                go_meet
                exact ⟨rfl, Lib.hid ⟨_, _, _, _, HP9.out⟩⟩
              · have k2 : (kind == 2) = false := by rw [beq_eq_false_iff_ne]; exact hk2
                by_cases hk3 : kind = 3
                · subst hk3
                  clear hk0 hk1 hk2
                  have CT := Lib.hid (fnth_t w1.heap.size f last F ls num X HST.out.p2.st (by have := HLL.out; omega) HIN.out HST.out.ok.few)
                  have her := nthR_err ls num
                  obtain ⟨x, er, hxe⟩ : ∃ x er, nthR ls num = (x, er) := ⟨_, _, rfl⟩
                  have hxb : x.bs.length ≤ 1048576 := by
                    have h1 : x = (nthR ls num).1 := by rw [hxe]
                    rw [h1]
                    unfold nthR
                    split
                    · simp [lt0]
                    · rename_i hne
                      exact (HST.out.ok.get (plc_lt num (List.length_pos_iff.2 hne))).2
                  rw [hxe] at CT her
                  simp only at her
                  have HXE := Lib.hid hxe
                  clear hxe
                  go_wp2_with fail
                  refine CT.out.mono ?_
                  rintro e w3 ⟨v, rfl, ho, hb3⟩
                  obtain ⟨av, cv, rfl⟩ := own_form ho
                  obtain ⟨xi, xf, xd, xc, xb⟩ := x
                  simp only at ho hxb ⊢
                  obtain ⟨nb, hnb⟩ : ∃ k, k = xb.length := ⟨_, rfl⟩
                  rw [← hnb] at ho hxb ⊢
                  obtain ⟨Y, hY⟩ : ∃ Y, Y = w3.alloc (.cells #[.int .i64 xi, .int .i64 xf, .int .i64 xd, .bool xc, .slice av nb cv] tyL) := ⟨_, rfl⟩
                  have hbY3 : Below w3.heap.size w3 Y := by rw [hY]; exact bl_al (Below.refl _ _) _
                  have hbY := hb3.trans (hbY3.mono hb3.size)
                  have hbx : Bx Y w3.heap.size ⟨xi, xf, xd, xc, xb⟩ (.slice av nb cv) := by rw [hY]; exact Bx.new w3 ⟨xi, xf, xd, xc, xb⟩ _
                  have hY3 := HST.out.new hbY
                  have hoxY := HOX.out.keep (tch_new hbY) (fun h => h)
                  have hoY := (tch_new hbY3).own ho (fun _ _ h => h)
                  obtain ⟨p, hp⟩ : ∃ p, p = w3.heap.size := ⟨_, rfl⟩
                  rw [← hp] at hbx
                  have CR := Lib.hid (refNth_t w1.heap.size m last R ls num Y hY3.p2.rf (by have := HLL.out; omega))
                  rw [HXE.out] at CR
                  obtain ⟨d0, d1, d2, d3, d4, d5⟩ := hoxY.cell
                  simp only at d0 d1 d2 d3 d4 d5
                  have HBX := Lib.hid hbx
                  have HY3 := Lib.hid hY3
                  have HOY := Lib.hid hoY
                  have HY := Lib.hid hY
                  have HPP := Lib.hid hp
                  have HNB := Lib.hid hnb
                  clear ho hb3 hY hbY3 hbY hbx hY3 hoxY hoY hp hnb CT c0 c1 c2 c3 c4 c5
                  unfold Lt.val
                  go_upto_region 28 with fail
                  rw [← HY.out, ← HPP.out]
                  clear HY HPP
                  go_wp2_with fail
                  refine CR.out.mono ?_
                  rintro e w5 ⟨v, rfl, ho, _, hR2⟩
                  obtain ⟨au, cu, rfl⟩ := own_form ho
                  simp only at ho ⊢
                  rw [← HNB.out] at ho ⊢
                  have hb5 : Below Y.heap.size Y w5 := hR2.below (fun _ h => h.elim) (Nat.le_refl _)
                  obtain ⟨Z, hZ⟩ : ∃ Z, Z = w5.alloc (.cells #[.int .i64 xi, .int .i64 xf, .int .i64 xd, .bool xc, .slice au nb cu] tyL) := ⟨_, rfl⟩
                  have hbZ5 : Below w5.heap.size w5 Z := by rw [hZ]; exact bl_al (Below.refl _ _) _
                  have hbZ := hb5.trans (hbZ5.mono hb5.size)
                  have hbz : Bx Z w5.heap.size ⟨xi, xf, xd, xc, xb⟩ (.slice au nb cu) := by rw [hZ]; exact Bx.new w5 ⟨xi, xf, xd, xc, xb⟩ _
                  have h5 := HY3.out.new hbZ
                  have hbx5 := HBX.out.keep (tch_new hbZ) (fun h => h)
                  have ho5 := (tch_new hbZ).own HOY.out (fun _ _ h => h)
                  have hoZ := (tch_new hbZ5).own ho (fun _ _ h => h)
                  obtain ⟨t, ht⟩ : ∃ t, t = w5.heap.size := ⟨_, rfl⟩
                  rw [← ht] at hbz
                  obtain ⟨y0, y1, y2, y3, y4⟩ := hbx5.cell
                  obtain ⟨z0, z1, z2, z3, z4⟩ := hbz.cell
                  simp only at y0 y1 y2 y3 y4 z0 z1 z2 z3 z4
                  have CLk := Lib.hid (like_t ⟨xi, xf, xd, xc, xb⟩ av au nb cv nb cu Z (by have := ho5; rw [HNB.out] at this ⊢; exact At.own this) HNB.out.symm (by have := hoZ; rw [HNB.out] at this ⊢; exact At.own this) HNB.out.symm)
                  unfold Lt.val at CLk
                  simp only at CLk
                  have H5 := Lib.hid h5
                  have HO5 := Lib.hid ho5
                  have HZ := Lib.hid hZ
                  have HTT := Lib.hid ht
                  have HBX5 := Lib.hid hbx5
                  clear ho hb5 hR2 hZ hbZ hbZ5 hbz h5 hbx5 ho5 hoZ ht CR HBX HY3 HOY d0 d1 d2 d3 d4 d5
                  unfold Lt.val
                  go_upto_region 29 with fail
                  rw [← HZ.out, ← HTT.out]
                  clear HZ HTT
                  go_wp2_with fail
                  refine CLk.out.mono ?_
                  rintro e w8 ⟨rfl, ht8⟩
                  have CNm := Lib.hid (num_t er her w8)
                  have q2 : ((er : Int) == (er : Int)) = true := by simp
                  have hb8 := ht8.below (B := Z.heap.size) (fun _ h => h.elim) (Nat.le_refl _)
                  have h8 := H5.out.new hb8
                  have ho8 := ht8.own HO5.out (fun _ _ h => h)
                  have hbx8 := HBX5.out.keep ht8 (fun h => h)
                  obtain ⟨u0, u1, u2, u3, u4⟩ := hbx8.cell
                  simp only at u0 u1 u2 u3 u4
                  have CO := Lib.hid (over_t (l := xb) ho8 (by omega))
                  have HP9x := Lib.hid (fun w9 (ht9 : Tch (fun k => (Value.slice av nb cv).ownBlock = some k) w8 w9) => (⟨h8.p2.tch ht9 (fun k hk e => by have := (ho8.lt k e).1; have := (HST.out.p2.st.blocks k hk).2; omega) (fun k hk e => by have := (ho8.lt k e).1; have := (HST.out.p2.rf.blocks k hk).2; omega) (fun k hk => by have := (ho8.lt k hk).1; have := HST.out.p2.bel.size; omega), HST.out.ok, Nat.le_succ_of_le HST.out.len, Nat.le_succ_of_le HST.out.last⟩ : PlS w1 w9 f m (j + 1) F ls last R))
                  clear ht8 hb8 h8 ho8 hbx8 CLk H5 HO5 HBX5 y0 y1 y2 y3 y4 z0 z1 z2 z3 z4 her
                  go_wp2_with fail
                  refine CNm.out.mono ?_
                  rintro e w6 ⟨rfl, rfl⟩
                  clear CNm
                  go_wp2_with fail
                  refine CO.out.mono ?_
                  rintro e w9 ⟨rfl, ht9⟩
                  have HP9 := Lib.hid (HP9x.out w9 ht9)
                  clear ht9 CO HP9x u0 u1 u2 u3 u4 HXE HNB HST HOX HROW HQF HQR HLEN HIN HIF HID HBS
                  go_wp2
                  go_meet
                  exact ⟨rfl, Lib.hid ⟨_, _, _, _, HP9.out⟩⟩
                · have k3 : (kind == 3) = false := by rw [beq_eq_false_iff_ne]; exact hk3
                  clear hk0 hk1 hk2 hk3
                  have CB := Lib.hid (fun U (hU : Below X.heap.size X U) => fbetween_t w1.heap.size f last F ls frm dst U (HST.out.new hU).p2.st (by have := HLL.out; omega) HIF.out HID.out)
                  have CRb := Lib.hid (fun U (hU : Below X.heap.size X U) => refBetween_t w1.heap.size m last R ls frm dst U (HST.out.new hU).p2.rf (by have := HLL.out; omega))
                  have hbl := btw_len ls frm dst
                  obtain ⟨ids, hids⟩ : ∃ ids, ids = btw ls frm dst := ⟨_, rfl⟩
                  rw [← hids] at CB CRb hbl
                  have hbl7 : ids.length ≤ 700 := by have := HLL.out; omega
                  clear hids hbl
                  go_upto_region 11 with fail
                  have hS0 : X.drew.cell? ⟨q, 1, none⟩ = some (.int .i64 frm) ∧ X.drew.cell? ⟨q, 2, none⟩ = some (.int .i64 dst) := ⟨c1, c2⟩
                  have hb0 : Below X.heap.size X X.drew := (Below.refl _ _).drew
                  go_region_held3 (fun wx => wx.cell? ⟨q, 1, none⟩ = some (.int .i64 frm) ∧ wx.cell? ⟨q, 2, none⟩ = some (.int .i64 dst)) (first | (with_reducible exact hS0) | (with_reducible exact hS3) | (with_reducible exact hS4) | (with_reducible exact hS5) | fail)
                    (first | (go_at_call 26; (with_reducible refine (CB.out _ hb0).mono ?_); rintro e w3 ⟨a3, d3, rfl, ho3, hx3⟩; have hb3 := hb0.trans (hx3.mono hb0.size); have hS3 := And.intro (cell_later hb3 c1) (cell_later hb3 c2)) | (go_at_call 27; (with_reducible refine (CRb.out _ hb3).mono ?_); rintro e w4 ⟨a4, d4, rfl, ho4, hx4⟩; have hb4 := hb3.trans (hx4.mono hb3.size); have hS4 := And.intro (cell_later hb4 c1) (cell_later hb4 c2); have hI := ints_t ids a3 a4 ids.length d3 d4 w4 ((AtI.own ho3).below hx4) (AtI.own ho4) rfl (by omega)) | (go_at_call 25; (with_reducible refine hI.mono ?_); rintro e w9 ⟨rfl, hx9⟩; have hb9 := hb4.trans (hx9.mono hb4.size); have hS5 := And.intro (cell_later hb9 c1) (cell_later hb9 c2)) | fail)
                  have HP9 : Hid (PlS w1 w9 f m (j + 1) F ls last R) := Lib.hid ⟨HST.out.p2.new hb9, HST.out.ok, Nat.le_succ_of_le HST.out.len, Nat.le_succ_of_le HST.out.last⟩
                  clear hS0 hS3 hS4 hS5 hb0 hb3 hb4 hb9 hx3 hx4 hx9 ho3 ho4 hI CB CRb c0 c1 c2 c3 c4 c5 HST HOX HROW HQF HQR HLEN HIN HIF HID HBS
                  go_wp2
                  go_meet
                  exact ⟨rfl, Lib.hid ⟨_, _, _, _, HP9.out⟩⟩
        case rest =>
          obtain ⟨rfl, HPx⟩ := hcut
          obtain ⟨F9, ls9, last9, R9, hpx⟩ := HPx.out
          obtain ⟨w9, rfl⟩ : ∃ v, v = wc := ⟨_, rfl⟩
          have HP9 := Lib.hid hpx
          clear hpx HPx c0 c1 c2 c3 c4 c5 HST HOX HROW HQF HQR HLEN HIN HIF HID HBS HLL
          have hp9 := HP9.out
          have CW := Lib.hid (fwaiting_t w1.heap.size f last9 F9 ls9 w9 hp9.p2.st (by have := hp9.len; omega) hp9.ok.few)
          obtain ⟨N, hN⟩ : ∃ N, N = (ls9).length := ⟨_, rfl⟩
          have hN7 : N ≤ 701 := by have := hp9.len; omega
          have HN := Lib.hid hN
          clear hp9
          go_wp2_with fail
          refine CW.out.mono ?_
          rintro e v1 ⟨a1, d1, vs, rfl, ho, hr, hap, hb⟩
          rw [← hN] at ho ⊢
          have hp := HP9.out.p2.new hb
          obtain ⟨rao, rn', rc', rvs, hM, _⟩ := hp.rf.here
          have hrd := lrd_own hM.row hM.rows
          have hwd := lrd_own ho hr
          obtain rfl : rn' = N := by rw [hrd.2, hN]
          have s0 := hM.c0
          have CLn := Lib.hid (fun U (hU : Below v1.heap.size v1 U) => flen_t w1.heap.size f last9 F9 ls9 U (hp.new hU).st)
          rw [← hN] at CLn
          have CSm := Lib.hid (fun U (hU : Below v1.heap.size v1 U) => same_t a1 rao rn' d1 rc' ls9 vs rvs U (hwd.1.below hU) (hrd.1.below hU) hN (by omega))
          have HO := Lib.hid ho
          have HR := Lib.hid hr
          have HAP := Lib.hid hap
          have HB := Lib.hid hb
          clear ho hr hap hb hp hM hrd hwd CW hN
          go_upto_region 32 with fail
          have hS0 : v1.drew.cell? ⟨m, 0, none⟩ = some (.slice rao rn' rc') := s0
          have hb0 : Below v1.heap.size v1 v1.drew := (Below.refl _ _).drew
          go_region_held3 (fun wx => wx.cell? ⟨m, 0, none⟩ = some (.slice rao rn' rc')) (first | (with_reducible exact hS0) | (with_reducible exact hS4) | (with_reducible exact hS5) | fail)
            (first | (go_at_call 29; (with_reducible refine (CLn.out _ hb0).mono ?_); rintro e v4 ⟨rfl, ht4⟩; have hS4 := ht4.cell hS0 (fun h => h); have hb4 := hb0.trans (ht4.below (fun _ h => h.elim) hb0.size)) | (go_at_call 30; (with_reducible refine (CSm.out _ hb4).mono ?_); rintro e v5 ⟨rfl, hb5x⟩; have hb5 := hb4.trans (hb5x.mono hb4.size); have hS5 := cell_later hb5x hS4) | fail)
          all_goals
            have WT0 : Hid (WtI w9 v5 a1 rn' d1 ls9 vs 0) := Lib.hid ⟨HO.out.1 |> fun _ => (tch_new hb5).own HO.out (fun _ _ h => h), by simpa using HR.out.keep (tch_new hb5) (fun _ _ _ _ h => h), HB.out.trans (hb5.mono HB.out.size)⟩
            have HVL : Hid (vs.length = (ls9).length) := Lib.hid (by have := HR.out.len; simpa using this)
            clear hS0 hb0 hS4 hS5 hb4 hb5 hb5x ht4 s0 CLn CSm HO HR HB
            go_wp2
            go_loopw [205] (fun i wr => ∃ u : Nat, u ≤ rn' ∧ i = .int .i64 u ∧ Hid (WtI w9 wr a1 rn' d1 ls9 vs u)) (fun i _ => rn' - (intOf i).toNat)
            case atStart => exact ⟨0, by omega, rfl, WT0⟩
            case round =>
              obtain ⟨u, hu, rfl, HWT⟩ := hrel
              obtain ⟨v6, rfl⟩ : ∃ v, v = wr := ⟨_, rfl⟩
              clear WT0
              by_cases hlu : u < rn'
              · have iu : (u : Int) < (rn' : Int) := by omega
                have u0 : (0 : Int) ≤ (u : Int) := by omega
                obtain ⟨g1, hg1⟩ : ∃ g1, a1 = some ⟨g1, 0, none⟩ := by
                  rcases HWT.out.row.2 with ⟨e, h0⟩ | ⟨g', _, _, e, _⟩
                  · omega
                  · cases e; exact ⟨g', rfl⟩
                subst hg1
                obtain ⟨p4, hown⟩ := HWT.out.bytes hlu
                have hbl : ((ls9).getD u lt0).bs.length ≤ 1048576 := (HP9.out.ok.get (by have := HN.out; omega)).2
                have CO := Lib.hid (over_t hown (by omega))
                have HSTp := Lib.hid (fun v7 (ht : Tch (fun k => (vs.getD u undef).ownBlock = some k) v6 v7) => HWT.out.step (by have := HVL.out; have := HN.out; omega) HVL.out HAP.out ht)
                obtain ⟨av, cv, hav⟩ := own_form hown
                rw [hav] at p4
                rw [hav] at CO
                have HAV := Lib.hid hav
                clear hown hbl hav HWT
                go_wp2_with fail
                refine CO.out.mono ?_
                rintro e v7 ⟨rfl, ht⟩
                have HW7 := Lib.hid (HSTp.out v7 (by rw [HAV.out]; exact ht))
                clear ht CO HSTp p4
                go_wp2
                go_roundw
                case rel => exact ⟨u + 1, by omega, by go_num, HW7⟩
                case measure => simp [intOf]; omega
              · have iu : ¬ (u : Int) < (rn' : Int) := by omega
                have HP10 : Hid (PlS w1 v6 f m (j + 1) F9 ls9 last9 R9) := Lib.hid (HP9.out.new HWT.out.tch)
                clear HWT
                go_wp2
                go_roundw
                case rel => exact ⟨j + 1, _, _, _, _, by omega, by go_num, HP10⟩
                case measure => simp [intOf]; omega
      · have ilj : ¬ (j : Int) < (n : Int) := by omega
        have HE := Lib.hid (bl_tr HB1.out HP.out.p2.bel)
        clear hlj HP
        go_wp2
        go_ret
        exact ⟨rfl, HE.out⟩
end Go.Proofs.Ytkiccdgfhahdlaa
