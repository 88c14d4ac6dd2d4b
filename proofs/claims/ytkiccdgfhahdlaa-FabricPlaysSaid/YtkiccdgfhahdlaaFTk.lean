/- The walk of FabricTakes over the contracts of the fabric. No conditions but those stated. -/
import Derived.Test.YtkiccdgfhahdlaaTkA
import Derived.Deep.AppendLies
import Derived.Deep.RegionHeld3
namespace Go.Proofs.Ytkiccdgfhahdlaa
open Go Go.RowKit
set_option linter.unusedVariables false
set_option linter.unusedSimpArgs false

/-- What FabricTakes holds behind j calls. -/
structure TkH (w0 w : World) (f j : Nat) (F : Nat → Prop) (ls : List Lt) (last : Nat) (S : List Lt) (vs : List Value) (sa : Option Addr) (sn sc : Nat) (T : List Int) (ta : Option Addr) (tn tc : Nat) : Prop where
  st : StI w0 w f j F ls last
  sns : Sns w w0.heap.size F S vs sa sn sc T ta tn tc
  inv : PInv S ls T
  lst : last = S.length
theorem pinv_nil : PInv [] [] [] := ⟨fun i hi => by simp at hi, (fun x hx => by cases hx), (fun t ht => by cases ht), by simp, rfl⟩
theorem neq_612 (w : World) : (binOp .neq 36 (errnoF 6) (errnoF 6)).run Try.prog w = .ok (.bool false) w := by kernel_rfl
theorem eqn_12 (w : World) : (binOp .eql 36 (errnoF 12) .nilIface).run Try.prog w = .ok (.bool false) w := by kernel_rfl
theorem eqn_6 (w : World) : (binOp .eql 36 (errnoF 6) .nilIface).run Try.prog w = .ok (.bool false) w := by kernel_rfl
theorem neqn_6 (w : World) : (binOp .neq 36 (errnoF 6) .nilIface).run Try.prog w = .ok (.bool true) w := by kernel_rfl
set_option maxRecDepth 100000 in
set_option maxHeartbeats 8000000 in
theorem takes_t (ao : Option Addr) (n c : Nat) (os : List Op8) (w : World) (hI : S8In w ao n os) (hn : n ≤ 1152921504606846976) (hl : ∀ j, j < n → (os.getD j op8).n ≤ 1152921504606846976) :
    Calls Try.prog 4 #[.slice ao n c] w fun e w' => e = .returned (.bool true) ∧ Below w.heap.size w w' := by
  obtain ⟨jL, hjL, hy0, hy1, hy2⟩ := info_parts infoL
  obtain ⟨jN, hjN, hx0, hx1, hx2⟩ := info_parts infoN
  have CA := Lib.hid (alive8_any w)
  have CL := Lib.hid (fun U (hU : Below w.heap.size w U) => long8_t ao n c os U (hI.below hU) hn hl)
  have HI := Lib.hid hI
  have en := neq_nil
  have ee := errEq
  have e6 := neq_612
  have q12 := eqn_12
  have q6 := eqn_6
  have n6 := neqn_6
  clear hI hl
  go_enter Try.func4, Try.ntmps4
  go_wp2_with fail
  refine CA.out.mono ?_
  rintro e w0 ⟨rfl, hb⟩
  have CL0 := Lib.hid (CL.out w0 hb)
  have HB0 := Lib.hid hb
  clear hb CA CL
  go_wp2_with fail
  refine CL0.out.mono ?_
  rintro e w1 ⟨z, rfl, hb, hz⟩
  have HB1 := Lib.hid (bl_tr HB0.out hb)
  have HZ := Lib.hid hz
  clear hb CL0 HB0 hz
  cases z with
  | true =>
    go_wp2
    go_ret
    exact ⟨rfl, HB1.out⟩
  | false =>
    have HFW := Lib.hid (HZ.out rfl).2
    have hn7 : n ≤ 700 := (HZ.out rfl).1
    have CN := Lib.hid (fnew_t w1)
    clear HZ hn
    go_wp2_with fail
    refine CN.out.mono ?_
    rintro e w2 ⟨f, F, rfl, hf, hb⟩
    obtain ⟨W, hW⟩ : ∃ W, W = (w2.alloc (.cells #[] tyL)).alloc (.cells #[] 3) := ⟨_, rfl⟩
    have hbW : Below w2.heap.size w2 W := by rw [hW]; exact bl_al (bl_al (Below.refl _ _) _) _
    have hFl : ∀ k, F k → k < w2.heap.size := fun k hk => (hf.blocks k hk).2
    have P0 : Hid (TkH w1 W f 0 F [] 0 [] [] (some ⟨w2.heap.size, 0, none⟩) 0 0 [] (some ⟨w2.heap.size + 1, 0, none⟩) 0 0) := Lib.hid ⟨⟨hf.keep (tch_new hbW) (fun _ _ h => h), (fun x hx => by cases hx), Nat.le_refl _, Nat.le_refl _, hb.trans (hbW.mono hb.size)⟩, ⟨?s1, rfl, ?s2, (fun j hj => by simp at hj), ?s3, ?s4⟩, pinv_nil, rfl⟩
    case s1 =>
      have := (World.ownsRow_made (base := w1.heap.size) (e := tyL) (size := 5) w2 #[] 0 hb.size (by decide) rfl).alloc (.cells #[] 3)
      rw [hW]
      exact this
    case s2 =>
      have h1 : (w2.alloc (.cells #[] tyL)).heap.size = w2.heap.size + 1 := by simp
      have := World.ownsRow_made (base := w1.heap.size) (e := 3) (size := 1) (w2.alloc (.cells #[] tyL)) #[] 0 (by rw [h1]; have := hb.size; omega) (by decide) rfl
      rw [h1] at this
      rw [hW]
      exact this
    case s3 => intro k hk h; cases hk; have := hFl _ h; simp at this
    case s4 => intro k hk h; cases hk; have := hFl _ h; simp at this; omega
    have HW := Lib.hid hW
    clear hf hb CN hbW hFl hW
    go_upto_region 8 with fail
    rw [← HW.out]
    clear HW
    go_wp2
    go_loopw [4, 5, 29] (fun s t i wr => ∃ (j : Nat) (F : Nat → Prop) (ls : List Lt) (last : Nat) (S : List Lt) (vs : List Value) (sa : Option Addr) (sn sc : Nat) (T : List Int) (ta : Option Addr) (tn tc : Nat), j ≤ n ∧ sn ≤ j ∧ tn ≤ j ∧ i = .int .i64 j ∧ s = .slice sa sn sc ∧ t = .slice ta tn tc ∧ Hid (TkH w1 wr f j F ls last S vs sa sn sc T ta tn tc)) (fun _ _ i _ => n - (intOf i).toNat)
    case atStart => exact ⟨0, F, [], 0, [], [], _, 0, 0, [], _, 0, 0, by omega, by omega, by omega, rfl, rfl, rfl, P0⟩
    case round =>
      obtain ⟨j, F, ls, last, S, vs, sa, sn, sc, T, ta, tn, tc, hj, hsn, htn, rfl, rfl, rfl, HP⟩ := hrel
      clear P0
      by_cases hlj : j < n
      · have ilj : (j : Int) < (n : Int) := by omega
        have j0 : (0 : Int) ≤ (j : Int) := by omega
        have hst := HP.out.st
        have hIr := HI.out.below (bl_tr HB1.out hst.bel)
        obtain ⟨b, off, rfl⟩ := hIr.block (by omega)
        obtain ⟨o, ho⟩ : ∃ o, o = os.getD j op8 := ⟨_, rfl⟩
        obtain ⟨e0, e1, e2, e3, e4, e5⟩ := hIr.cells hlj ho.symm
        have hfw := HFW.out j hlj
        obtain ⟨hif, hid, hin⟩ := hIr.ints j hlj
        have hrow := fun U (hU : Below w.heap.size w U) => (HI.out.below hU).rows j hlj
        rw [← ho] at hfw hif hid hin
        simp only [← ho] at hrow
        have hlen := (hrow w (Below.refl _ _)).len
        obtain ⟨X, hX⟩ : ∃ X, X = WOp wr o := ⟨_, rfl⟩
        have hox : Ox X wr.heap.size o := by rw [hX]; exact Ox.new wr o
        have hbX : Below wr.heap.size wr X := by rw [hX]; exact bl_al (Below.refl _ _) _
        have hstX := hst.new hbX
        have hsnX := HP.out.sns.new (tch_new hbX)
        have hqF : ¬ F wr.heap.size := fun h => by have := (hst.st.blocks _ h).2; omega
        have hqS : ∀ k, ((Value.slice sa sn sc).ownBlock = some k ∨ (Value.slice ta tn tc).ownBlock = some k) → k ≠ wr.heap.size := fun k hk e => by
          rcases hk with hk | hk
          · have := (HP.out.sns.srow.lt k hk).2; omega
          · have := (HP.out.sns.trow.lt k hk).2; omega
        obtain ⟨q, hq⟩ : ∃ q, q = wr.heap.size := ⟨_, rfl⟩
        rw [← hq] at hox hqF hqS
        obtain ⟨c0, c1, c2, c3, c4, c5⟩ := hox.cell
        obtain ⟨kind, frm, dst, ctl, num, ra, rn, rc, bs⟩ := o
        simp only at e0 e1 e2 e3 e4 e5 c0 c1 c2 c3 c4 c5 hfw hif hid hin hrow hlen
        have HX := Lib.hid (show X = wr.alloc (.cells #[.int .i64 kind, .int .i64 frm, .int .i64 dst, .bool ctl, .int .i64 num, .slice ra rn rc] 33) from hX)
        have HQ := Lib.hid hq
        have HST := Lib.hid hstX
        have HSN := Lib.hid hsnX
        have HINV := Lib.hid HP.out.inv
        have HLS := Lib.hid HP.out.lst
        have HOX := Lib.hid hox
        have HROW := Lib.hid hrow
        have HQF := Lib.hid hqF
        have HQS := Lib.hid hqS
        have HLEN := Lib.hid hlen
        have hll : ls.length ≤ 700 := by have := hstX.len; omega
        have CS := Lib.hid (fsend_t w1.heap.size f last F ls frm dst ctl bs ra rn rc X hstX.st hstX.bel.size (by omega) (by have := hstX.last; omega) hif hid (fun U hU => hrow U (bl_tr HB1.out (fto_bel hstX.bel hstX.base hU))) hfw)
        have CT := Lib.hid (ftake_t w1.heap.size f last F ls num X hstX.st hstX.bel.size (by omega) hin hstX.ok.few)
        have CNth := Lib.hid (fnth_t w1.heap.size f last F ls num X hstX.st (by omega) hin hstX.ok.few)
        have HIN := Lib.hid hin
        have HBS : Hid (bs.length ≤ 1048576) := Lib.hid (by omega)
        clear hIr ho hX hox hbX hst hstX hsnX hq hqF hqS hrow hlen hif hid hin hfw HP
        go_upto_region 11 with fail
        rw [← HX.out, ← HQ.out]
        clear HX HQ e0 e1 e2 e3 e4 e5
        by_cases hk0 : kind = 0
        · subst hk0
          clear CT CNth
          by_cases hnode : IsNode frm ∧ IsNode dst
          · have hsr := sendR_ok (ls := ls) (last := last) (ctl := ctl) (bs := bs) hnode.1 hnode.2 (by omega)
            rw [hsr] at CS
            have HOKS := Lib.hid (show Okl (ls ++ [⟨(last : Int) + 1, frm, dst, ctl, bs⟩]) from by
              have := HST.out.ok.send (last := last) (frm := frm) (dst := dst) (ctl := ctl) HBS.out
              rw [hsr] at this
              exact this)
            clear hnode hsr
            go_wp2_with fail
            refine CS.out.mono ?_
            rintro e w3 ⟨rfl, F2, h2, hF2, ht⟩
            have hb3 := fto_bel HST.out.bel HST.out.base ht
            have hS3 := HSN.out.turn ht hF2
            have hox3 := HOX.out.keep ht HQF.out
            obtain ⟨d0, d1, d2, d3, d4, d5⟩ := hox3.cell
            simp only at d0 d1 d2 d3 d4 d5
            have hFl : ∀ k, F2 k → k < w3.heap.size := fun k hk => (h2.blocks k hk).2
            have hF2b : ∀ k, F2 k → w1.heap.size ≤ k := fun k hk => (h2.blocks k hk).1
            have HS3 := Lib.hid hS3
            have HH2 := Lib.hid h2
            have HB3 := Lib.hid hb3
            have HFl := Lib.hid hFl
            have hB3 : w1.heap.size ≤ w3.heap.size := hb3.size
            have hInp := HROW.out w3 (bl_tr HB1.out hb3)
            have hsafe : bs ≠ [] → ∀ ad, ra = some ad → ad.block < w3.heap.size ∧ ¬ F2 ad.block ∧ (Value.slice sa sn sc).ownBlock ≠ some ad.block ∧ (Value.slice ta tn tc).ownBlock ≠ some ad.block := fun hne ad had => by
              have hin0 := HROW.out w (Below.refl _ _)
              obtain ⟨a', c', e', h0 | ⟨bb, oo, hab, hc⟩⟩ := hin0.here
              · exact absurd h0 hne
              · cases e'
                rw [had] at hab
                cases hab
                have hbl : bb < w.heap.size := World.block_lt_of_cell? _ _ (hc 0 (List.length_pos_iff.2 hne))
                have hw1 := HB1.out.size
                refine ⟨?_, fun e => ?_, fun e => ?_, fun e => ?_⟩
                · show bb < w3.heap.size
                  omega
                · have := hF2b _ e
                  have : w1.heap.size ≤ bb := this
                  omega
                · have : w1.heap.size ≤ bb := (HS3.out.srow.lt _ e).1
                  omega
                · have : w1.heap.size ≤ bb := (HS3.out.trow.lt _ e).1
                  omega
            have HIP := Lib.hid hInp
            have HSF := Lib.hid hsafe
            have HN5 := Lib.hid (new5 w3 [.int .i64 ((last + 1 : Nat) : Int), .int .i64 frm, .int .i64 dst, .bool ctl, .slice ra rn rc] tyL)
            have HC1 : Hid (∀ u ∈ [.int .i64 ((last + 1 : Nat) : Int), .int .i64 frm, .int .i64 dst, .bool ctl, Value.slice ra rn rc], u.oneCell' = true) := Lib.hid (fun u hu => by
              simp only [List.mem_cons, List.not_mem_nil, or_false] at hu
              rcases hu with rfl | rfl | rfl | rfl | rfl <;> rfl)
            clear h2 hF2 ht hb3 hS3 hox3 hFl hF2b hInp hsafe CS c0 c1 c2 c3 c4 c5
            rw [show errF (last + 1, 0, ls ++ [_], last + 1).2.1 = Value.nilIface from rfl]
            go_wp2_with (at_builtin; refine wpList_append_lies _ rfl (.tmp 95) (.tmp 106) 28 rfl w1.heap.size tyL jL (.agg #[.int .i64 0, .int .i64 0, .int .i64 0, .bool false, .slice none 0 0]) 5 56 Try.underlying28 hjL hy0 hy1 hy2 rfl (by decide) _ sn (cellsL S vs) rfl (HS3.out.srow.alloc _) ⟨w3.heap.size, 0, none⟩ 1 1 [.int .i64 ((last + 1 : Nat) : Int), .int .i64 frm, .int .i64 dst, .bool ctl, .slice ra rn rc] rfl rfl HN5.out HC1.out (by decide) ?c2 ?c3 ?c4 _ rfl ?_)
            case c2 => unfold maxLen; omega
            case c3 => omega
            case c4 => simp; omega
            intro g8 c8 w8 hown hg hlie hlt
            have hlen := HLEN.out
            subst hlen
            have hTT : Tch (fun k => some k = (Value.slice sa sn sc).ownBlock) w3 w8 := ((tch_alloc w3 (.cells #[.int .i64 ((last + 1 : Nat) : Int), .int .i64 frm, .int .i64 dst, .bool ctl, .slice ra bs.length rc] tyL)).mono (fun _ h => h.elim)).trans (tch_grown hg)
            have hS8 := HS3.out.addS (x := ⟨((last + 1 : Nat) : Int), frm, dst, ctl, bs⟩) HIP.out.here HSF.out hown hTT (hlie.imp (fun h => h) (fun h => by rw [h]; simp)) HFl.out
            have hidx : ((last + 1 : Nat) : Int) = (S.length : Int) + 1 := by have := HLS.out; omega
            have hI8 := HINV.out.put (x := ⟨((last + 1 : Nat) : Int), frm, dst, ctl, bs⟩) hidx
            have HP8 : Hid (TkH w1 w8 f (j + 1) F2 (ls ++ [⟨(last : Int) + 1, frm, dst, ctl, bs⟩]) (last + 1) (S ++ [⟨((last + 1 : Nat) : Int), frm, dst, ctl, bs⟩]) (vs ++ [.slice ra bs.length rc]) (some ⟨g8, 0, none⟩) (sn + 1) c8 T ta tn tc) := Lib.hid ⟨⟨HH2.out.keep hTT (fun k hk e => HS3.out.sfar k e.symm hk), HOKS.out, by have := HST.out.len; simp; omega, by have := HST.out.last; omega, fto_bel HB3.out (fun k hk => (HS3.out.srow.lt k hk).1) (hTT.mono (fun k hk => hk.symm))⟩, hS8, hI8, by have := HLS.out; simp; omega⟩
            clear hown hg hlie hlt hTT hS8 hI8 hidx HS3 HH2 HB3 HFl HIP HSF HN5 HC1 HOKS HST HSN HINV HLS HOX HROW HQF HQS HLEN d0 d1 d2 d3 d4 d5
            go_wp2
            go_roundw
            case rel => exact ⟨j + 1, F2, _, _, _, _, _, _, _, _, _, _, _, by omega, by omega, by omega, by go_num, rfl, rfl, HP8⟩
            case measure => simp [intOf]; omega
          · rw [sendR_no hnode] at CS
            clear hnode
            go_wp2_with fail
            refine CS.out.mono ?_
            rintro e w3 ⟨rfl, F2, h2, hF2, ht⟩
            have HP8 : Hid (TkH w1 w3 f (j + 1) F2 ls last S vs sa sn sc T ta tn tc) := Lib.hid ⟨⟨h2, HST.out.ok, Nat.le_succ_of_le HST.out.len, Nat.le_succ_of_le HST.out.last, fto_bel HST.out.bel HST.out.base ht⟩, HSN.out.turn ht hF2, HINV.out, HLS.out⟩
            clear h2 hF2 ht CS c0 c1 c2 c3 c4 c5 HST HSN HINV HLS HOX HROW HQF HQS HLEN
            rw [show errF (0, 12, ls, last).2.1 = errnoF 12 from rfl]
            go_wp2
            go_roundw
            case rel => exact ⟨j + 1, F2, _, _, _, _, _, _, _, _, _, _, _, by omega, by omega, by omega, by go_num, rfl, rfl, HP8⟩
            case measure => simp [intOf]; omega
        · have k0 : (kind == 0) = false := by rw [beq_eq_false_iff_ne]; exact hk0
          clear CS
          by_cases hk2 : kind = 2
          · subst hk2
            clear hk0 CT
            go_wp2_with fail
            refine CNth.out.mono ?_
            rintro e w3 ⟨v, rfl, ho, hb3⟩
            obtain ⟨av, cv, rfl⟩ := own_form ho
            obtain ⟨x, er, hxe⟩ : ∃ x er, nthR ls num = (x, er) := ⟨_, _, rfl⟩
            rw [hxe] at ho ⊢
            simp only at ho ⊢
            obtain ⟨nb, hnb⟩ : ∃ k, k = x.bs.length := ⟨_, rfl⟩
            rw [← hnb] at ho ⊢
            obtain ⟨Y, hY⟩ : ∃ Y, Y = w3.alloc (.cells #[.int .i64 x.id, .int .i64 x.frm, .int .i64 x.dst, .bool x.ctl, .slice av nb cv] tyL) := ⟨_, rfl⟩
            have hb3Y : Below w3.heap.size w3 Y := by rw [hY]; exact bl_al (Below.refl _ _) _
            have hbXY : Below X.heap.size X Y := hb3.trans (hb3Y.mono hb3.size)
            have hbx : Bx Y w3.heap.size x (.slice av nb cv) := by rw [hY]; exact Bx.new w3 x _
            have hstY := HST.out.new hbXY
            have hsnY := HSN.out.new (tch_new hbXY)
            have hoxY := HOX.out.keep (tch_new hbXY) (fun h => h)
            have hoY := (tch_new hb3Y).own ho (fun _ _ h => h)
            have CC := Lib.hid (fcopy_t w1.heap.size f last F ls num Y hstY.st hstY.bel.size (by omega) (by have := hstY.last; omega) HIN.out hstY.ok.few)
            obtain ⟨p, hp⟩ : ∃ p, p = w3.heap.size := ⟨_, rfl⟩
            rw [← hp] at hbx
            obtain ⟨_, _, _, _, d4, _⟩ := hoxY.cell
            simp only at d4
            have hpF : ¬ F p := fun h => by have := (HST.out.st.blocks p h).2; have := hb3.size; omega
            have hpS : p < Y.heap.size := hbx.lt
            have hp3 : X.heap.size ≤ p := by have := hb3.size; omega
            have HBX := Lib.hid hbx
            have HSY := Lib.hid hstY
            have HNY := Lib.hid hsnY
            have HOY := Lib.hid hoY
            have HPF := Lib.hid hpF
            have HP3 := Lib.hid hp3
            have HY := Lib.hid hY
            have HPP := Lib.hid hp
            have HXE := Lib.hid hxe
            have HNB := Lib.hid hnb
            clear ho hb3 hxe hnb hY hb3Y hbXY hbx hstY hsnY hoxY hoY hp hpF hpS hp3 CNth
            obtain ⟨xi, xf, xd, xc, xb⟩ := x
            unfold Lt.val
            go_upto_region 25 with fail
            rw [← HY.out, ← HPP.out]
            clear HY HPP c0 c1 c2 c3 c4 c5
            go_wp2_with fail
            refine CC.out.mono ?_
            rintro e w5 ⟨rfl, F2, h2, hF2, ht⟩
            by_cases hls : ls = []
            · subst hls
              have hr : copyR [] last num = (0, 6, [], last) := rfl
              have hx : er = 6 := by have := HXE.out; simp only [nthR, if_true, Prod.mk.injEq] at this; exact this.2.symm
              rw [hr] at h2 ⊢
              subst hx
              have HP8 : Hid (∀ t, TkH w1 (w5.drewN t) f (j + 1) F2 [] last S vs sa sn sc T ta tn tc) := Lib.hid (fun t => by
                have hb5 := below_drewN (Below.refl w5.heap.size w5) t
                have h3 : StI w1 w5 f (j + 1) F2 [] last := ⟨h2, HST.out.ok, Nat.le_succ_of_le HST.out.len, Nat.le_succ_of_le HST.out.last, fto_bel HSY.out.bel HSY.out.base ht⟩
                exact ⟨h3.new hb5, (HNY.out.turn ht hF2).new (tch_new hb5), HINV.out, HLS.out⟩)
              clear h2 hF2 ht CC HST HSN HINV HLS HOX HROW HQF HQS HLEN HBX HSY HNY HOY HPF HP3 HXE HNB d4
              rw [show errF 6 = errnoF 6 from rfl]
              go_wp2
              go_quiet (fail)
              go_wp2
              go_roundw
              case rel => exact ⟨j + 1, F2, _, _, _, _, _, _, _, _, _, _, _, by omega, by omega, by omega, by go_num, rfl, rfl, HP8.out _⟩
              case measure => simp [intOf]; omega
            · have hpos : 0 < ls.length := List.length_pos_iff.2 hls
              have hxx : (⟨xi, xf, xd, xc, xb⟩ : Lt) = ls.getD (plc num ls.length) lt0 ∧ er = 0 := by
                have := HXE.out
                unfold nthR at this
                rw [if_neg hls] at this
                simp only [Prod.mk.injEq] at this
                exact ⟨this.1.symm, this.2.symm⟩
              have hr : copyR ls last num = (last + 1, 0, ls ++ [⟨(last : Int) + 1, xf, xd, xc, xb⟩], last + 1) := by
                unfold copyR putR
                rw [if_neg hls, if_neg (by omega), ← hxx.1]
              have hok := HST.out.ok.copy (last := last) (n := num)
              rw [hr] at h2 hok ⊢
              obtain ⟨_, rfl⟩ := hxx
              simp only at h2 hok
              have HOK := Lib.hid hok
              rw [show errF 0 = Value.nilIface from rfl]
              go_upto_region 26 with fail
              go_quiet (fail)
              obtain ⟨V, hV⟩ : ∃ V, V = w5.drewN nq := ⟨_, rfl⟩
              rw [← hV]
              have hTV : Tch Non w5 V := by rw [hV]; exact tch_new (below_drewN (Below.refl w5.heap.size w5) nq)
              have h2 := h2.keep hTV (fun _ _ h => h)
              have ht := ht.trans (hTV.mono (fun _ h => h.elim))
              clear hV hTV
              have hb5 := fto_bel HSY.out.bel HSY.out.base ht
              have hS5 := HNY.out.turn ht hF2
              have hbx5 := HBX.out.keep ht HPF.out
              have ho5 := ht.own HOY.out (fun k hk e => by have := (HOY.out.lt k hk).1; have := (HST.out.st.blocks k e).2; omega)
              have hFl : ∀ k, F2 k → k < V.heap.size := fun k hk => (h2.blocks k hk).2
              have hpF2 : ¬ F2 p := fun e => by
                rcases hF2 p e with h | h
                · exact HPF.out h
                · have := HBX.out.lt; omega
              have hsafe : ∀ k, (Value.slice av nb cv).ownBlock = some k → k < V.heap.size ∧ ¬ F2 k ∧ (Value.slice sa sn sc).ownBlock ≠ some k ∧ (Value.slice ta tn tc).ownBlock ≠ some k := fun k hk => by
                have h1 := HOY.out.lt k hk
                refine ⟨(ho5.lt k hk).2, fun e => ?_, fun e => ?_, fun e => ?_⟩
                · rcases hF2 k e with h | h
                  · have := (HST.out.st.blocks k h).2; omega
                  · omega
                · have := (HSN.out.srow.lt k e).2; omega
                · have := (HSN.out.trow.lt k e).2; omega
              -- the letter's number is written
              obtain ⟨y0, y1, y2, y3, y4⟩ := hbx5.cell
              have yf := hbx5.free
              simp only at y0 y1 y2 y3 y4
              obtain ⟨Z, hZ⟩ : ∃ Z, Z = V.setCell ⟨p, 0, none⟩ (.int .i64 ((last : Int) + 1)) := ⟨_, rfl⟩
              have hTZ : Tch (· = p) V Z := by rw [hZ]; exact tch_set V ⟨p, 0, none⟩ _
              have hbxZ : Bx Z p ⟨((last : Int) + 1), xf, xd, xc, xb⟩ (.slice av nb cv) := by rw [hZ]; exact hbx5.id _
              have hpn : ∀ k, k < X.heap.size → k ≠ p := fun k hk e => by have := HP3.out; omega
              have hSZ : Sns Z w1.heap.size F2 S vs sa sn sc T ta tn tc := by
                have h0 := hS5
                refine ⟨hTZ.own h0.srow (fun k hk => hpn k (HSN.out.srow.lt k hk).2), h0.slen, hTZ.own h0.trow (fun k hk => hpn k (HSN.out.trow.lt k hk).2), fun j hj => ?_, h0.sfar, h0.tfar⟩
                obtain ⟨a1, c1, e1, hA1, hs1⟩ := h0.rows j hj
                obtain ⟨a2, c2, e2, hA2, hs2⟩ := HSN.out.rows j hj
                rw [e1] at e2
                cases e2
                exact ⟨a1, c1, e1, hA1.tch hTZ (fun hne ad had => hpn _ (hs2 hne ad had).1), fun hne ad had => ⟨Nat.lt_of_lt_of_le (hs1 hne ad had).1 hTZ.size, (hs1 hne ad had).2⟩⟩
              have h2Z := h2.keep hTZ (fun k hk e => hpF2 (by rw [← e]; exact hk))
              have hbZ := hb5.trans (hTZ.below (B := w1.heap.size) (fun k hk => by have : k = p := hk; have := HST.out.bel.size; have := HP3.out; omega) hb5.size)
              have hoZ := hTZ.own ho5 (fun k hk e => by
                have e2 : k = p := e
                have h1 := (HOY.out.lt k hk)
                have h3 := HBX.out
                subst e2
                rcases HOY.out.2 with ⟨e9, _⟩ | ⟨g, cap, cur, e9, _, e10, _⟩
                · cases e9; cases hk
                · cases e9
                  have e11 : g = k := by cases hk; rfl
                  subst e11
                  unfold Bx at h3
                  rw [h3] at e10
                  have e12 : tyL = 5 := congrArg (fun o => match o with | some (Obj.cells _ e _) => e | _ => 0) e10
                  exact absurd e12 (by decide))
              have HHZ := Lib.hid h2Z
              have HSZ := Lib.hid hSZ
              have HBZ := Lib.hid hbZ
              have HOZ := Lib.hid hoZ
              have HFl := Lib.hid (fun k hk => Nat.lt_of_lt_of_le (hFl k hk) hTZ.size)
              have HSF := Lib.hid (fun k hk => (⟨Nat.lt_of_lt_of_le (hsafe k hk).1 hTZ.size, (hsafe k hk).2⟩ : k < Z.heap.size ∧ ¬ F2 k ∧ (Value.slice sa sn sc).ownBlock ≠ some k ∧ (Value.slice ta tn tc).ownBlock ≠ some k))
              have HZ := Lib.hid hZ
              have hB3 : w1.heap.size ≤ Z.heap.size := hbZ.size
              obtain ⟨z0, z1, z2, z3, z4⟩ := hbxZ.cell
              simp only at z0 z1 z2 z3 z4
              have HFT := Lib.hid (show fit xb from by
                have h1 := HSY.out.st.fits
                have h3 : (⟨xi, xf, xd, xc, xb⟩ : Lt) ∈ ls := by
                  have := HXE.out
                  unfold nthR at this
                  rw [if_neg hls] at this
                  simp only [Prod.mk.injEq, and_true] at this
                  rw [← this, List.getD_eq_getElem?_getD, List.getElem?_eq_getElem (plc_lt num hpos)]
                  exact List.getElem_mem _
                exact h1 _ h3)
              clear h2 hF2 ht hok hb5 hS5 hbx5 ho5 hFl hpF2 hsafe hZ hTZ hbxZ hpn hSZ h2Z hbZ hoZ hpos hls hr CC
              go_upto_region 30 with fail
              rw [← HZ.out]
              clear HZ y0 y1 y2 y3 y4 yf
              have HN5 := Lib.hid (new5 Z [.int .i64 ((last : Int) + 1), .int .i64 xf, .int .i64 xd, .bool xc, .slice av nb cv] tyL)
              have HC1 : Hid (∀ u ∈ [.int .i64 ((last : Int) + 1), .int .i64 xf, .int .i64 xd, .bool xc, Value.slice av nb cv], u.oneCell' = true) := Lib.hid (fun u hu => by
                simp only [List.mem_cons, List.not_mem_nil, or_false] at hu
                rcases hu with rfl | rfl | rfl | rfl | rfl <;> rfl)
              go_wp2_with (at_builtin; refine wpList_append_lies _ rfl (.tmp 133) (.tmp 135) 28 rfl w1.heap.size tyL jL (.agg #[.int .i64 0, .int .i64 0, .int .i64 0, .bool false, .slice none 0 0]) 5 56 Try.underlying28 hjL hy0 hy1 hy2 rfl (by decide) _ sn (cellsL S vs) rfl (HSZ.out.srow.alloc _) ⟨Z.heap.size, 0, none⟩ 1 1 [.int .i64 ((last : Int) + 1), .int .i64 xf, .int .i64 xd, .bool xc, .slice av nb cv] rfl rfl HN5.out HC1.out (by decide) ?c2 ?c3 ?c4 _ rfl ?_)
              case c2 => unfold maxLen; omega
              case c3 => omega
              case c4 => simp; omega
              intro g8 c8 w8 hown hg hlie hlt
              have hnb := HNB.out
              subst hnb
              have hTT : Tch (fun k => some k = (Value.slice sa sn sc).ownBlock) Z w8 := ((tch_alloc Z (.cells #[.int .i64 ((last : Int) + 1), .int .i64 xf, .int .i64 xd, .bool xc, .slice av xb.length cv] tyL)).mono (fun _ h => h.elim)).trans (tch_grown hg)
              have hS8 := HSZ.out.addS (x := ⟨((last : Int) + 1), xf, xd, xc, xb⟩) (At.own HOZ.out) (fun _ ad had => HSF.out ad.block (by rw [had]; rfl)) hown hTT (hlie.imp (fun h => h) (fun h => by rw [h]; simp)) HFl.out
              have hidx : ((last : Int) + 1) = (S.length : Int) + 1 := by have := HLS.out; omega
              have hI8 := HINV.out.put (x := ⟨((last : Int) + 1), xf, xd, xc, xb⟩) hidx
              have HP8 : Hid (TkH w1 w8 f (j + 1) F2 (ls ++ [⟨(last : Int) + 1, xf, xd, xc, xb⟩]) (last + 1) (S ++ [⟨((last : Int) + 1), xf, xd, xc, xb⟩]) (vs ++ [.slice av xb.length cv]) (some ⟨g8, 0, none⟩) (sn + 1) c8 T ta tn tc) := Lib.hid ⟨⟨HHZ.out.keep hTT (fun k hk e => HSZ.out.sfar k e.symm hk), HOK.out, by have := HST.out.len; simp; omega, by have := HST.out.last; omega, fto_bel HBZ.out (fun k hk => (HSZ.out.srow.lt k hk).1) (hTT.mono (fun k hk => hk.symm))⟩, hS8, hI8, by have := HLS.out; simp; omega⟩
              clear hown hg hlie hlt hTT hS8 hI8 hidx HSZ HHZ HBZ HFl HSF HN5 HC1 HOK HST HSN HINV HLS HOX HROW HQF HQS HLEN HBX HSY HNY HOY HPF HP3 HXE HNB HOZ HFT d4 z0 z1 z2 z3 z4
              go_wp2
              go_roundw
              case rel => exact ⟨j + 1, F2, _, _, _, _, _, _, _, _, _, _, _, by omega, by omega, by omega, by go_num, rfl, rfl, HP8⟩
              case measure => simp [intOf]; omega
          · have k2 : (kind == 2) = false := by rw [beq_eq_false_iff_ne]; exact hk2
            clear CNth
            have HL2 : Hid (leftR ls num = ls.eraseIdx (plc num ls.length)) := Lib.hid rfl
            go_wp2_with fail
            refine CT.out.mono ?_
            rintro e w3 ⟨v, F2, rfl, ho, hv, h2, hF2, ht⟩
            obtain ⟨av, cv, rfl⟩ := own_form ho
            by_cases hls : ls = []
            · subst hls
              rw [show nthR [] num = (lt0, 6) from rfl] at ho ⊢
              rw [show leftR [] num = [] from rfl] at h2
              obtain ⟨Y, hY⟩ : ∃ Y, Y = w3.alloc (.cells #[.int .i64 0, .int .i64 0, .int .i64 0, .bool false, .slice av 0 cv] tyL) := ⟨_, rfl⟩
              have hbY : Below w3.heap.size w3 Y := by rw [hY]; exact bl_al (Below.refl _ _) _
              have h3 : StI w1 w3 f (j + 1) F2 [] last := ⟨h2, HST.out.ok, Nat.le_succ_of_le HST.out.len, Nat.le_succ_of_le HST.out.last, fto_bel HST.out.bel HST.out.base ht⟩
              have hP8 : TkH w1 Y f (j + 1) F2 [] last S vs sa sn sc T ta tn tc := ⟨h3.new hbY, (HSN.out.turn ht hF2).new (tch_new hbY), HINV.out, HLS.out⟩
              have CLn := Lib.hid (flen_t w1.heap.size f last F2 [] Y hP8.st.st)
              have HP8 := Lib.hid hP8
              have HY := Lib.hid hY
              clear ho hv h2 hF2 ht hbY h3 hP8 hY CT c0 c1 c2 c3 c4 c5 HST HSN HINV HLS HOX HROW HQF HQS HLEN HL2
              unfold Lt.val lt0
              go_upto_region 13 with fail
              rw [show errF 6 = errnoF 6 from rfl, ← HY.out]
              clear HY
              go_wp2_with fail
              refine CLn.out.mono ?_
              rintro e w4 ⟨rfl, ht⟩
              have HP9 : Hid (TkH w1 w4 f (j + 1) F2 [] last S vs sa sn sc T ta tn tc) := Lib.hid (by
                have hb := ht.below (B := Y.heap.size) (fun _ h => h.elim) (Nat.le_refl _)
                exact ⟨HP8.out.st.new hb, HP8.out.sns.new ht, HP8.out.inv, HP8.out.lst⟩)
              clear ht CLn HP8
              go_wp2
              go_roundw
              case rel => exact ⟨j + 1, F2, _, _, _, _, _, _, _, _, _, _, _, by omega, by omega, by omega, by go_num, rfl, rfl, HP9⟩
              case measure => simp [intOf]; omega
            · have hpos : 0 < ls.length := List.length_pos_iff.2 hls
              have hpl := plc_lt num hpos
              have hnr : nthR ls num = (ls.getD (plc num ls.length) lt0, 0) := by unfold nthR; rw [if_neg hls]
              rw [hnr] at ho ⊢
              have hxm : ls.getD (plc num ls.length) lt0 ∈ ls := by
                rw [List.getD_eq_getElem?_getD, List.getElem?_eq_getElem hpl]
                exact List.getElem_mem hpl
              have hI8 := HINV.out.take hpl
              rw [← HL2.out] at hI8
              obtain ⟨x, hx⟩ : ∃ x, x = ls.getD (plc num ls.length) lt0 := ⟨_, rfl⟩
              rw [← hx] at ho hxm hI8 ⊢
              obtain ⟨m1, m2, m3⟩ := HINV.out.mem x hxm
              have hok := HST.out.ok.left (n := num)
              have hgr := leftR_grow (n := num) HST.out.len
              obtain ⟨i, hi⟩ : ∃ i : Nat, i = (x.id - 1).toNat := ⟨_, rfl⟩
              rw [← hi] at m3
              have hxi : x.id = (i : Int) + 1 := by omega
              have hSl := HSN.out.len.1
              have hin : i < sn := by omega
              obtain ⟨nb, hnb⟩ : ∃ k, k = x.bs.length := ⟨_, rfl⟩
              simp only [← hnb] at ho hv ⊢
              obtain ⟨Y, hY⟩ : ∃ Y, Y = w3.alloc (.cells #[.int .i64 x.id, .int .i64 x.frm, .int .i64 x.dst, .bool x.ctl, .slice av nb cv] tyL) := ⟨_, rfl⟩
              have hbY : Below w3.heap.size w3 Y := by rw [hY]; exact bl_al (Below.refl _ _) _
              have hbx : Bx Y w3.heap.size x (.slice av nb cv) := by rw [hY]; exact Bx.new w3 x _
              have h3 : StI w1 w3 f (j + 1) F2 (leftR ls num) last := ⟨h2, hok, hgr, Nat.le_succ_of_le HST.out.last, fto_bel HST.out.bel HST.out.base ht⟩
              have hs3 := HSN.out.turn ht hF2
              have hsY := hs3.new (tch_new hbY)
              have hstY := h3.new hbY
              have hoY := (tch_new hbY).own ho (fun _ _ h => h)
              obtain ⟨p, hp⟩ : ∃ p, p = w3.heap.size := ⟨_, rfl⟩
              rw [← hp] at hbx
              have hpT : ∀ k, (Value.slice ta tn tc).ownBlock = some k → k ≠ p := fun k hk e => by have := (hs3.trow.lt k hk).2; omega
              have hpS : p < Y.heap.size := hbx.lt
              have hvT : ∀ k, (Value.slice av nb cv).ownBlock = some k → (Value.slice ta tn tc).ownBlock ≠ some k := fun k hk e => own_kinds hoY hsY.trow (by decide) k hk e
              obtain ⟨xi, xf, xd, xc, xb⟩ := x
              simp only at hxi hnb
              subst hxi
              have HBX := Lib.hid hbx
              have HSY := Lib.hid hstY
              have HNY := Lib.hid hsY
              have HOY := Lib.hid hoY
              have HPT := Lib.hid hpT
              have HVT := Lib.hid hvT
              have HM3 := Lib.hid m3
              have HI8 := Lib.hid hI8
              have HY := Lib.hid hY
              have HPP := Lib.hid hp
              have HNB := Lib.hid hnb
              have HFl : Hid (∀ k, F2 k → k < Y.heap.size) := Lib.hid (fun k hk => (hstY.st.blocks k hk).2)
              have hB3 : w1.heap.size ≤ Y.heap.size := hstY.bel.size
              clear ho hv h2 hF2 ht hls hpos hpl hnr hxm hI8 hx m1 m2 m3 hok hgr hi hY hbY hbx h3 hs3 hsY hstY hoY hp hpT hpS hvT hnb CT c0 c1 c2 c3 c4 c5
              unfold Lt.val
              go_upto_region 13 with fail
              rw [show errF 0 = Value.nilIface from rfl, ← HY.out, ← HPP.out]
              clear HY HPP
              obtain ⟨y0, y1, y2, y3, y4⟩ := HBX.out.cell
              simp only at y0 y1 y2 y3 y4
              go_wp2_with (at_builtin; refine wpList_append_lies _ rfl (.tmp 52) (.tmp 55) 54 rfl w1.heap.size 3 jN (.int .i64 0) 1 8 Try.underlying54 hjN hx0 hx1 hx2 rfl (by decide) _ tn (i64s T) rfl (HNY.out.trow.alloc _) ⟨Y.heap.size, 0, none⟩ 1 1 [.int .i64 ((i : Int) + 1)] rfl rfl (cell_one_new Y _ _) ?c1 (by decide) ?c2 ?c3 ?c4 _ rfl ?_)
              case c1 => first | rfl | (intro u hu; simp at hu; subst hu; rfl)
              case c2 => unfold maxLen; omega
              case c3 => omega
              case c4 => first | omega | (simp; omega)
              intro g8 c8 w8 hown hg hlie hlt
              have hTT : Tch (fun k => some k = (Value.slice ta tn tc).ownBlock) Y w8 := ((tch_alloc Y (.cells #[.int .i64 ((i : Int) + 1)] 3)).mono (fun _ h => h.elim)).trans (tch_grown hg)
              have hS8 := HNY.out.addT (x := (i : Int) + 1) (by unfold i64s at hown ⊢; rw [List.map_append]; exact hown) hTT (hlie.imp (fun h => h) (fun h => by rw [h]; simp)) HFl.out
              have hb8 := fto_bel HSY.out.bel (fun k hk => (HNY.out.trow.lt k hk).1) (hTT.mono (fun k hk => hk.symm))
              have hst8 : StI w1 w8 f (j + 1) F2 (leftR ls num) last := ⟨HSY.out.st.keep hTT (fun k hk e => HNY.out.tfar k e.symm hk), HSY.out.ok, HSY.out.len, HSY.out.last, hb8⟩
              have hbx8 := HBX.out.keep hTT (fun e => HPT.out p e.symm rfl)
              have ho8 := hTT.own HOY.out (fun k hk e => HVT.out k hk e.symm)
              have hS0 := HSN.out.len.1
              obtain ⟨a1, c1, e1, hA1, _⟩ := hS8.rows i (by omega)
              have hcl : ∃ g, sa = some ⟨g, 0, none⟩ ∧ ∀ k, k < 5 → w8.cell? ⟨g, i * 5 + k, none⟩ = ((S.getD i lt0).cs (vs.getD i undef))[k]? := by
                rcases hS8.srow.2 with ⟨e, h0⟩ | ⟨g, cap, cur, e, _, hg', h1, h2, h3, h4⟩
                · omega
                · cases e
                  refine ⟨g, rfl, fun k hk => ?_⟩
                  rw [← cellsL_at hS8.slen (by omega) hk, ← h4, List.getElem?_take, if_pos (by omega), cell_of_row w8 g (i * 5 + k) _ _ _ hg', Array.getElem?_toList]
              obtain ⟨g, rfl, hcl⟩ := hcl
              rw [e1, HM3.out] at hcl
              rw [HM3.out] at hA1
              have hnb := HNB.out
              simp only [← hnb] at hcl
              simp only [← hnb] at hA1
              have p0 : w8.cell? ⟨g, i * 5, none⟩ = some (.int .i64 ((i : Int) + 1)) := hcl 0 (by omega)
              have p1 : w8.cell? ⟨g, i * 5 + 1, none⟩ = some (.int .i64 xf) := hcl 1 (by omega)
              have p2 : w8.cell? ⟨g, i * 5 + 2, none⟩ = some (.int .i64 xd) := hcl 2 (by omega)
              have p3 : w8.cell? ⟨g, i * 5 + 3, none⟩ = some (.bool xc) := hcl 3 (by omega)
              have p4 : w8.cell? ⟨g, i * 5 + 4, none⟩ = some (.slice a1 nb c1) := hcl 4 (by omega)
              obtain ⟨z0, z1, z2, z3, z4⟩ := hbx8.cell
              simp only at z0 z1 z2 z3 z4
              have hAv : At w8 (.slice av nb cv) xb := by
                have : w8.ownsRow w1.heap.size 5 1 (.slice av xb.length cv) xb.length (u8s xb) := by rw [← hnb]; exact ho8
                rw [hnb]
                exact At.own this
              have CL := Lib.hid (fun U (hU : Below w8.heap.size w8 U) => like_t ⟨(i : Int) + 1, xf, xd, xc, xb⟩ a1 av nb c1 nb cv U (hA1.below hU) hnb.symm (hAv.below hU) hnb.symm)
              unfold Lt.val at CL
              simp only at CL
              have v1 : ∀ [Inhabited Nat], IntKind.i64.wrap ((i : Int) + 1 - 1) = (i : Int) := by intro _; rw [IntWalk.i64_in _ (by omega)]; omega
              have v2 : ∀ [Inhabited Nat], IntKind.i64.wrap (i : Int) = (i : Int) := by intro _; rw [IntWalk.i64_in _ (by omega)]
              have i0 : (0 : Int) ≤ (i : Int) := by omega
              have i1 : (i : Int) < (sn : Int) := by omega
              have i2 : ¬ (i : Int) + 1 < 1 := by omega
              have i3 : ¬ (sn : Int) < (i : Int) + 1 := by omega
              have HP8 : Hid (∀ U, Below w8.heap.size w8 U → TkH w1 U f (j + 1) F2 (leftR ls num) last S vs (some ⟨g, 0, none⟩) sn sc (T ++ [(i : Int) + 1]) (some ⟨g8, 0, none⟩) (tn + 1) c8) := Lib.hid (fun U hU => ⟨hst8.new hU, hS8.new (tch_new hU), HI8.out, HLS.out⟩)
              clear hown hg hlie hlt hTT hS8 hb8 hst8 hbx8 ho8 hS0 e1 hA1 hcl hnb hAv HST HSN HINV HLS HOX HROW HQF HQS HLEN HBX HSY HNY HOY HPT HVT HM3 HI8 HNB HFl HL2 y0 y1 y2 y3 y4
              go_upto_region 17 with fail
              have hS0 : w8.drew.cell? ⟨g, i * 5, none⟩ = some (.int .i64 ((i : Int) + 1)) ∧ w8.drew.cell? ⟨g, i * 5 + 1, none⟩ = some (.int .i64 xf) ∧ w8.drew.cell? ⟨g, i * 5 + 2, none⟩ = some (.int .i64 xd) ∧ w8.drew.cell? ⟨g, i * 5 + 3, none⟩ = some (.bool xc) ∧ w8.drew.cell? ⟨g, i * 5 + 4, none⟩ = some (.slice a1 nb c1) ∧ w8.drew.cell? ⟨p, 0, none⟩ = some (.int .i64 ((i : Int) + 1)) ∧ w8.drew.cell? ⟨p, 1, none⟩ = some (.int .i64 xf) ∧ w8.drew.cell? ⟨p, 2, none⟩ = some (.int .i64 xd) ∧ w8.drew.cell? ⟨p, 3, none⟩ = some (.bool xc) ∧ w8.drew.cell? ⟨p, 4, none⟩ = some (.slice av nb cv) := ⟨p0, p1, p2, p3, p4, z0, z1, z2, z3, z4⟩
              have hb0 : Below w8.heap.size w8 w8.drew := (Below.refl _ _).drew
              go_region_held3 (fun wx => wx.cell? ⟨g, i * 5, none⟩ = some (.int .i64 ((i : Int) + 1)) ∧ wx.cell? ⟨g, i * 5 + 1, none⟩ = some (.int .i64 xf) ∧ wx.cell? ⟨g, i * 5 + 2, none⟩ = some (.int .i64 xd) ∧ wx.cell? ⟨g, i * 5 + 3, none⟩ = some (.bool xc) ∧ wx.cell? ⟨g, i * 5 + 4, none⟩ = some (.slice a1 nb c1) ∧ wx.cell? ⟨p, 0, none⟩ = some (.int .i64 ((i : Int) + 1)) ∧ wx.cell? ⟨p, 1, none⟩ = some (.int .i64 xf) ∧ wx.cell? ⟨p, 2, none⟩ = some (.int .i64 xd) ∧ wx.cell? ⟨p, 3, none⟩ = some (.bool xc) ∧ wx.cell? ⟨p, 4, none⟩ = some (.slice av nb cv)) (first | (with_reducible exact hS0) | (with_reducible exact hS5) | fail)
                (first | (go_at_call 20; (with_reducible refine (CL.out _ hb0).mono ?_); rintro e w5 ⟨rfl, ht5⟩; have f5 := fun (p : Addr) (v : Value) (h : w8.drew.cell? p = some v) => ht5.cell h (fun h => h); have hS5 := And.intro (f5 _ _ p0) (And.intro (f5 _ _ p1) (And.intro (f5 _ _ p2) (And.intro (f5 _ _ p3) (And.intro (f5 _ _ p4) (And.intro (f5 _ _ z0) (And.intro (f5 _ _ z1) (And.intro (f5 _ _ z2) (And.intro (f5 _ _ z3) (f5 _ _ z4))))))))); have HP9 := Lib.hid (HP8.out w5 (hb0.trans (ht5.below (fun k hk => hk.elim) hb0.size)))) | fail)
              all_goals
                clear hS0 hS5 f5 ht5 hb0 CL p0 p1 p2 p3 p4 z0 z1 z2 z3 z4 HP8
                go_wp2
                go_roundw
                case rel => exact ⟨j + 1, F2, _, _, _, _, _, _, _, _, _, _, _, by omega, by omega, by omega, by go_num, rfl, rfl, HP9⟩
                case measure => simp [intOf]; omega
      · have ilj : ¬ (j : Int) < (n : Int) := by omega
        obtain ⟨W, rfl⟩ : ∃ W, W = wr := ⟨_, rfl⟩
        have hln := HP.out.sns.len
        have hAt := AtI.own (w := W) (B := w1.heap.size) (v := .slice ta tn tc) (l := T) (by rw [hln.2]; exact HP.out.sns.trow)
        have hcap : tn ≤ tc := by
          rcases HP.out.sns.trow.2 with ⟨e, h0⟩ | ⟨g, cap, cur, e, _, _, h1, _⟩
          · omega
          · cases e; exact h1
        have hnd : ∀ i k, k < i → i < T.length → T.getD i 0 ≠ T.getD k 0 := fun i k hki hi e => by
          have h1 := (List.nodup_append.1 HP.out.inv.dup).2.1
          rw [List.getD_eq_getElem?_getD, List.getD_eq_getElem?_getD, List.getElem?_eq_getElem hi, List.getElem?_eq_getElem (by omega)] at e
          exact (List.pairwise_iff_getElem.1 h1) k i (by omega) hi hki e.symm
        have HAt := Lib.hid hAt
        have HND := Lib.hid hnd
        have HLN := Lib.hid hln.2
        have B0 := Lib.hid (Below.refl W.heap.size W)
        have CLn := Lib.hid (fun U (hU : Below W.heap.size W U) => flen_t w1.heap.size f last F ls U (HP.out.st.new hU).st)
        have HBL := Lib.hid (bl_tr HB1.out HP.out.st.bel)
        have hcnt : ls.length + tn = sn := by have := HP.out.inv.cnt; omega
        have hls : ls.length ≤ 700 := by have := HP.out.st.len; omega
        have vc : ∀ [Inhabited Nat], IntKind.i64.wrap ((ls.length : Int) + (tn : Int)) = (sn : Int) := by intro _; rw [IntWalk.i64_in _ (by omega)]; omega
        have qc : ((sn : Int) == (sn : Int)) = true := by simp
        clear hAt hnd hln hlj
        go_wp2
        go_loopw [140] (fun i w3 => ∃ q : Nat, q ≤ tn ∧ i = .int .i64 q ∧ Hid (Below W.heap.size W w3)) (fun i _ => tn - (intOf i).toNat)
        case atStart => exact ⟨0, by omega, rfl, B0⟩
        case round =>
          obtain ⟨q, hq, rfl, HB⟩ := hrel
          obtain ⟨w3, rfl⟩ : ∃ v, v = wr := ⟨_, rfl⟩
          clear B0
          by_cases hlq : q < tn
          · have iq : (q : Int) < (tn : Int) := by omega
            have i0 : (0 : Int) ≤ (q : Int) := by omega
            have i2 : (q : Int) ≤ (tc : Int) := by omega
            obtain ⟨a8, c8, e8, h8⟩ := HAt.out
            have hae : ta = a8 := by cases e8; rfl
            rcases h8 with h0 | ⟨g8, off8, rfl, hc8⟩
            · have := HLN.out; rw [h0] at this; simp at this; omega
            have hcq := cell_later HB.out (hc8 q (by have := HLN.out; omega))
            obtain ⟨x, hx⟩ : ∃ x, x = T.getD q 0 := ⟨_, rfl⟩
            rw [← hx] at hcq
            have HXQ := Lib.hid hx
            have HC8 := Lib.hid hc8
            subst hae
            clear e8 hc8 hx
            go_wp2
            go_loopw [149] (fun i w4 => ∃ k : Nat, k ≤ q ∧ i = .int .i64 k ∧ Hid (Below W.heap.size W w4)) (fun i _ => q - (intOf i).toNat)
            case atStart => exact ⟨0, by omega, rfl, HB⟩
            case round =>
              obtain ⟨k, hk, rfl, HB4⟩ := hrel
              obtain ⟨w4, rfl⟩ : ∃ v, v = wr := ⟨_, rfl⟩
              by_cases hlk : k < q
              · have ik : (k : Int) < (q : Int) := by omega
                have k0 : (0 : Int) ≤ (k : Int) := by omega
                have hck := cell_later HB4.out (HC8.out k (by have := HLN.out; omega))
                have hne := HND.out q k hlk (by have := HLN.out; omega)
                rw [← HXQ.out] at hne
                obtain ⟨y, hy⟩ : ∃ y, y = T.getD k 0 := ⟨_, rfl⟩
                rw [← hy] at hck hne
                have qx : (x == y) = false := by rw [beq_eq_false_iff_ne]; exact hne
                clear hne hy
                go_wp2
                go_roundw
                case rel => exact ⟨k + 1, by omega, by go_num, HB4⟩
                case measure => simp [intOf]; omega
              · have ik : ¬ (k : Int) < (q : Int) := by omega
                go_wp2
                go_roundw
                case rel => exact ⟨q + 1, by omega, by go_num, HB4⟩
                case measure => simp [intOf]; omega
          · have iq : ¬ (q : Int) < (tn : Int) := by omega
            have CL3 := Lib.hid (CLn.out w3 HB.out)
            have HB5 := Lib.hid (bl_tr HBL.out HB.out)
            clear CLn HB
            go_wp2_with fail
            refine CL3.out.mono ?_
            rintro e w6 ⟨rfl, ht⟩
            have HB6 := Lib.hid (HB5.out.trans (ht.below (fun _ h => h.elim) HB5.out.size))
            clear ht CL3
            go_wp2
            go_ret
            exact ⟨rfl, HB6.out⟩
end Go.Proofs.Ytkiccdgfhahdlaa
