/- The walk of FabricBetween over the contracts of the fabric. No conditions but those stated. -/
import Derived.Test.YtkiccdgfhahdlaaFBt
namespace Go.Proofs.Ytkiccdgfhahdlaa
open Go Go.RowKit
set_option linter.unusedVariables false
set_option linter.unusedSimpArgs false

set_option maxRecDepth 100000 in
set_option maxHeartbeats 1000000 in
theorem between_no (ao : Option Addr) (n c : Nat) (os : List Op8) (w : World) (hI : S8In w ao n os) (hn : n ≤ 1152921504606846976) (hl : ∀ j, j < n → (os.getD j op8).n ≤ 1152921504606846976) (h60 : 60 < n) :
    Calls Try.prog 8 #[.slice ao n c] w fun e w' => e = .returned (.bool true) ∧ Below w.heap.size w w' := by
  have CA := Lib.hid (alive8_any w)
  have CL := Lib.hid (fun U (hU : Below w.heap.size w U) => long8_t ao n c os U (hI.below hU) hn hl)
  have i60 : (60 : Int) < (n : Int) := by omega
  clear hI hl h60 hn
  go_enter Try.func8, Try.ntmps8
  go_wp2_with fail
  refine CA.out.mono ?_
  rintro e w0 ⟨rfl, hb⟩
  have CL0 := Lib.hid (CL.out w0 hb)
  have HB0 := Lib.hid hb
  clear hb CA CL
  go_wp2_with fail
  refine CL0.out.mono ?_
  rintro e w1 ⟨z, rfl, hb, _⟩
  have HB1 := Lib.hid (bl_tr HB0.out hb)
  clear hb CL0
  cases z
  all_goals
    go_wp2
    go_ret
    exact ⟨rfl, HB1.out⟩
set_option maxRecDepth 100000 in
set_option maxHeartbeats 4000000 in
theorem between_t (ao : Option Addr) (n c : Nat) (os : List Op8) (w : World) (hI : S8In w ao n os) (hn : n ≤ 60) (hl : ∀ j, j < n → (os.getD j op8).n ≤ 1152921504606846976) :
    Calls Try.prog 8 #[.slice ao n c] w fun e w' => e = .returned (.bool true) ∧ Below w.heap.size w w' := by
  have CA := Lib.hid (alive8_any w)
  have CL := Lib.hid (fun U (hU : Below w.heap.size w U) => long8_t ao n c os U (hI.below hU) (by omega) hl)
  have HI := Lib.hid hI
  have i60 : ¬ (60 : Int) < (n : Int) := by omega
  clear hI hl
  go_enter Try.func8, Try.ntmps8
  go_wp2_with fail
  refine CA.out.mono ?_
  rintro e w0 ⟨rfl, hb⟩
  have CL0 := Lib.hid (CL.out w0 hb)
  have HB0 := Lib.hid hb
  clear hb CA CL
  go_wp2_with fail
  refine CL0.out.mono ?_
  rintro e w1 ⟨z, rfl, hb, hz⟩
  have HB1 := Lib.hid (bl_tr HB0.out hb)
  have HZ := Lib.hid hz
  clear hb CL0 HB0 hz
  cases z with
  | true =>
    go_wp2
    go_ret
    exact ⟨rfl, HB1.out⟩
  | false =>
    have HFW := Lib.hid (HZ.out rfl).2
    have CN := Lib.hid (fnew_t w1)
    clear HZ
    go_wp2_with fail
    refine CN.out.mono ?_
    rintro e w2 ⟨f, F, rfl, hf, hb⟩
    have P0 : Hid (∃ F ls last, StI w1 w2 f 0 F ls last) := Lib.hid ⟨F, [], 0, ⟨hf, (fun x hx => by cases hx), Nat.le_refl _, Nat.le_refl _, hb⟩⟩
    clear hf hb CN
    go_wp2
    go_loopw [26] (fun i wr => ∃ j : Nat, j ≤ n ∧ i = .int .i64 j ∧ Hid (∃ F ls last, StI w1 wr f j F ls last)) (fun i _ => n - (intOf i).toNat)
    case atStart => exact ⟨0, by omega, rfl, P0⟩
    case round =>
      obtain ⟨j, hj, rfl, HP⟩ := hrel
      clear P0
      obtain ⟨F, ls, last, hst⟩ := HP.out
      by_cases hlj : j < n
      · have ilj : (j : Int) < (n : Int) := by omega
        have j0 : (0 : Int) ≤ (j : Int) := by omega
        have hIr := HI.out.below (bl_tr HB1.out hst.bel)
        obtain ⟨b, off, rfl⟩ := hIr.block (by omega)
        obtain ⟨o, ho⟩ : ∃ o, o = os.getD j op8 := ⟨_, rfl⟩
        obtain ⟨e0, e1, e2, e3, e4, e5⟩ := hIr.cells hlj ho.symm
        have hfw := HFW.out j hlj
        obtain ⟨hif, hid, hin⟩ := hIr.ints j hlj
        have hrow := fun U (hU : Below w.heap.size w U) => (HI.out.below hU).rows j hlj
        rw [← ho] at hfw hif hid hin
        simp only [← ho] at hrow
        have hlen := (hrow w (Below.refl _ _)).len
        obtain ⟨X, hX⟩ : ∃ X, X = WOp wr o := ⟨_, rfl⟩
        have hox : Ox X wr.heap.size o := by rw [hX]; exact Ox.new wr o
        have hbX : Below wr.heap.size wr X := by rw [hX]; exact bl_al (Below.refl _ _) _
        have hstX := hst.new hbX
        have hqF : ¬ F wr.heap.size := fun h => by have := (hst.st.blocks _ h).2; omega
        obtain ⟨q, hq⟩ : ∃ q, q = wr.heap.size := ⟨_, rfl⟩
        rw [← hq] at hox hqF
        obtain ⟨c0, c1, c2, c3, c4, c5⟩ := hox.cell
        obtain ⟨kind, frm, dst, ctl, num, ra, rn, rc, bs⟩ := o
        simp only at e0 e1 e2 e3 e4 e5 c0 c1 c2 c3 c4 c5 hfw hif hid hin hrow hlen
        have HX := Lib.hid (show X = wr.alloc (.cells #[.int .i64 kind, .int .i64 frm, .int .i64 dst, .bool ctl, .int .i64 num, .slice ra rn rc] 33) from hX)
        have HQ := Lib.hid hq
        have HST := Lib.hid hstX
        have CS := Lib.hid (fsend_t w1.heap.size f last F ls frm dst ctl bs ra rn rc X hstX.st hstX.bel.size (by have := hstX.len; omega) (by have := hstX.last; omega) hif hid (fun U hU => hrow U (bl_tr HB1.out (fto_bel hstX.bel hstX.base hU))) hfw)
        have CT := Lib.hid (ftake_t w1.heap.size f last F ls num X hstX.st hstX.bel.size (by have := hstX.len; omega) hin hstX.ok.few)
        have HBS : Hid (bs.length ≤ 1048576) := Lib.hid (by omega)
        clear hIr ho hX hox hbX hst hstX hq hqF hrow hlen hif hid hin hfw HP
        go_upto_region 9 with fail
        rw [← HX.out, ← HQ.out]
        clear HX HQ e0 e1 e2 e3 e4 e5
        by_cases hk0 : kind = 0
        · subst hk0
          clear CT
          go_wp2_with fail
          refine CS.out.mono ?_
          rintro e w3 ⟨rfl, F2, h2, _, ht⟩
          have hg := sendR_grow (frm := frm) (dst := dst) (ctl := ctl) (bs := bs) HST.out.len HST.out.last
          have HP2 : Hid (∃ F ls last, StI w1 w3 f (j + 1) F ls last) := Lib.hid ⟨F2, _, _, h2, HST.out.ok.send HBS.out, hg.1, hg.2, fto_bel HST.out.bel HST.out.base ht⟩
          clear h2 ht hg CS HST c0 c1 c2 c3 c4 c5
          go_wp2
          go_roundw
          case rel => exact ⟨j + 1, by omega, by go_num, HP2⟩
          case measure => simp [intOf]; omega
        · have k0 : (kind == 0) = false := by rw [beq_eq_false_iff_ne]; exact hk0
          clear CS
          by_cases hk1 : kind = 1
          · subst hk1
            clear hk0
            go_wp2_with fail
            refine CT.out.mono ?_
            rintro e w3 ⟨v, F2, rfl, _, _, h2, _, ht⟩
            have HP2 : Hid (∃ F ls last, StI w1 w3 f (j + 1) F ls last) := Lib.hid ⟨F2, _, _, h2, HST.out.ok.left, leftR_grow HST.out.len, Nat.le_succ_of_le HST.out.last, fto_bel HST.out.bel HST.out.base ht⟩
            clear h2 ht CT HST c0 c1 c2 c3 c4 c5
            go_wp2
            go_roundw
            case rel => exact ⟨j + 1, by omega, by go_num, HP2⟩
            case measure => simp [intOf]; omega
          · have k1 : (kind == 1) = false := by rw [beq_eq_false_iff_ne]; exact hk1
            have HP2 : Hid (∃ F ls last, StI w1 X f (j + 1) F ls last) := Lib.hid ⟨F, ls, last, HST.out.more⟩
            clear CT HST
            go_wp2
            go_roundw
            case rel => exact ⟨j + 1, by omega, by go_num, HP2⟩
            case measure => simp [intOf]; omega
      · obtain ⟨W, rfl⟩ : ∃ W, W = wr := ⟨_, rfl⟩
        have ilj : ¬ (j : Int) < (n : Int) := by omega
        have hjn : j ≤ 60 := by omega
        have HST := Lib.hid hst
        have hlen : ls.length ≤ 60 := Nat.le_trans hst.len hjn
        have B0 := Lib.hid (Below.refl W.heap.size W)
        have hall := allS_le ls
        have hrow := rowS_le ls
        have hcnt := cnt_le ls
        have HA := Lib.hid (fun a (ha : a ≤ 64) => show allS ls a ≤ 245760 from Nat.le_trans (hall a) (Nat.le_trans (Nat.mul_le_mul ha (Nat.mul_le_mul (Nat.le_refl 64) hlen)) (by decide)))
        have HR := Lib.hid (fun a b (hb : b ≤ 64) => show rowS ls a b ≤ 3840 from Nat.le_trans (hrow a b) (Nat.le_trans (Nat.mul_le_mul hb hlen) (by decide)))
        have HC := Lib.hid (fun a b => show cnt ls a b ≤ 60 from Nat.le_trans (hcnt a b) hlen)
        clear hst hall hrow hcnt HP hlj
        go_wp2
        go_loopw [6, 7] (fun t i w3 => ∃ a : Nat, a ≤ 64 ∧ i = .int .i64 a ∧ t = .int .i64 (allS ls a) ∧ Hid (Below W.heap.size W w3)) (fun _ i _ => 64 - (intOf i).toNat)
        case atStart => exact ⟨0, by omega, rfl, rfl, B0⟩
        case round =>
          obtain ⟨a, ha, rfl, rfl, HB⟩ := hrel
          obtain ⟨w3, rfl⟩ : ∃ v, v = wr := ⟨_, rfl⟩
          clear B0
          by_cases hla : a < 64
          · have ia : (a : Int) < 64 := by omega
            have P1 : Hid (rowS ls a 0 = 0) := Lib.hid rfl
            go_wp2
            go_loopw [6, 8] (fun t i w4 => ∃ b s : Nat, b ≤ 64 ∧ i = .int .i64 b ∧ t = .int .i64 s ∧ Hid (s = allS ls a + rowS ls a b) ∧ Hid (Below W.heap.size W w4)) (fun _ i _ => 64 - (intOf i).toNat)
            case atStart => exact ⟨0, allS ls a, by omega, rfl, rfl, Lib.hid (by rw [P1.out]; rfl), HB⟩
            case round =>
              obtain ⟨b, s, hb, rfl, rfl, HS, HB4⟩ := hrel
              obtain ⟨w4, rfl⟩ : ∃ v, v = wr := ⟨_, rfl⟩
              clear P1 HB
              by_cases hlb : b < 64
              · have ib : (b : Int) < 64 := by omega
                have hs4 := HST.out.new HB4.out
                have CB := Lib.hid (fbetween_t w1.heap.size f last F ls a b w4 hs4.st (by omega) ⟨by omega, by omega⟩ ⟨by omega, by omega⟩)
                have hs := HS.out
                have h1 := HA.out a ha
                have h2 := HR.out a b hb
                have h3 := HC.out a b
                have hsl : s ≤ 249600 := by omega
                obtain ⟨T, hT⟩ : ∃ T, T = s + cnt ls a b := ⟨_, rfl⟩
                have hcd : (btw ls (a : Int) (b : Int)).length = cnt ls a b := rfl
                rw [← hcd] at hT h3
                have v1 : ∀ [Inhabited Nat], IntKind.i64.wrap ((s : Int) + ((btw ls (a : Int) (b : Int)).length : Int)) = (T : Int) := by intro _; rw [IntWalk.i64_in _ (by omega)]; omega
                have HT : Hid (T = allS ls a + rowS ls a (b + 1)) := Lib.hid (by
                  rw [hT, hs]
                  show allS ls a + rowS ls a b + cnt ls a b = allS ls a + (rowS ls a b + cnt ls a b)
                  omega)
                clear hs4 hs h1 h2 h3 hT hcd
                go_wp2_with fail
                refine CB.out.mono ?_
                rintro e w5 ⟨a5, c5, rfl, _, hb5⟩
                have HB5 := Lib.hid (HB4.out.trans (hb5.mono HB4.out.size))
                clear hb5 CB HB4
                go_wp2
                go_roundw
                case rel => exact ⟨b + 1, T, by omega, by go_num, rfl, HT, HB5⟩
                case measure => simp [intOf]; omega
              · have ib : ¬ (b : Int) < 64 := by omega
                obtain rfl : b = 64 := by omega
                have HS2 : Hid (s = allS ls (a + 1)) := HS
                clear HS
                go_wp2
                go_roundw
                case rel => exact ⟨a + 1, by omega, by go_num, by rw [HS2.out], HB4⟩
                case measure => simp [intOf]; omega
          · have ia : ¬ (a : Int) < 64 := by omega
            obtain rfl : a = 64 := by omega
            have hs3 := HST.out.new HB.out
            rw [allS_all HST.out.ok]
            have CW := Lib.hid (fwaiting_t w1.heap.size f last F ls w3 hs3.st (by omega) hs3.ok.few)
            have HS3 := Lib.hid hs3
            clear hs3 HB
            go_wp2_with fail
            refine CW.out.mono ?_
            rintro e w4 ⟨a4, c4, vs, rfl, ho, hr, _, hb4⟩
            have HS4 := Lib.hid (HS3.out.new hb4)
            have HLR := Lib.hid (lrd_own ho hr).1
            have B4 := Lib.hid (Below.refl w4.heap.size w4)
            obtain ⟨N, hN⟩ : ∃ N, N = ls.length := ⟨_, rfl⟩
            rw [← hN]
            have HN := Lib.hid hN
            have hN60 : N ≤ 60 := by omega
            clear ho hr hb4 CW HS3 hN hlen
            go_wp2
            go_loopw [69] (fun i w5 => ∃ q : Nat, q ≤ N ∧ i = .int .i64 q ∧ Hid (Below w4.heap.size w4 w5)) (fun i _ => N - (intOf i).toNat)
            case atStart => exact ⟨0, by omega, rfl, B4⟩
            case round =>
              obtain ⟨q, hq, rfl, HB⟩ := hrel
              obtain ⟨w5, rfl⟩ : ∃ v, v = wr := ⟨_, rfl⟩
              clear B4
              by_cases hlq : q < N
              · have iq : (q : Int) < (N : Int) := by omega
                have i0 : (0 : Int) ≤ (q : Int) := by omega
                have hql : q < ls.length := by have := HN.out; omega
                have hlr := HLR.out.below HB.out
                rcases hlr.here with h0 | ⟨g, rfl, hc⟩
                · omega
                have hc := hc q hql
                obtain ⟨a1, c1, e1, _⟩ := hlr.rows q hql
                rw [e1] at hc
                have hxm : ls.getD q lt0 ∈ ls := by
                  rw [List.getD_eq_getElem?_getD, List.getElem?_eq_getElem hql]
                  exact List.getElem_mem hql
                have hbm := btw_mem hxm
                have hnode := (HST.out.ok.get hql).1
                obtain ⟨x, hx⟩ : ∃ x, x = ls.getD q lt0 := ⟨_, rfl⟩
                rw [← hx] at hc hbm hnode
                obtain ⟨X, hX⟩ : ∃ X, X = w5.alloc (.cells #[.int .i64 x.id, .int .i64 x.frm, .int .i64 x.dst, .bool x.ctl, .slice a1 x.bs.length c1] tyL) := ⟨_, rfl⟩
                have hbx : Bx X w5.heap.size x (.slice a1 x.bs.length c1) := by rw [hX]; exact Bx.new w5 x _
                have hbX : Below w5.heap.size w5 X := by rw [hX]; exact bl_al (Below.refl _ _) _
                have hsX := (HS4.out.new HB.out).new hbX
                have CB := Lib.hid (fbetween_t w1.heap.size f last F ls x.frm x.dst X hsX.st (by have := HN.out; omega) (by have := hnode.1; unfold IsNode at this; exact ⟨by omega, by omega⟩) (by have := hnode.2; unfold IsNode at this; exact ⟨by omega, by omega⟩))
                have hbl := btw_len ls x.frm x.dst
                obtain ⟨ids, hids⟩ : ∃ ids, ids = btw ls x.frm x.dst := ⟨_, rfl⟩
                rw [← hids] at CB hbm hbl
                obtain ⟨xi, xf, xd, xc, xb⟩ := x
                obtain ⟨p, hp⟩ : ∃ p, p = w5.heap.size := ⟨_, rfl⟩
                rw [← hp] at hbx
                obtain ⟨y0, y1, y2, y3, y4⟩ := hbx.cell
                obtain ⟨nb, hnb⟩ : ∃ k, k = xb.length := ⟨_, rfl⟩
                simp only [← hnb] at hc hX y0 y1 y2 y3 y4 CB hbm
                have p0 : w5.cell? ⟨g, q * 5, none⟩ = some (.int .i64 xi) := hc 0 (by omega)
                have p1 : w5.cell? ⟨g, q * 5 + 1, none⟩ = some (.int .i64 xf) := hc 1 (by omega)
                have p2 : w5.cell? ⟨g, q * 5 + 2, none⟩ = some (.int .i64 xd) := hc 2 (by omega)
                have p3 : w5.cell? ⟨g, q * 5 + 3, none⟩ = some (.bool xc) := hc 3 (by omega)
                have p4 : w5.cell? ⟨g, q * 5 + 4, none⟩ = some (.slice a1 nb c1) := hc 4 (by omega)
                have HX := Lib.hid hX
                have HP := Lib.hid hp
                have HBX := Lib.hid (HB.out.trans (hbX.mono HB.out.size))
                have HBM := Lib.hid hbm
                clear hlr hc e1 hxm hbm hnode hx hX hbx hbX hsX hids hp hnb hql
                go_upto_region 25 with fail
                rw [← HX.out, ← HP.out]
                clear HX HP p0 p1 p2 p3 p4
                go_wp2_with fail
                refine CB.out.mono ?_
                rintro e w6 ⟨a6, c6, rfl, hown, hb6⟩
                have HAt := Lib.hid (AtI.own hown)
                have z0 := cell_later hb6 y0
                obtain ⟨K, hK⟩ : ∃ K, K = ids.length := ⟨_, rfl⟩
                rw [← hK] at hbl ⊢
                have HK := Lib.hid hK
                have hK60 : K ≤ 60 := by have := HN.out; omega
                have HB6 := Lib.hid (HBX.out.trans (hb6.mono HBX.out.size))
                have B6 := Lib.hid (Below.refl w6.heap.size w6)
                clear hown hb6 CB y0 y1 y2 y3 y4 hK
                go_wp2
                go_loopw [11, 80] (fun t i w7 => ∃ (k : Nat) (z : Bool), k ≤ K ∧ i = .int .i64 k ∧ t = .bool z ∧ Hid (z = decide (xi ∈ ids.take k)) ∧ Hid (Below w6.heap.size w6 w7)) (fun _ i _ => K - (intOf i).toNat)
                case atStart => exact ⟨0, false, by omega, rfl, rfl, Lib.hid (by simp), B6⟩
                case round =>
                  obtain ⟨k, z, hk, rfl, rfl, HZ, HB7⟩ := hrel
                  obtain ⟨w7, rfl⟩ : ∃ v, v = wr := ⟨_, rfl⟩
                  clear B6
                  by_cases hlk : k < K
                  · have ik : (k : Int) < (K : Int) := by omega
                    have k0 : (0 : Int) ≤ (k : Int) := by omega
                    have hkl : k < ids.length := by have := HK.out; omega
                    obtain ⟨a8, c8, e8, h8⟩ := HAt.out.below HB7.out
                    rcases h8 with h0 | ⟨g8, off8, rfl, hc8⟩
                    · rw [h0] at hkl; simp at hkl
                    have hck := hc8 k hkl
                    have z7 := cell_later HB7.out z0
                    have hae : a6 = some ⟨g8, off8, none⟩ := by cases e8; rfl
                    have HTK := Lib.hid (take_moreL ids 0 hkl)
                    obtain ⟨y, hy⟩ : ∃ y, y = ids.getD k 0 := ⟨_, rfl⟩
                    rw [← hy] at hck
                    have HY := Lib.hid hy
                    subst hae
                    clear e8 hc8 hkl hy
                    cases z with
                    | true =>
                      have HZ2 : Hid (true = decide (xi ∈ ids.take (k + 1))) := Lib.hid (by
                        have h1 := of_decide_eq_true HZ.out.symm
                        symm
                        rw [HTK.out]
                        exact decide_eq_true (List.mem_append_left _ h1))
                      clear HZ HTK
                      go_wp2
                      go_roundw
                      case rel => exact ⟨k + 1, true, by omega, by go_num, rfl, HZ2, HB7⟩
                      case measure => simp [intOf]; omega
                    | false =>
                      have HZ2 : Hid ((y == xi) = decide (xi ∈ ids.take (k + 1))) := Lib.hid (by
                        have h1 := of_decide_eq_false HZ.out.symm
                        rw [HTK.out, ← HY.out]
                        by_cases h : y = xi
                        · subst h
                          simp
                        · have h2 : ¬ xi ∈ ids.take k ++ [y] := fun e => by
                            rcases List.mem_append.1 e with e | e
                            · exact h1 e
                            · rw [List.mem_singleton] at e
                              exact h e.symm
                          rw [decide_eq_false h2, beq_eq_false_iff_ne]
                          exact h)
                      clear HZ HTK
                      go_wp2
                      go_roundw
                      case rel => exact ⟨k + 1, y == xi, by omega, by go_num, rfl, HZ2, HB7⟩
                      case measure => simp [intOf]; omega
                  · have ik : ¬ (k : Int) < (K : Int) := by omega
                    have hzt : z = true := by
                      rw [HZ.out, List.take_of_length_le (by have := HK.out; omega)]
                      exact decide_eq_true HBM.out
                    subst hzt
                    have HB8 := Lib.hid (HB6.out.trans (HB7.out.mono HB6.out.size))
                    clear HZ HB7
                    go_wp2
                    go_roundw
                    case rel => exact ⟨q + 1, by omega, by go_num, HB8⟩
                    case measure => simp [intOf]; omega
              · have iq : ¬ (q : Int) < (N : Int) := by omega
                have hs5 := HS4.out.new HB.out
                have CLn := Lib.hid (flen_t w1.heap.size f last F ls w5 hs5.st)
                rw [← HN.out] at CLn
                have HB5 := Lib.hid (bl_tr HB1.out hs5.bel)
                clear hs5 HB
                go_wp2_with fail
                refine CLn.out.mono ?_
                rintro e w6 ⟨rfl, ht⟩
                have HB6 := Lib.hid (HB5.out.trans (ht.below (fun _ h => h.elim) HB5.out.size))
                clear ht CLn
                go_wp2
                go_ret
                exact ⟨rfl, HB6.out⟩
end Go.Proofs.Ytkiccdgfhahdlaa
