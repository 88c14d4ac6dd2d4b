/- The document's Grant and Renew. Conditions: the list came in; the numbers fit their kinds. -/
import Derived.Test.YtanajblldlgalaaDoorRfD
namespace Go.Proofs.YtanajblldlgalaaDoor
open Go Go.RowKit
set_option linter.unusedVariables false
set_option linter.unusedSimpArgs false

/-- What the document's Grant and Renew leave. -/
def OutR (w : World) (r : List Ls × Ls × Int) : Ending → World → Prop := fun e w' => (∃ v, e = .returned (.tuple #[v, r.2.1.val, .int .i64 r.2.2]) ∧ PkL w.heap.size w' v r.1) ∧ Below w.heap.size w w'
theorem setG {w : World} {q g : Nat} {v0 v1 v2 v3 u0 u1 u2 u3 : Value} (h : w.cell? ⟨g, 0, none⟩ = some v0 ∧ w.cell? ⟨g, 1, none⟩ = some v1 ∧ w.cell? ⟨g, 2, none⟩ = some v2 ∧ w.cell? ⟨g, 3, none⟩ = some v3) (hne : g ≠ q) :
    ((((w.setCell ⟨q, 0, none⟩ u0).setCell ⟨q, 1, none⟩ u1).setCell ⟨q, 2, none⟩ u2).setCell ⟨q, 3, none⟩ u3).cell? ⟨g, 0, none⟩ = some v0 ∧ ((((w.setCell ⟨q, 0, none⟩ u0).setCell ⟨q, 1, none⟩ u1).setCell ⟨q, 2, none⟩ u2).setCell ⟨q, 3, none⟩ u3).cell? ⟨g, 1, none⟩ = some v1 ∧ ((((w.setCell ⟨q, 0, none⟩ u0).setCell ⟨q, 1, none⟩ u1).setCell ⟨q, 2, none⟩ u2).setCell ⟨q, 3, none⟩ u3).cell? ⟨g, 2, none⟩ = some v2 ∧ ((((w.setCell ⟨q, 0, none⟩ u0).setCell ⟨q, 1, none⟩ u1).setCell ⟨q, 2, none⟩ u2).setCell ⟨q, 3, none⟩ u3).cell? ⟨g, 3, none⟩ = some v3 := by
  have hk : ∀ {W : World} {o j : Nat} {u v : Value}, W.cell? ⟨g, o, none⟩ = some v → (W.setCell ⟨q, j, none⟩ u).cell? ⟨g, o, none⟩ = some v := fun {W o j u v} hc => (World.cell?_setCell_other _ _ _ _ (fun e => hne (congrArg Addr.block e).symm)).trans hc
  exact ⟨hk (hk (hk (hk h.1))), hk (hk (hk (hk h.2.1))), hk (hk (hk (hk h.2.2.1))), hk (hk (hk (hk h.2.2.2)))⟩
set_option maxRecDepth 100000 in
set_option maxHeartbeats 8000000 in
theorem refGrant_c (l : List Ls) (vip dip now : Int) (a : Option Addr) (n c : Nat) (w : World) (hI : InL w a n c l) (hn : n ≤ 1048576) (hv : 0 ≤ vip ∧ vip < 4294967296) (hd : 0 ≤ dip ∧ dip < 4294967296) :
    Calls Tryd.prog 12 #[.slice a n c, .int .u32 vip, .int .u32 dip, .int .i64 now] w (OutR w (grantL l vip dip now)) := by
  obtain ⟨W, hW⟩ : ∃ W, W = w.alloc (.cells #[.int .u32 0, .int .i64 0, .int .u32 0, .int .i64 0] tyL) := ⟨_, rfl⟩
  have hb : Below w.heap.size w W := by rw [hW]; exact bl_al (Below.refl _ _) _
  obtain ⟨q, hq⟩ : ∃ q, q = w.heap.size := ⟨_, rfl⟩
  have hx : BxL W q ls0 := by rw [hW, hq]; exact bxL_new w ls0
  have CHy := Lib.hid (fun h => refHome_ok dip h W)
  have CHn := Lib.hid (fun h => refHome_no dip h W)
  have CK := Lib.hid (refGood_c l a n c W (hI.below hb) hn)
  have CV := Lib.hid (fun W1 => refVip_c vip hv.1 hv.2 W1)
  have CT := Lib.hid (fun W1 => refTime_c now W1)
  have CO := Lib.hid (fun (W1 : World) (h : Below W.heap.size W W1) => refOf_c l dip now a n c W1 ((hI.below hb).below h) hn)
  have CF := Lib.hid (fun (W1 : World) (h : Below W.heap.size W W1) (k : Nat) (hk : k < 8064) => refFind_c l vip (1024 + 8 * (k : Int)) now a n c W1 ((hI.below hb).below h) hn (by unfold i64b; omega))
  have CWW := Lib.hid (fun (x : Ls) (hs : l.Pairwise (fun a b => ltL a b = true)) (W1 : World) (h : Below W.heap.size W W1) => refWith_c x l a n c W1 ((hI.below hb).below h) hn hs)
  have HB := Lib.hid hb
  have HX := Lib.hid hx
  have HW := Lib.hid hW
  have HQ : Hid (q = w.heap.size ∧ w.heap.size ≤ q) := Lib.hid ⟨hq, by omega⟩
  clear hW hq hx hb hI hv hd
  by_cases qo : OkL l
  · have HO := Lib.hid qo
    rw [decide_eq_true qo] at CK
    clear qo
    by_cases qd : IsDip dip
    · have HD := Lib.hid qd
      have CH := Lib.hid (CHy.out qd)
      clear qd CHy CHn
      by_cases qv : IsVipA vip
      · have HV := Lib.hid qv
        rw [decide_eq_true qv] at CV
        clear qv
        by_cases qt : OkTm now
        · have HT := Lib.hid qt
          rw [decide_eq_true qt] at CT
          clear qt
          have HGr : Hid (grantL l vip dip now = (if 4 ≤ (ofL dip now l).length then ([], ls0, (7 : Int)) else match freeL vip now l with
            | none => ([], ls0, (5 : Int))
            | some k => (withL ⟨vip, 1024 + 8 * (k : Int), dip, now + 64⟩ l, ⟨vip, 1024 + 8 * (k : Int), dip, now + 64⟩, (0 : Int)))) := Lib.hid (by unfold grantL; rw [if_pos ⟨HT.out, HV.out, HD.out, HO.out⟩]; cases freeL vip now l <;> rfl)
          go_enter Tryd.func12, Tryd.ntmps12
          go_upto_region 1 with fail
          rw [show w.alloc (.cells #[.int .u32 0, .int .i64 0, .int .u32 0, .int .i64 0] tyL) = W from HW.out.symm, ← HQ.out.1]
          go_wp2_with fail
          refine CH.out.mono ?_
          rintro e w9 ⟨rfl, rfl⟩
          clear CH
          go_wp2_with fail
          refine CK.out.mono ?_
          rintro e w1 ⟨rfl, hb1⟩
          have HH1 := Lib.hid hb1
          clear hb1 CK
          go_wp2_with fail
          refine (CV.out w1).mono ?_
          rintro e w9 ⟨rfl, rfl⟩
          clear CV
          go_wp2_with fail
          refine (CT.out w1).mono ?_
          rintro e w9 ⟨rfl, rfl⟩
          clear CT
          go_wp2_with fail
          refine (CO.out w1 HH1.out).mono ?_
          rintro e w4 ⟨⟨v, rfl, hK⟩, hb4⟩
          obtain ⟨ao, cc, rfl⟩ := own_form hK
          have HH4 := Lib.hid (bl_tr HH1.out hb4)
          obtain ⟨m, hm⟩ : ∃ m, m = (l.filter (isO dip now)).length := ⟨_, rfl⟩
          have hm2 : m = (ofL dip now l).length := hm
          rw [← hm2] at HGr
          rw [← hm]
          clear hb4 hK CO hm hm2 HH1
          by_cases q4 : 4 ≤ m
          · have i4 : (4 : Int) ≤ (m : Int) := by omega
            have HH1 := HH4
            have HE : Hid (grantL l vip dip now = ([], ls0, 7)) := Lib.hid (by rw [HGr.out, if_pos q4])
            have HX1 := Lib.hid (HX.out.later HH1.out)
            obtain ⟨d0, d1, d2, d3⟩ := HX1.out.at
            obtain ⟨f0, f1, f2, f3⟩ := HX1.out.free
            go_wp2
            refine bodyPost_ret (v := .tuple #[.slice none 0 0, ls0.val, .int .i64 7]) (by simp [results, Tryd.results12, go_sem, d0, d1, d2, d3, ls0]) rfl ?_
            refine ⟨⟨_, by rw [HE.out] <;> rfl, ?_⟩, bl_stL (bl_tr HB.out HH1.out) HQ.out.2 ls0⟩
            rw [HE.out]
            exact pkL_nil _ _
          · have i4 : ¬ (4 : Int) ≤ (m : Int) := by omega
            rw [if_neg q4] at HGr
            have R0 : Hid (∀ j, j < 0 → lentB vip now l j = true) := Lib.hid (fun j h => absurd h (Nat.not_lt_zero _))
            go_wp2
            go_loopw [14] (fun fv wr => ∃ k : Nat, k ≤ 8064 ∧ fv = .int .i64 (1024 + 8 * (k : Int)) ∧ Hid (∀ j, j < k → lentB vip now l j = true) ∧ Hid (Below W.heap.size W wr)) (fun fv _ => 65536 - (intOf fv).toNat)
            case atStart => exact ⟨0, by omega, rfl, R0, HH4⟩
            case round =>
              obtain ⟨k, hk, rfl, HN, HBr⟩ := hrel
              obtain ⟨w2, rfl⟩ : ∃ v, v = wr := ⟨_, rfl⟩
              clear R0
              by_cases hlt : k < 8064
              · have CF1 := Lib.hid (CF.out w2 HBr.out k hlt)
                have HLe := Lib.hid (lent_is HO.out (vip := vip) (now := now) hlt)
                have HFS := Lib.hid (free_some (vip := vip) (now := now) (l := l) hlt)
                obtain ⟨f, hf⟩ : ∃ f : Int, f = 1024 + 8 * (k : Int) := ⟨_, rfl⟩
                have f0 : f < 65536 := by omega
                have HFK := Lib.hid hf
                have HFN : Hid (f + 8 = 1024 + 8 * ((k + 1 : Nat) : Int)) := Lib.hid (by omega)
                have f1 : 0 ≤ f := by omega
                obtain ⟨o, ho⟩ : ∃ o, o = findL vip f now l := ⟨_, rfl⟩
                rw [← hf] at CF1 HLe ⊢
                rw [← ho] at CF1 HLe
                clear hf ho
                go_wp2_with fail
                refine CF1.out.mono ?_
                rintro e w3 ⟨rfl, hb3⟩
                have HB3 := Lib.hid (bl_tr HBr.out hb3)
                clear hb3 CF1
                cases o with
                | some y =>
                  have HN2 : Hid (∀ j, j < k + 1 → lentB vip now l j = true) := Lib.hid (fun j hj => by
                    by_cases e : j = k
                    · rw [e]; exact HLe.out.symm
                    · exact HN.out j (by omega))
                  rw [show fndR (some y) = Value.tuple #[y.val, .bool true] from rfl]
                  obtain ⟨y0, y1, y2, y3⟩ := y
                  have HB4 := Lib.hid (bl_tr HB3.out (bl_al (Below.refl w3.heap.size w3) (.cells #[.int .u32 y0, .int .i64 y1, .int .u32 y2, .int .i64 y3] tyL)))
                  clear HLe HN
                  go_wp2
                  go_roundw
                  case rel => exact ⟨k + 1, by omega, by rw [← HFN.out], HN2, HB4⟩
                  case measure => simp [intOf]; omega
                | none =>
                  have HE0 := Lib.hid (HFS.out HLe.out.symm HN.out)
                  rw [HE0.out] at HGr
                  have HE : Hid (grantL l vip dip now = (withL ⟨vip, f, dip, now + 64⟩ l, ⟨vip, f, dip, now + 64⟩, (0 : Int))) := Lib.hid (by rw [HGr.out, HFK.out])
                  rw [show fndR none = Value.tuple #[.agg #[.int .u32 0, .int .i64 0, .int .u32 0, .int .i64 0], .bool false] from rfl]
                  obtain ⟨T, hT⟩ : ∃ T, T = now + 64 := ⟨_, rfl⟩
                  have HTT := Lib.hid hT
                  have hT1 : 0 ≤ now ∧ now ≤ 1099511627776 := HT.out
                  rw [← hT] at HE
                  clear hT
                  obtain ⟨w4, hw4⟩ : ∃ w4, w4 = w3.alloc (.cells #[.int .u32 0, .int .i64 0, .int .u32 0, .int .i64 0] tyL) := ⟨_, rfl⟩
                  have HB4 : Hid (Below W.heap.size W w4) := Lib.hid (by rw [hw4]; exact bl_tr HB3.out (bl_al (Below.refl _ _) _))
                  have HW4 := Lib.hid hw4
                  clear hw4
                  go_upto_region 10 with fail
                  rw [show w3.alloc (.cells #[.int .u32 0, .int .i64 0, .int .u32 0, .int .i64 0] tyL) = w4 from HW4.out.symm]
                  go_upto_region 12 with fail
                  rw [← HTT.out]
                  obtain ⟨w8, g, hw8, hg, hA, hb8, hg8⟩ := boxed w4 ⟨vip, f, dip, T⟩
                  have HG8 : Hid (BxL w8 g ⟨vip, f, dip, T⟩) := Lib.hid (by rw [hw8, hg]; exact bxL_new w4 _)
                  have HW8 := Lib.hid (And.intro hw8 hg)
                  have HH8 := Lib.hid (bl_tr HB4.out hb8)
                  have HX8 := Lib.hid (HX.out.later HH8.out)
                  have HGQ : Hid (g ≠ q) := Lib.hid (by have := (HX.out.later HB4.out).lt; omega)
                  have CW := Lib.hid (CWW.out ⟨vip, f, dip, T⟩ HO.out.2)
                  rw [show w4.alloc (.cells #[.int .u32 vip, .int .i64 f, .int .u32 dip, .int .i64 T] tyL) = w8 from HW8.out.1.symm, ← HW8.out.2]
                  clear hw8 hg hA hb8 hg8 hT1 CWW CF
                  obtain ⟨a0, a1, a2, a3⟩ := HG8.out.at
                  have hS0 : w8.drew.cell? ⟨g, 0, none⟩ = some (.int .u32 vip) ∧ w8.drew.cell? ⟨g, 1, none⟩ = some (.int .i64 f) ∧ w8.drew.cell? ⟨g, 2, none⟩ = some (.int .u32 dip) ∧ w8.drew.cell? ⟨g, 3, none⟩ = some (.int .i64 T) := ⟨a0, a1, a2, a3⟩
                  clear a0 a1 a2 a3
                  go_region_held3 (fun wx => wx.cell? ⟨g, 0, none⟩ = some (.int .u32 vip) ∧ wx.cell? ⟨g, 1, none⟩ = some (.int .i64 f) ∧ wx.cell? ⟨g, 2, none⟩ = some (.int .u32 dip) ∧ wx.cell? ⟨g, 3, none⟩ = some (.int .i64 T)) (first | (with_reducible exact hS0) | (with_reducible exact hS3) | (with_reducible exact setG hS3 HGQ.out) | (with_reducible assumption) | fail)
                    (first | (go_at_call 36; (with_reducible refine (CW.out _ HH8.out.drew).mono ?_); rintro e w5 ⟨⟨v5, rfl, hK5⟩, hb5⟩; have hS3 := keep4d hS0 hb5; obtain ⟨k0, k1, k2, k3⟩ := (BxL.later (w := w8.drew) HX8.out hb5).at; obtain ⟨f0, f1, f2, f3⟩ := (BxL.later (w := w8.drew) HX8.out hb5).free) | fail)
                  all_goals
                    have HF1 : Hid (BxL w5 q ls0) := Lib.hid (BxL.later (w := w8.drew) HX8.out hb5)
                    have HW5 : Hid (PkL w8.drew.heap.size w5 v5 (withL ⟨vip, f, dip, T⟩ l) ∧ Below W.heap.size W w5) := Lib.hid ⟨hK5, bl_tr HH8.out.drew hb5⟩
                    clear hS0 hS3 k0 k1 k2 k3 f0 f1 f2 f3 hb5 hK5
                    obtain ⟨e0, e1, e2, e3⟩ := (stL_bx HF1.out ⟨vip, f, dip, T⟩).at
                    obtain ⟨w6, hw6⟩ : ∃ w6, w6 = stL w5 q ⟨vip, f, dip, T⟩ := ⟨_, rfl⟩
                    rw [← hw6] at e0 e1 e2 e3
                    rw [show (((w5.setCell ⟨q, 0, none⟩ (.int .u32 vip)).setCell ⟨q, 1, none⟩ (.int .i64 f)).setCell ⟨q, 2, none⟩ (.int .u32 dip)).setCell ⟨q, 3, none⟩ (.int .i64 T) = w6 from hw6.symm]
                    have HR : Hid (PkL w.heap.size w6 v5 (withL ⟨vip, f, dip, T⟩ l) ∧ Below w.heap.size w w6) := Lib.hid (by
                      rw [hw6]
                      exact ⟨own_base (own_stL HW5.out.1 (HX8.out.lt) _) (by have h1 := HB.out.size; have h2 := HH8.out.size; show w.heap.size ≤ w8.heap.size; omega), bl_stL (bl_tr HB.out HW5.out.2) HQ.out.2 _⟩)
                    clear hw6 HW5
                    go_wp2
                    refine bodyPost_ret (v := .tuple #[v5, .agg #[.int .u32 vip, .int .i64 f, .int .u32 dip, .int .i64 T], .int .i64 0]) (by simp [results, Tryd.results12, go_sem, e0, e1, e2, e3]) rfl ?_
                    refine ⟨⟨v5, by rw [HE.out] <;> rfl, ?_⟩, HR.out.2⟩
                    rw [HE.out]
                    exact HR.out.1
              · have ii : ¬ (1024 + 8 * (k : Int)) < 65536 := by omega
                obtain rfl : k = 8064 := by omega
                have HE0 := Lib.hid (free_none HN.out)
                rw [HE0.out] at HGr
                have HH1 := HBr
                have HE : Hid (grantL l vip dip now = ([], ls0, 5)) := Lib.hid (HGr.out)
                have HX1 := Lib.hid (HX.out.later HH1.out)
                obtain ⟨d0, d1, d2, d3⟩ := HX1.out.at
                obtain ⟨f0, f1, f2, f3⟩ := HX1.out.free
                go_wp2
                refine bodyPost_ret (v := .tuple #[.slice none 0 0, ls0.val, .int .i64 5]) (by simp [results, Tryd.results12, go_sem, d0, d1, d2, d3, ls0]) rfl ?_
                refine ⟨⟨_, by rw [HE.out] <;> rfl, ?_⟩, bl_stL (bl_tr HB.out HH1.out) HQ.out.2 ls0⟩
                rw [HE.out]
                exact pkL_nil _ _
        · rw [decide_eq_false qt] at CT
          have HNo := Lib.hid qt
          clear qt
          go_enter Tryd.func12, Tryd.ntmps12
          go_upto_region 1 with fail
          rw [show w.alloc (.cells #[.int .u32 0, .int .i64 0, .int .u32 0, .int .i64 0] tyL) = W from HW.out.symm, ← HQ.out.1]
          go_wp2_with fail
          refine CH.out.mono ?_
          rintro e w9 ⟨rfl, rfl⟩
          clear CH
          go_wp2_with fail
          refine CK.out.mono ?_
          rintro e w1 ⟨rfl, hb1⟩
          have HH1 := Lib.hid hb1
          clear hb1 CK
          go_wp2_with fail
          refine (CV.out w1).mono ?_
          rintro e w9 ⟨rfl, rfl⟩
          clear CV
          go_wp2_with fail
          refine (CT.out w1).mono ?_
          rintro e w9 ⟨rfl, rfl⟩
          clear CT
          have HE : Hid (grantL l vip dip now = ([], ls0, 9)) := Lib.hid (by unfold grantL; rw [if_neg (fun h => HNo.out h.1)])
          have HX1 := Lib.hid (HX.out.later HH1.out)
          obtain ⟨d0, d1, d2, d3⟩ := HX1.out.at
          obtain ⟨f0, f1, f2, f3⟩ := HX1.out.free
          go_wp2
          refine bodyPost_ret (v := .tuple #[.slice none 0 0, ls0.val, .int .i64 9]) (by simp [results, Tryd.results12, go_sem, d0, d1, d2, d3, ls0]) rfl ?_
          refine ⟨⟨_, by rw [HE.out] <;> rfl, ?_⟩, bl_stL (bl_tr HB.out HH1.out) HQ.out.2 ls0⟩
          rw [HE.out]
          exact pkL_nil _ _
      · rw [decide_eq_false qv] at CV
        have HNo := Lib.hid qv
        clear qv
        go_enter Tryd.func12, Tryd.ntmps12
        go_upto_region 1 with fail
        rw [show w.alloc (.cells #[.int .u32 0, .int .i64 0, .int .u32 0, .int .i64 0] tyL) = W from HW.out.symm, ← HQ.out.1]
        go_wp2_with fail
        refine CH.out.mono ?_
        rintro e w9 ⟨rfl, rfl⟩
        clear CH
        go_wp2_with fail
        refine CK.out.mono ?_
        rintro e w1 ⟨rfl, hb1⟩
        have HH1 := Lib.hid hb1
        clear hb1 CK
        go_wp2_with fail
        refine (CV.out w1).mono ?_
        rintro e w9 ⟨rfl, rfl⟩
        clear CV
        have HE : Hid (grantL l vip dip now = ([], ls0, 9)) := Lib.hid (by unfold grantL; rw [if_neg (fun h => HNo.out h.2.1)])
        have HX1 := Lib.hid (HX.out.later HH1.out)
        obtain ⟨d0, d1, d2, d3⟩ := HX1.out.at
        obtain ⟨f0, f1, f2, f3⟩ := HX1.out.free
        go_wp2
        refine bodyPost_ret (v := .tuple #[.slice none 0 0, ls0.val, .int .i64 9]) (by simp [results, Tryd.results12, go_sem, d0, d1, d2, d3, ls0]) rfl ?_
        refine ⟨⟨_, by rw [HE.out] <;> rfl, ?_⟩, bl_stL (bl_tr HB.out HH1.out) HQ.out.2 ls0⟩
        rw [HE.out]
        exact pkL_nil _ _
    · have CH := Lib.hid (CHn.out qd)
      have HNo := Lib.hid qd
      clear qd CHy CHn
      go_enter Tryd.func12, Tryd.ntmps12
      go_upto_region 1 with fail
      rw [show w.alloc (.cells #[.int .u32 0, .int .i64 0, .int .u32 0, .int .i64 0] tyL) = W from HW.out.symm, ← HQ.out.1]
      go_wp2_with fail
      refine CH.out.mono ?_
      rintro e w9 ⟨rfl, rfl⟩
      clear CH
      go_wp2_with fail
      refine CK.out.mono ?_
      rintro e w1 ⟨rfl, hb1⟩
      have HH1 := Lib.hid hb1
      clear hb1 CK
      have HE : Hid (grantL l vip dip now = ([], ls0, 9)) := Lib.hid (by unfold grantL; rw [if_neg (fun h => HNo.out h.2.2.1)])
      have HX1 := Lib.hid (HX.out.later HH1.out)
      obtain ⟨d0, d1, d2, d3⟩ := HX1.out.at
      obtain ⟨f0, f1, f2, f3⟩ := HX1.out.free
      go_wp2
      refine bodyPost_ret (v := .tuple #[.slice none 0 0, ls0.val, .int .i64 9]) (by simp [results, Tryd.results12, go_sem, d0, d1, d2, d3, ls0]) rfl ?_
      refine ⟨⟨_, by rw [HE.out] <;> rfl, ?_⟩, bl_stL (bl_tr HB.out HH1.out) HQ.out.2 ls0⟩
      rw [HE.out]
      exact pkL_nil _ _
  · rw [decide_eq_false qo] at CK
    have HNo := Lib.hid qo
    clear qo
    by_cases qd : IsDip dip
    · have CH := Lib.hid (CHy.out qd)
      clear qd CHy CHn
      go_enter Tryd.func12, Tryd.ntmps12
      go_upto_region 1 with fail
      rw [show w.alloc (.cells #[.int .u32 0, .int .i64 0, .int .u32 0, .int .i64 0] tyL) = W from HW.out.symm, ← HQ.out.1]
      go_wp2_with fail
      refine CH.out.mono ?_
      rintro e w9 ⟨rfl, rfl⟩
      clear CH
      go_wp2_with fail
      refine CK.out.mono ?_
      rintro e w1 ⟨rfl, hb1⟩
      have HH1 := Lib.hid hb1
      clear hb1 CK
      have HE : Hid (grantL l vip dip now = ([], ls0, 9)) := Lib.hid (by unfold grantL; rw [if_neg (fun h => HNo.out h.2.2.2)])
      have HX1 := Lib.hid (HX.out.later HH1.out)
      obtain ⟨d0, d1, d2, d3⟩ := HX1.out.at
      obtain ⟨f0, f1, f2, f3⟩ := HX1.out.free
      go_wp2
      refine bodyPost_ret (v := .tuple #[.slice none 0 0, ls0.val, .int .i64 9]) (by simp [results, Tryd.results12, go_sem, d0, d1, d2, d3, ls0]) rfl ?_
      refine ⟨⟨_, by rw [HE.out] <;> rfl, ?_⟩, bl_stL (bl_tr HB.out HH1.out) HQ.out.2 ls0⟩
      rw [HE.out]
      exact pkL_nil _ _
    · have CH := Lib.hid (CHn.out qd)
      clear qd CHy CHn
      go_enter Tryd.func12, Tryd.ntmps12
      go_upto_region 1 with fail
      rw [show w.alloc (.cells #[.int .u32 0, .int .i64 0, .int .u32 0, .int .i64 0] tyL) = W from HW.out.symm, ← HQ.out.1]
      go_wp2_with fail
      refine CH.out.mono ?_
      rintro e w9 ⟨rfl, rfl⟩
      clear CH
      go_wp2_with fail
      refine CK.out.mono ?_
      rintro e w1 ⟨rfl, hb1⟩
      have HH1 := Lib.hid hb1
      clear hb1 CK
      have HE : Hid (grantL l vip dip now = ([], ls0, 9)) := Lib.hid (by unfold grantL; rw [if_neg (fun h => HNo.out h.2.2.2)])
      have HX1 := Lib.hid (HX.out.later HH1.out)
      obtain ⟨d0, d1, d2, d3⟩ := HX1.out.at
      obtain ⟨f0, f1, f2, f3⟩ := HX1.out.free
      go_wp2
      refine bodyPost_ret (v := .tuple #[.slice none 0 0, ls0.val, .int .i64 9]) (by simp [results, Tryd.results12, go_sem, d0, d1, d2, d3, ls0]) rfl ?_
      refine ⟨⟨_, by rw [HE.out] <;> rfl, ?_⟩, bl_stL (bl_tr HB.out HH1.out) HQ.out.2 ls0⟩
      rw [HE.out]
      exact pkL_nil _ _
end Go.Proofs.YtanajblldlgalaaDoor
