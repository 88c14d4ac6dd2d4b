/- The document's Renew. Conditions: the list came in; the numbers fit their kinds. -/
import Derived.Test.YtanajblldlgalaaDoorRfE
namespace Go.Proofs.YtanajblldlgalaaDoor
open Go Go.RowKit
set_option linter.unusedVariables false
set_option linter.unusedSimpArgs false

theorem any_hit {p : Ls → Bool} {l : List Ls} {i : Nat} (hi : i < l.length) (e : p (l.getD i ls0) = true) : l.any p = true := List.any_eq_true.2 ⟨_, memL hi, e⟩
theorem any_miss {p : Ls → Bool} {l : List Ls} {i : Nat} (hi : i < l.length) (h : (l.take i).any p = false) (e : p (l.getD i ls0) = false) : (l.take (i + 1)).any p = false := by
  rw [take_moreL l hi, List.any_append, h, List.any_cons, e, List.any_nil]
  rfl
set_option maxRecDepth 100000 in
set_option maxHeartbeats 8000000 in
theorem refRenew_c (l : List Ls) (vip first dip now : Int) (a : Option Addr) (n c : Nat) (w : World) (hI : InL w a n c l) (hn : n ≤ 1048576) :
    Calls Tryd.prog 17 #[.slice a n c, .int .u32 vip, .int .i64 first, .int .u32 dip, .int .i64 now] w (OutR w (renewL l vip first dip now)) := by
  obtain ⟨W, hW⟩ : ∃ W, W = w.alloc (.cells #[.int .u32 0, .int .i64 0, .int .u32 0, .int .i64 0] tyL) := ⟨_, rfl⟩
  have hb : Below w.heap.size w W := by rw [hW]; exact bl_al (Below.refl _ _) _
  obtain ⟨q, hq⟩ : ∃ q, q = w.heap.size := ⟨_, rfl⟩
  have hx : BxL W q ls0 := by rw [hW, hq]; exact bxL_new w ls0
  have hlen := hI.len
  have CK := Lib.hid (refGood_c l a n c W (hI.below hb) hn)
  have CT := Lib.hid (fun W1 => refTime_c now W1)
  have CWW := Lib.hid (fun (x : Ls) (hs : l.Pairwise (fun a b => ltL a b = true)) (W1 : World) (h : Below W.heap.size W W1) => refWith_c x l a n c W1 ((hI.below hb).below h) hn hs)
  have HI := Lib.hid (hI.below hb)
  have HB := Lib.hid hb
  have HX := Lib.hid hx
  have HW := Lib.hid hW
  have HQ : Hid (q = w.heap.size ∧ w.heap.size ≤ q) := Lib.hid ⟨hq, by omega⟩
  have HTN : Hid (l.take n = l) := Lib.hid (List.take_of_length_le (by omega))
  clear hW hq hx hb hI
  by_cases qo : OkL l
  · have HO := Lib.hid qo
    rw [decide_eq_true qo] at CK
    clear qo
    by_cases qt : OkTm now
    · have HT := Lib.hid qt
      rw [decide_eq_true qt] at CT
      clear qt
      have R0 : Hid ((l.take 0).any (isR vip first dip now) = false) := Lib.hid rfl
      go_enter Tryd.func17, Tryd.ntmps17
      go_upto_region 1 with fail
      rw [show w.alloc (.cells #[.int .u32 0, .int .i64 0, .int .u32 0, .int .i64 0] tyL) = W from HW.out.symm, ← HQ.out.1]
      go_wp2_with fail
      refine CK.out.mono ?_
      rintro e w1 ⟨rfl, hb1⟩
      have HH1 := Lib.hid hb1
      clear hb1 CK
      go_wp2_with fail
      refine (CT.out w1).mono ?_
      rintro e w9 ⟨rfl, rfl⟩
      clear CT
      go_wp2
      go_loopw [13] (fun iv wr => ∃ i : Nat, i ≤ n ∧ iv = .int .i64 i ∧ Hid ((l.take i).any (isR vip first dip now) = false) ∧ Hid (Below W.heap.size W wr)) (fun iv _ => n - (intOf iv).toNat)
      case atStart => exact ⟨0, by omega, rfl, R0, HH1⟩
      case round =>
        obtain ⟨i, hi, rfl, HN, HBr⟩ := hrel
        obtain ⟨w2, rfl⟩ : ∃ v, v = wr := ⟨_, rfl⟩
        clear R0
        by_cases hlt : i < n
        · have ii : (i : Int) < (n : Int) := by omega
          have j0 : (0 : Int) ≤ (i : Int) := by omega
          obtain ⟨b, off, rfl⟩ := HI.out.block (by omega)
          have hx := (HI.out.below HBr.out).cell hlt
          have HH := Lib.hid (fun e => any_hit (p := isR vip first dip now) (l := l) (i := i) (by omega) e)
          have HM := Lib.hid (fun e => any_miss (p := isR vip first dip now) (l := l) (i := i) (by omega) HN.out e)
          obtain ⟨x, ex⟩ : ∃ x, x = l.getD i ls0 := ⟨_, rfl⟩
          rw [← ex] at hx HH HM
          obtain ⟨w3, g, hw3, hg3, hA, hb3, hg4⟩ := boxed w2 x
          have HG3 : Hid (BxL w3 g x) := Lib.hid (by rw [hw3, hg3]; exact bxL_new w2 _)
          have HB3 := Lib.hid (bl_tr HBr.out hb3)
          have HX3 := Lib.hid (HX.out.later HB3.out)
          have HGQ : Hid (g ≠ q) := Lib.hid (by have := (HX.out.later HBr.out).lt; omega)
          have HGL : Hid (W.heap.size ≤ g) := Lib.hid (by rw [hg3]; exact HBr.out.size)
          have HW3 := Lib.hid (And.intro hw3 hg3)
          obtain ⟨c0, c1, c2, c3⟩ := hx
          obtain ⟨x0, x1, x2, x3⟩ := x
          obtain ⟨a0, a1, a2, a3⟩ := HG3.out.at
          obtain ⟨h0, h1, h2, h3⟩ := HG3.out.free
          clear ex hw3 hg3 hb3 hg4 hA
          by_cases e1 : x0 = vip
          · have q1 : (x0 == vip) = true := by simpa using e1
            by_cases e2 : x1 = first
            · have q2 : (x1 == first) = true := by simpa using e2
              by_cases e3 : x2 = dip
              · have q3 : (x2 == dip) = true := by simpa using e3
                by_cases e4 : now ≤ x3
                · have HAny := Lib.hid (HH.out (by unfold isR livL; simp only; rw [decide_eq_true e1, decide_eq_true e2, decide_eq_true e3, decide_eq_true e4]; rfl))
                  have HE0 : Hid (renewL l vip first dip now = (withL ⟨vip, first, dip, now + 64⟩ l, ⟨vip, first, dip, now + 64⟩, (0 : Int))) := Lib.hid (by unfold renewL; rw [if_pos ⟨HT.out, HO.out⟩, if_pos HAny.out])
                  have HXE : Hid (x0 = vip ∧ x1 = first ∧ x2 = dip) := Lib.hid ⟨e1, e2, e3⟩
                  clear e1 e2 e3
                  obtain ⟨T, hT⟩ : ∃ T, T = now + 64 := ⟨_, rfl⟩
                  have HTT := Lib.hid hT
                  have hT1 : 0 ≤ now ∧ now ≤ 1099511627776 := HT.out
                  rw [← hT] at HE0
                  clear hT
                  go_upto_region 7 with fail
                  rw [show w2.alloc (.cells #[.int .u32 x0, .int .i64 x1, .int .u32 x2, .int .i64 x3] tyL) = w3 from HW3.out.1.symm, ← HW3.out.2]
                  go_upto_region 9 with fail
                  rw [← HTT.out]
                  obtain ⟨w8, hw8⟩ : ∃ w8, w8 = w3.setCell ⟨g, 3, none⟩ (.int .i64 T) := ⟨_, rfl⟩
                  have HG8 : Hid (BxL w8 g ⟨x0, x1, x2, T⟩) := Lib.hid (by rw [hw8]; exact heap_setCell_same w3 g 3 _ _ _ HG3.out)
                  have HH8 : Hid (Below W.heap.size W w8) := Lib.hid (by rw [hw8]; exact HB3.out.setCell (p := ⟨g, 3, none⟩) HGL.out _)
                  have HX8 := Lib.hid (HX.out.later HH8.out)
                  rw [← hw8]
                  have CW := Lib.hid (CWW.out ⟨x0, x1, x2, T⟩ HO.out.2)
                  have HE : Hid (renewL l vip first dip now = (withL ⟨x0, x1, x2, T⟩ l, ⟨x0, x1, x2, T⟩, (0 : Int))) := Lib.hid (by rw [HE0.out, HXE.out.1, HXE.out.2.1, HXE.out.2.2])
                  clear hw8 hT1 CWW c0 c1 c2 c3 a0 a1 a2 a3 h0 h1 h2 h3
                  obtain ⟨a0, a1, a2, a3⟩ := HG8.out.at
                  have hS0 : w8.drew.cell? ⟨g, 0, none⟩ = some (.int .u32 x0) ∧ w8.drew.cell? ⟨g, 1, none⟩ = some (.int .i64 x1) ∧ w8.drew.cell? ⟨g, 2, none⟩ = some (.int .u32 x2) ∧ w8.drew.cell? ⟨g, 3, none⟩ = some (.int .i64 T) := ⟨a0, a1, a2, a3⟩
                  clear a0 a1 a2 a3
                  go_region_held3 (fun wx => wx.cell? ⟨g, 0, none⟩ = some (.int .u32 x0) ∧ wx.cell? ⟨g, 1, none⟩ = some (.int .i64 x1) ∧ wx.cell? ⟨g, 2, none⟩ = some (.int .u32 x2) ∧ wx.cell? ⟨g, 3, none⟩ = some (.int .i64 T)) (first | (with_reducible exact hS0) | (with_reducible exact hS3) | (with_reducible exact setG hS3 HGQ.out) | (with_reducible assumption) | fail)
                    (first | (go_at_call 36; (with_reducible refine (CW.out _ HH8.out.drew).mono ?_); rintro e w5 ⟨⟨v5, rfl, hK5⟩, hb5⟩; have hS3 := keep4d hS0 hb5; obtain ⟨k0, k1, k2, k3⟩ := (BxL.later (w := w8.drew) HX8.out hb5).at; obtain ⟨f0, f1, f2, f3⟩ := (BxL.later (w := w8.drew) HX8.out hb5).free) | fail)
                  all_goals
                    have HF1 : Hid (BxL w5 q ls0) := Lib.hid (BxL.later (w := w8.drew) HX8.out hb5)
                    have HW5 : Hid (PkL w8.drew.heap.size w5 v5 (withL ⟨x0, x1, x2, T⟩ l) ∧ Below W.heap.size W w5) := Lib.hid ⟨hK5, bl_tr HH8.out.drew hb5⟩
                    clear hS0 hS3 k0 k1 k2 k3 f0 f1 f2 f3 hb5 hK5
                    obtain ⟨e0, e1, e2, e3⟩ := (stL_bx HF1.out ⟨x0, x1, x2, T⟩).at
                    obtain ⟨w6, hw6⟩ : ∃ w6, w6 = stL w5 q ⟨x0, x1, x2, T⟩ := ⟨_, rfl⟩
                    rw [← hw6] at e0 e1 e2 e3
                    rw [show (((w5.setCell ⟨q, 0, none⟩ (.int .u32 x0)).setCell ⟨q, 1, none⟩ (.int .i64 x1)).setCell ⟨q, 2, none⟩ (.int .u32 x2)).setCell ⟨q, 3, none⟩ (.int .i64 T) = w6 from hw6.symm]
                    have HR : Hid (PkL w.heap.size w6 v5 (withL ⟨x0, x1, x2, T⟩ l) ∧ Below w.heap.size w w6) := Lib.hid (by
                      rw [hw6]
                      exact ⟨own_base (own_stL HW5.out.1 (HX8.out.lt) _) (by have h1 := HB.out.size; have h2 := HH8.out.size; show w.heap.size ≤ w8.heap.size; omega), bl_stL (bl_tr HB.out HW5.out.2) HQ.out.2 _⟩)
                    clear hw6 HW5
                    go_wp2
                    refine bodyPost_ret (v := .tuple #[v5, .agg #[.int .u32 x0, .int .i64 x1, .int .u32 x2, .int .i64 T], .int .i64 0]) (by simp [results, Tryd.results17, go_sem, e0, e1, e2, e3]) rfl ?_
                    refine ⟨⟨v5, by rw [HE.out] <;> rfl, ?_⟩, HR.out.2⟩
                    rw [HE.out]
                    exact HR.out.1
                · have HN2 := Lib.hid (HM.out (by unfold isR livL; simp only; rw [decide_eq_false e4]; simp))
                  clear e1 e2 e3
                  go_upto_region 7 with fail
                  rw [show w2.alloc (.cells #[.int .u32 x0, .int .i64 x1, .int .u32 x2, .int .i64 x3] tyL) = w3 from HW3.out.1.symm, ← HW3.out.2]
                  go_wp2
                  go_roundw
                  case rel => exact ⟨i + 1, by omega, by go_num, HN2, HB3⟩
                  case measure => simp [intOf]; omega
              · have q3 : (x2 == dip) = false := by simpa using e3
                have HN2 := Lib.hid (HM.out (by unfold isR; simp only; rw [decide_eq_false e3]; simp))
                clear e1 e2 e3
                go_upto_region 7 with fail
                rw [show w2.alloc (.cells #[.int .u32 x0, .int .i64 x1, .int .u32 x2, .int .i64 x3] tyL) = w3 from HW3.out.1.symm, ← HW3.out.2]
                go_wp2
                go_roundw
                case rel => exact ⟨i + 1, by omega, by go_num, HN2, HB3⟩
                case measure => simp [intOf]; omega
            · have q2 : (x1 == first) = false := by simpa using e2
              have HN2 := Lib.hid (HM.out (by unfold isR; simp only; rw [decide_eq_false e2]; simp))
              clear e1 e2
              go_upto_region 7 with fail
              rw [show w2.alloc (.cells #[.int .u32 x0, .int .i64 x1, .int .u32 x2, .int .i64 x3] tyL) = w3 from HW3.out.1.symm, ← HW3.out.2]
              go_wp2
              go_roundw
              case rel => exact ⟨i + 1, by omega, by go_num, HN2, HB3⟩
              case measure => simp [intOf]; omega
          · have q1 : (x0 == vip) = false := by simpa using e1
            have HN2 := Lib.hid (HM.out (by unfold isR; simp only; rw [decide_eq_false e1]; simp))
            clear e1
            go_upto_region 7 with fail
            rw [show w2.alloc (.cells #[.int .u32 x0, .int .i64 x1, .int .u32 x2, .int .i64 x3] tyL) = w3 from HW3.out.1.symm, ← HW3.out.2]
            go_wp2
            go_roundw
            case rel => exact ⟨i + 1, by omega, by go_num, HN2, HB3⟩
            case measure => simp [intOf]; omega
        · have ii : ¬ (i : Int) < (n : Int) := by omega
          obtain rfl : i = n := by omega
          have HAny : Hid (l.any (isR vip first dip now) = false) := Lib.hid (by have := HN.out; rwa [HTN.out] at this)
          clear HH1
          have HH1 := HBr
          have HE : Hid (renewL l vip first dip now = ([], ls0, 6)) := Lib.hid (by unfold renewL; rw [if_pos ⟨HT.out, HO.out⟩, HAny.out, if_neg Bool.false_ne_true])
          have HX1 := Lib.hid (HX.out.later HH1.out)
          obtain ⟨d0, d1, d2, d3⟩ := HX1.out.at
          obtain ⟨f0, f1, f2, f3⟩ := HX1.out.free
          go_wp2
          refine bodyPost_ret (v := .tuple #[.slice none 0 0, ls0.val, .int .i64 6]) (by simp [results, Tryd.results17, go_sem, d0, d1, d2, d3, ls0]) rfl ?_
          refine ⟨⟨_, by rw [HE.out] <;> rfl, ?_⟩, bl_stL (bl_tr HB.out HH1.out) HQ.out.2 ls0⟩
          rw [HE.out]
          exact pkL_nil _ _
    · rw [decide_eq_false qt] at CT
      have HNo := Lib.hid qt
      clear qt
      go_enter Tryd.func17, Tryd.ntmps17
      go_upto_region 1 with fail
      rw [show w.alloc (.cells #[.int .u32 0, .int .i64 0, .int .u32 0, .int .i64 0] tyL) = W from HW.out.symm, ← HQ.out.1]
      go_wp2_with fail
      refine CK.out.mono ?_
      rintro e w1 ⟨rfl, hb1⟩
      have HH1 := Lib.hid hb1
      clear hb1 CK
      go_wp2_with fail
      refine (CT.out w1).mono ?_
      rintro e w9 ⟨rfl, rfl⟩
      clear CT
      have HE : Hid (renewL l vip first dip now = ([], ls0, 9)) := Lib.hid (by unfold renewL; rw [if_neg (fun h => HNo.out h.1)])
      have HX1 := Lib.hid (HX.out.later HH1.out)
      obtain ⟨d0, d1, d2, d3⟩ := HX1.out.at
      obtain ⟨f0, f1, f2, f3⟩ := HX1.out.free
      go_wp2
      refine bodyPost_ret (v := .tuple #[.slice none 0 0, ls0.val, .int .i64 9]) (by simp [results, Tryd.results17, go_sem, d0, d1, d2, d3, ls0]) rfl ?_
      refine ⟨⟨_, by rw [HE.out] <;> rfl, ?_⟩, bl_stL (bl_tr HB.out HH1.out) HQ.out.2 ls0⟩
      rw [HE.out]
      exact pkL_nil _ _
  · rw [decide_eq_false qo] at CK
    have HNo := Lib.hid qo
    clear qo
    go_enter Tryd.func17, Tryd.ntmps17
    go_upto_region 1 with fail
    rw [show w.alloc (.cells #[.int .u32 0, .int .i64 0, .int .u32 0, .int .i64 0] tyL) = W from HW.out.symm, ← HQ.out.1]
    go_wp2_with fail
    refine CK.out.mono ?_
    rintro e w1 ⟨rfl, hb1⟩
    have HH1 := Lib.hid hb1
    clear hb1 CK
    have HE : Hid (renewL l vip first dip now = ([], ls0, 9)) := Lib.hid (by unfold renewL; rw [if_neg (fun h => HNo.out h.2)])
    have HX1 := Lib.hid (HX.out.later HH1.out)
    obtain ⟨d0, d1, d2, d3⟩ := HX1.out.at
    obtain ⟨f0, f1, f2, f3⟩ := HX1.out.free
    go_wp2
    refine bodyPost_ret (v := .tuple #[.slice none 0 0, ls0.val, .int .i64 9]) (by simp [results, Tryd.results17, go_sem, d0, d1, d2, d3, ls0]) rfl ?_
    refine ⟨⟨_, by rw [HE.out] <;> rfl, ?_⟩, bl_stL (bl_tr HB.out HH1.out) HQ.out.2 ls0⟩
    rw [HE.out]
    exact pkL_nil _ _
end Go.Proofs.YtanajblldlgalaaDoor
