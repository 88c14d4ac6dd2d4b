/- Contract of sort.choosePivot_func where 'less' may make blocks of its own. Conditions: as stated. -/
import Derived.Test.YtpbgccidhpfmgaaSgP
namespace Go.Proofs.Ytpbgccidhpfmgaa
open Go Go.RowKit Go.Sort
set_option linter.unusedVariables false
set_option linter.unusedSimpArgs false

variable {α : Type} [Inhabited α] {enc : α → List Value} {k : Nat} {lt : α → α → Bool} {g : Nat} {lb : Array Value} {sf : Nat} {sb : Array Value} {blk n : Nat} {w0 : World} {d0 : Array α}
theorem adj_lt (lt : α → α → Bool) (d : Array α) {a v m : Nat} (h1 : 1 ≤ a) (h2 : a + 1 < m) : (medianAdjacent lt d a v).1 < m ∧ (medianAdjacent lt d a v).2 ≤ v + 3 := med_lt lt d (by omega) (by omega) h2
set_option maxRecDepth 100000 in
set_option maxHeartbeats 1000000 in
theorem piv_g (S : Sgt enc k lt g lb sf sb blk n w0 d0) (a b : Nat) (d : Array α) (w : World) (hw : SWK enc k w0 blk 0 d w) (hl : d.size = n) (hab : a < b) (hb : b ≤ n) :
    Calls Try.prog 116 #[.agg #[.func (.func g) #[] lb, .func (.func sf) #[] sb], .int .i64 a, .int .i64 b] w fun e w' => e = .returned (.tuple #[.int .i64 (choosePivot lt d a b).1, .int .i64 (hintCode (choosePivot lt d a b).2)]) ∧ SWK enc k w0 blk 0 d w' ∧ Tch Non w w' := by
  have hsz := S.sz
  rw [choosePivot_eq]
  have h0le : w0.heap.size ≤ w.heap.size := hw.le
  obtain ⟨W, hW⟩ : ∃ W, (w.alloc (.cells #[(.func (.func g) #[] lb), (.func (.func sf) #[] sb)] 154)).alloc (.cells #[.int .i64 0] 3) = W := ⟨_, rfl⟩
  have hs1 : (w.alloc (.cells #[(.func (.func g) #[] lb), (.func (.func sf) #[] sb)] 154)).heap.size = w.heap.size + 1 := by simp
  have hT0 : Tch Non w W := by rw [← hW]; exact tch_grw _ (((Grw.refl w).alloc _).alloc _)
  have hb0 : W.cell? ⟨w.heap.size, 0, none⟩ = some (.func (.func g) #[] lb) ∧ W.cell? ⟨w.heap.size, 1, none⟩ = some (.func (.func sf) #[] sb) := by
    obtain ⟨y0, y1⟩ := box_new w 154 (.func (.func g) #[] lb) (.func (.func sf) #[] sb)
    have ht : Tch Non (w.alloc (.cells #[(.func (.func g) #[] lb), (.func (.func sf) #[] sb)] 154)) W := by rw [← hW]; exact tch_grw _ ((Grw.refl _).alloc _)
    exact ⟨ht.cell y0 (fun h => h), ht.cell y1 (fun h => h)⟩
  have hs0 : SWK enc k w0 blk 0 d W := by rw [← hW]; exact (hw.alloc _).alloc _
  have hc0 : Cnt W (w.heap.size + 1) 0 := by
    have hh : W.heap[w.heap.size + 1]? = some (.cells #[.int .i64 0] 3 (0, 0)) := by rw [← hW, ← hs1]; exact (MapKept.heap_alloc _ _).1
    exact ⟨by rw [cell_of_row W _ 0 _ _ _ hh]; rfl, frozen_of_row W _ 0 _ _ hh⟩
  have hcb : w0.heap.size ≤ w.heap.size + 1 := by omega
  have hnc : w.heap.size ≠ w.heap.size + 1 := by omega
  have hback : ∀ W', Tch (· = w.heap.size + 1) W W' → Tch Non w W' := fun W' ht => hT0.trans' ht (fun q hq e => by omega)
  obtain ⟨I, hI⟩ : ∃ I : Nat, I = a + (b - a) / 4 * 1 := ⟨_, rfl⟩
  obtain ⟨J, hJ⟩ : ∃ J : Nat, J = a + (b - a) / 4 * 2 := ⟨_, rfl⟩
  obtain ⟨K, hK⟩ : ∃ K : Nat, K = a + (b - a) / 4 * 3 := ⟨_, rfl⟩
  have eI' : ((a : Int) + ((b : Int) - (a : Int)) / 4) = (I : Int) := by omega
  have eJ' : ((a : Int) + ((b : Int) - (a : Int)) / 4 * 2) = (J : Int) := by omega
  have eK' : ((a : Int) + ((b : Int) - (a : Int)) / 4 * 3) = (K : Int) := by omega
  have EI := Lib.hid eI'
  have EJ := Lib.hid eJ'
  have EK := Lib.hid eK'
  clear eI' eJ' eK'
  have HW := Lib.hid hW
  have HBK := Lib.hid hback
  have HL := Lib.hid hl
  have HB0 := Lib.hid hb0
  obtain ⟨x0, x1⟩ := hb0
  clear hW hback hl hT0 hs1
  by_cases h8 : b - a ≥ 8
  · have h8z : (8 : Int) ≤ (b : Int) - (a : Int) := by omega
    by_cases h50 : b - a ≥ 50
    · have h50z : (50 : Int) ≤ (b : Int) - (a : Int) := by omega
      obtain ⟨i1, s1, h1⟩ : ∃ i1 s1, medianAdjacent lt d I 0 = (i1, s1) := ⟨_, _, rfl⟩
      obtain ⟨j1, s2, h2⟩ : ∃ j1 s2, medianAdjacent lt d J s1 = (j1, s2) := ⟨_, _, rfl⟩
      obtain ⟨k3, s3, h3⟩ : ∃ k3 s3, medianAdjacent lt d K s2 = (k3, s3) := ⟨_, _, rfl⟩
      obtain ⟨p, s, h4⟩ : ∃ p s, median lt d i1 j1 k3 s3 = (p, s) := ⟨_, _, rfl⟩
      have hraw : rawPivot lt d a b = (p, s) := by simp only [rawPivot, if_pos h8, if_pos h50, ← hI, ← hJ, ← hK, h1, h2, h3, h4]
      have m1 := adj_lt lt d (a := I) (v := 0) (m := n) (by omega) (by omega)
      rw [h1] at m1
      have m2 := adj_lt lt d (a := J) (v := s1) (m := n) (by omega) (by omega)
      rw [h2] at m2
      have m3 := adj_lt lt d (a := K) (v := s2) (m := n) (by omega) (by omega)
      rw [h3] at m3
      simp only at m1 m2 m3
      have H1 := Lib.hid h1
      have H2 := Lib.hid h2
      have H3 := Lib.hid h3
      have H4 := Lib.hid h4
      have bI : 1 ≤ I ∧ I + 1 < n := by omega
      have bJ : 1 ≤ J ∧ J + 1 < n := by omega
      have bK : 1 ≤ K ∧ K + 1 < n := by omega
      rw [hraw]
      clear hraw h1 h2 h3 h4 hI hJ hK
      by_cases z0 : s = 0
      · have hcode : hintCode (hintOf s) = 1 := by rw [z0]; rfl
        rw [hcode]
        have HZ := Lib.hid z0
        have tz : ((s : Int) == 0) = true := by rw [z0]; rfl
        clear hcode z0
        go_enter Try.func116, Try.ntmps116
        go_upto_region 3 with fail
        rw [HW.out]
        go_upto_region 6 with fail
        rw [EI.out, EJ.out, EK.out]
        have C1 := adj_g S I (w.heap.size + 1) 0 d W hs0 HL.out (by omega) (by omega) hc0 hcb (by omega)
        rw [H1.out] at C1
        go_wp2_with fail
        refine C1.mono ?_
        rintro e w1 ⟨rfl, q1, k1, t1⟩
        clear C1
        have u1 := t1
        have y1 := box_tch HB0.out hnc u1
        clear x0 x1
        obtain ⟨x0, x1⟩ := y1
        have C2 := adj_g S J (w.heap.size + 1) s1 d w1 q1 HL.out (by omega) (by omega) k1 hcb (by omega)
        rw [H2.out] at C2
        go_wp2_with fail
        refine C2.mono ?_
        rintro e w2 ⟨rfl, q2, k2, t2⟩
        clear C2
        have u2 := u1.trans t2
        have y2 := box_tch HB0.out hnc u2
        clear x0 x1
        obtain ⟨x0, x1⟩ := y2
        have C3 := adj_g S K (w.heap.size + 1) s2 d w2 q2 HL.out (by omega) (by omega) k2 hcb (by omega)
        rw [H3.out] at C3
        go_wp2_with fail
        refine C3.mono ?_
        rintro e w3 ⟨rfl, q3, kk3, t3⟩
        clear C3
        have u3 := u2.trans t3
        have y3 := box_tch HB0.out hnc u3
        clear x0 x1
        obtain ⟨x0, x1⟩ := y3
        have C4 := med_g S i1 j1 k3 (w.heap.size + 1) s3 d w3 q3 HL.out (by omega) (by omega) (by omega) kk3 hcb (by omega)
        rw [H4.out] at C4
        go_wp2_with fail
        refine C4.mono ?_
        rintro e w4 ⟨rfl, q4, k4, t4⟩
        clear C4
        have u4 := u3.trans t4
        have v0 := k4.1
        go_wp2
        go_ret2
        exact ⟨rfl, q4, HBK.out _ u4⟩
      · by_cases z1 : s = 12
        · have hcode : hintCode (hintOf s) = 2 := by rw [z1]; rfl
          rw [hcode]
          have tz : ((s : Int) == 0) = false := by rw [z1]; rfl
          have tz1 : ((s : Int) == 12) = true := by rw [z1]; rfl
          clear hcode z0 z1
          go_enter Try.func116, Try.ntmps116
          go_upto_region 3 with fail
          rw [HW.out]
          go_upto_region 6 with fail
          rw [EI.out, EJ.out, EK.out]
          have C1 := adj_g S I (w.heap.size + 1) 0 d W hs0 HL.out (by omega) (by omega) hc0 hcb (by omega)
          rw [H1.out] at C1
          go_wp2_with fail
          refine C1.mono ?_
          rintro e w1 ⟨rfl, q1, k1, t1⟩
          clear C1
          have u1 := t1
          have y1 := box_tch HB0.out hnc u1
          clear x0 x1
          obtain ⟨x0, x1⟩ := y1
          have C2 := adj_g S J (w.heap.size + 1) s1 d w1 q1 HL.out (by omega) (by omega) k1 hcb (by omega)
          rw [H2.out] at C2
          go_wp2_with fail
          refine C2.mono ?_
          rintro e w2 ⟨rfl, q2, k2, t2⟩
          clear C2
          have u2 := u1.trans t2
          have y2 := box_tch HB0.out hnc u2
          clear x0 x1
          obtain ⟨x0, x1⟩ := y2
          have C3 := adj_g S K (w.heap.size + 1) s2 d w2 q2 HL.out (by omega) (by omega) k2 hcb (by omega)
          rw [H3.out] at C3
          go_wp2_with fail
          refine C3.mono ?_
          rintro e w3 ⟨rfl, q3, kk3, t3⟩
          clear C3
          have u3 := u2.trans t3
          have y3 := box_tch HB0.out hnc u3
          clear x0 x1
          obtain ⟨x0, x1⟩ := y3
          have C4 := med_g S i1 j1 k3 (w.heap.size + 1) s3 d w3 q3 HL.out (by omega) (by omega) (by omega) kk3 hcb (by omega)
          rw [H4.out] at C4
          go_wp2_with fail
          refine C4.mono ?_
          rintro e w4 ⟨rfl, q4, k4, t4⟩
          clear C4
          have u4 := u3.trans t4
          have v0 := k4.1
          go_wp2
          go_ret2
          exact ⟨rfl, q4, HBK.out _ u4⟩
        · have hcode : hintCode (hintOf s) = 0 := by unfold hintOf; rw [if_neg z0, if_neg z1]; rfl
          rw [hcode]
          have tz : ((s : Int) == 0) = false := by simp; omega
          have tz1 : ((s : Int) == 12) = false := by simp; omega
          clear hcode z0 z1
          go_enter Try.func116, Try.ntmps116
          go_upto_region 3 with fail
          rw [HW.out]
          go_upto_region 6 with fail
          rw [EI.out, EJ.out, EK.out]
          have C1 := adj_g S I (w.heap.size + 1) 0 d W hs0 HL.out (by omega) (by omega) hc0 hcb (by omega)
          rw [H1.out] at C1
          go_wp2_with fail
          refine C1.mono ?_
          rintro e w1 ⟨rfl, q1, k1, t1⟩
          clear C1
          have u1 := t1
          have y1 := box_tch HB0.out hnc u1
          clear x0 x1
          obtain ⟨x0, x1⟩ := y1
          have C2 := adj_g S J (w.heap.size + 1) s1 d w1 q1 HL.out (by omega) (by omega) k1 hcb (by omega)
          rw [H2.out] at C2
          go_wp2_with fail
          refine C2.mono ?_
          rintro e w2 ⟨rfl, q2, k2, t2⟩
          clear C2
          have u2 := u1.trans t2
          have y2 := box_tch HB0.out hnc u2
          clear x0 x1
          obtain ⟨x0, x1⟩ := y2
          have C3 := adj_g S K (w.heap.size + 1) s2 d w2 q2 HL.out (by omega) (by omega) k2 hcb (by omega)
          rw [H3.out] at C3
          go_wp2_with fail
          refine C3.mono ?_
          rintro e w3 ⟨rfl, q3, kk3, t3⟩
          clear C3
          have u3 := u2.trans t3
          have y3 := box_tch HB0.out hnc u3
          clear x0 x1
          obtain ⟨x0, x1⟩ := y3
          have C4 := med_g S i1 j1 k3 (w.heap.size + 1) s3 d w3 q3 HL.out (by omega) (by omega) (by omega) kk3 hcb (by omega)
          rw [H4.out] at C4
          go_wp2_with fail
          refine C4.mono ?_
          rintro e w4 ⟨rfl, q4, k4, t4⟩
          clear C4
          have u4 := u3.trans t4
          have v0 := k4.1
          go_wp2
          go_ret2
          exact ⟨rfl, q4, HBK.out _ u4⟩
    · have h50z : ¬ (50 : Int) ≤ (b : Int) - (a : Int) := by omega
      obtain ⟨p, s, h4⟩ : ∃ p s, median lt d I J K 0 = (p, s) := ⟨_, _, rfl⟩
      have hraw : rawPivot lt d a b = (p, s) := by simp only [rawPivot, if_pos h8, if_neg h50, ← hI, ← hJ, ← hK, h4]
      have H4 := Lib.hid h4
      have bI : 1 ≤ I ∧ I + 1 < n := by omega
      have bJ : 1 ≤ J ∧ J + 1 < n := by omega
      have bK : 1 ≤ K ∧ K + 1 < n := by omega
      rw [hraw]
      clear hraw h4 hI hJ hK
      by_cases z0 : s = 0
      · have hcode : hintCode (hintOf s) = 1 := by rw [z0]; rfl
        rw [hcode]
        have HZ := Lib.hid z0
        have tz : ((s : Int) == 0) = true := by rw [z0]; rfl
        clear hcode z0
        go_enter Try.func116, Try.ntmps116
        go_upto_region 3 with fail
        rw [HW.out]
        go_upto_region 6 with fail
        rw [EI.out, EJ.out, EK.out]
        have C4 := med_g S I J K (w.heap.size + 1) 0 d W hs0 HL.out (by omega) (by omega) (by omega) hc0 hcb (by omega)
        rw [H4.out] at C4
        go_wp2_with fail
        refine C4.mono ?_
        rintro e w4 ⟨rfl, q4, k4, t4⟩
        clear C4
        have v0 := k4.1
        go_wp2
        go_ret2
        exact ⟨rfl, q4, HBK.out _ t4⟩
      · by_cases z1 : s = 12
        · have hcode : hintCode (hintOf s) = 2 := by rw [z1]; rfl
          rw [hcode]
          have tz : ((s : Int) == 0) = false := by rw [z1]; rfl
          have tz1 : ((s : Int) == 12) = true := by rw [z1]; rfl
          clear hcode z0 z1
          go_enter Try.func116, Try.ntmps116
          go_upto_region 3 with fail
          rw [HW.out]
          go_upto_region 6 with fail
          rw [EI.out, EJ.out, EK.out]
          have C4 := med_g S I J K (w.heap.size + 1) 0 d W hs0 HL.out (by omega) (by omega) (by omega) hc0 hcb (by omega)
          rw [H4.out] at C4
          go_wp2_with fail
          refine C4.mono ?_
          rintro e w4 ⟨rfl, q4, k4, t4⟩
          clear C4
          have v0 := k4.1
          go_wp2
          go_ret2
          exact ⟨rfl, q4, HBK.out _ t4⟩
        · have hcode : hintCode (hintOf s) = 0 := by unfold hintOf; rw [if_neg z0, if_neg z1]; rfl
          rw [hcode]
          have tz : ((s : Int) == 0) = false := by simp; omega
          have tz1 : ((s : Int) == 12) = false := by simp; omega
          clear hcode z0 z1
          go_enter Try.func116, Try.ntmps116
          go_upto_region 3 with fail
          rw [HW.out]
          go_upto_region 6 with fail
          rw [EI.out, EJ.out, EK.out]
          have C4 := med_g S I J K (w.heap.size + 1) 0 d W hs0 HL.out (by omega) (by omega) (by omega) hc0 hcb (by omega)
          rw [H4.out] at C4
          go_wp2_with fail
          refine C4.mono ?_
          rintro e w4 ⟨rfl, q4, k4, t4⟩
          clear C4
          have v0 := k4.1
          go_wp2
          go_ret2
          exact ⟨rfl, q4, HBK.out _ t4⟩
  · have h8z : ¬ (8 : Int) ≤ (b : Int) - (a : Int) := by omega
    have hraw : rawPivot lt d a b = (J, 0) := by simp only [rawPivot, if_neg h8, ← hJ]
    rw [hraw]
    clear hraw hI hJ hK
    have v0 := hc0.1
    go_enter Try.func116, Try.ntmps116
    go_upto_region 3 with fail
    rw [HW.out]
    go_upto_region 6 with fail
    rw [EI.out, EJ.out, EK.out]
    go_wp2
    go_ret2
    exact ⟨rfl, hs0, HBK.out _ (Tch.refl _ _)⟩
end Go.Proofs.Ytpbgccidhpfmgaa
