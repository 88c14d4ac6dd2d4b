/- Sorting addresses: order2, median, medianAdjacent, choosePivot.
 Conditions: those stated. -/
import Derived.Test.YtlmkmbpikhagiaaSoA
import Derived.Sort.LotD4
import Derived.Sort.Walk13
import Derived.Deep.CutRange
import Derived.Deep.CutBlock
namespace Go.Proofs.Ytlmkmbpikhagiaa
open Go Go.RowKit Go.Sort
set_option linter.unusedVariables false
set_option linter.unusedSimpArgs false

/-- A counter in a block of the call's own. -/
def Cnt (w : World) (b : Nat) (v : Nat) : Prop := w.cell? ⟨b, 0, none⟩ = some (.int .i64 (v : Int)) ∧ w.frozen? ⟨b, 0, none⟩ = false
theorem Cnt.tch {T : Nat → Prop} {w w' : World} {b v : Nat} (h : Cnt w b v) (ht : Tch T w w') (hn : ¬ T b) : Cnt w' b v := by
  have hb : w'.heap[b]? = w.heap[b]? := ht.block b (block_lt_of_cell h.1) hn
  refine ⟨ht.cell h.1 hn, ?_⟩
  rw [← h.2]
  unfold World.frozen?
  simp only [hb]
theorem Cnt.set {w : World} {b v : Nat} (h : Cnt w b v) (u : Nat) : Cnt (w.setCell ⟨b, 0, none⟩ (.int .i64 (u : Int))) b u :=
  ⟨World.cell?_setCell_same' _ _ _ (by rw [h.1]; rfl), by rw [World.frozen?_setCell]; exact h.2⟩
set_option maxRecDepth 100000 in
set_option maxHeartbeats 4000000 in
theorem ord_a (blk off cap : Nat) (pre rest : List Value) (n : Nat) (a b c v : Nat) (d : Array Int) (w : World) (hS : Sr blk off pre rest n w d w) (ha : a < n) (hb : b < n) (hc : Cnt w c v) (hcb : c ≠ blk) (hv : v < 4611686018427387904) :
    Calls Try.prog 95 #[.slice (some ⟨blk, off, none⟩) n cap, .int .i64 a, .int .i64 b, .pointer (some ⟨c, 0, none⟩)] w fun e w' => e = .returned (.tuple #[.int .i64 (order2 ltInt d a b v).1, .int .i64 (order2 ltInt d a b v).2.1]) ∧ Sr blk off pre rest n w' d w' ∧ Cnt w' c (order2 ltInt d a b v).2.2 ∧ Tch (· = c) w w' := by
  have H0 := Lib.hid hS
  have HC := Lib.hid hc
  obtain ⟨q0, q1⟩ := hc
  clear hS
  obtain ⟨G, hG⟩ : ∃ G : Nat → Int, ∀ t, G t = d[t]! := ⟨fun t => d[t]!, fun _ => rfl⟩
  have hcw : ∀ t, t < n → w.cell? ⟨blk, off + t, none⟩ = some (.int .u32 (G t)) := fun t ht => by rw [hG]; exact H0.out.cell t ht
  have hfw := H0.out.free
  have HG : Hid (∀ t, G t = d[t]!) := Lib.hid hG
  clear hG
  cases hlv : ltInt (G b) (G a) with
  | true =>
    have HL := Lib.hid (show ltInt d[b]! d[a]! = true by rw [← HG.out, ← HG.out]; exact hlv)
    have hr : order2 ltInt d a b v = (b, a, v + 1) := if_pos HL.out
    rw [hr]
    clear hr
    go_enter Try.func95, Try.ntmps95
    go_wp2
    go_quiet ((go_at_call 71; refine Calls.quiet_of_same (less_a _ _ _)))
    go_wp2
    all_goals try (exfalso; rename_i hx; rw [hlv] at hx; exact Bool.noConfusion hx)
    go_ret2
    have ev : ((v : Int) + 1) = ((v + 1 : Nat) : Int) := by omega
    rw [ev]
    exact ⟨rfl, (H0.out.drewN _).apart (tch_set _ _ _) (fun e => hcb e.symm), (HC.out.tch (tch_drewN Non _ _) (fun h => h)).set _, (tch_drewN _ _ _).trans (tch_set _ ⟨c, 0, none⟩ _)⟩
  | false =>
    have HL := Lib.hid (show ltInt d[b]! d[a]! = false by rw [← HG.out, ← HG.out]; exact hlv)
    have hr : order2 ltInt d a b v = (a, b, v) := if_neg (by rw [HL.out]; simp)
    rw [hr]
    clear hr
    go_enter Try.func95, Try.ntmps95
    go_wp2
    go_quiet ((go_at_call 71; refine Calls.quiet_of_same (less_a _ _ _)))
    go_wp2
    all_goals try (exfalso; rename_i hx; rw [hlv] at hx; exact Bool.noConfusion hx)
    go_ret2
    exact ⟨rfl, (H0.out.drewN _).here, HC.out.tch (tch_drewN Non _ _) (fun h => h), tch_drewN _ _ _⟩
theorem ord_lt (lt : Int → Int → Bool) (d : Array Int) {a b v m : Nat} (ha : a < m) (hb : b < m) : (order2 lt d a b v).1 < m ∧ (order2 lt d a b v).2.1 < m ∧ (order2 lt d a b v).2.2 ≤ v + 1 := by
  unfold order2
  split
  · exact ⟨hb, ha, Nat.le_refl _⟩
  · exact ⟨ha, hb, Nat.le_succ _⟩
set_option maxRecDepth 100000 in
set_option maxHeartbeats 4000000 in
theorem med_a (blk off cap : Nat) (pre rest : List Value) (n : Nat) (a b e0 c v : Nat) (d : Array Int) (w : World) (hS : Sr blk off pre rest n w d w) (ha : a < n) (hb : b < n) (he : e0 < n) (hc : Cnt w c v) (hcb : c ≠ blk) (hv : v ≤ 1000) :
    Calls Try.prog 89 #[.slice (some ⟨blk, off, none⟩) n cap, .int .i64 a, .int .i64 b, .int .i64 e0, .pointer (some ⟨c, 0, none⟩)] w fun e w' => e = .returned (.int .i64 (median ltInt d a b e0 v).1) ∧ Sr blk off pre rest n w' d w' ∧ Cnt w' c (median ltInt d a b e0 v).2 ∧ Tch (· = c) w w' := by
  obtain ⟨a1, b1, v1, hr1⟩ : ∃ a1 b1 v1, order2 ltInt d a b v = (a1, b1, v1) := ⟨_, _, _, rfl⟩
  obtain ⟨b2, e2, v2, hr2⟩ : ∃ b2 e2 v2, order2 ltInt d b1 e0 v1 = (b2, e2, v2) := ⟨_, _, _, rfl⟩
  obtain ⟨a3, b3, v3, hr3⟩ : ∃ a3 b3 v3, order2 ltInt d a1 b2 v2 = (a3, b3, v3) := ⟨_, _, _, rfl⟩
  have l1 := ord_lt ltInt d (v := v) ha hb
  rw [hr1] at l1
  simp only at l1
  have l2 := ord_lt ltInt d (v := v1) l1.2.1 he
  rw [hr2] at l2
  simp only at l2
  have l3 := ord_lt ltInt d (v := v2) l1.1 l2.1
  rw [hr3] at l3
  simp only at l3
  have hm : median ltInt d a b e0 v = (b3, v3) := by unfold median; simp only [hr1, hr2, hr3]
  rw [hm]
  have C1 := ord_a blk off cap pre rest n a b c v d w hS ha hb hc hcb (by omega)
  rw [hr1] at C1
  clear hm hr1 hc hS
  go_enter Try.func89, Try.ntmps89
  go_wp2_with fail
  refine C1.mono ?_
  rintro e w1 ⟨rfl, hs1, hc1, ht1⟩
  have C2 := ord_a blk off cap pre rest n b1 e0 c v1 d w1 hs1 l1.2.1 he hc1 hcb (by omega)
  rw [hr2] at C2
  clear C1 hs1 hc1 hr2
  go_wp2_with fail
  refine C2.mono ?_
  rintro e w2 ⟨rfl, hs2, hc2, ht2⟩
  have C3 := ord_a blk off cap pre rest n a1 b2 c v2 d w2 hs2 l1.1 l2.1 hc2 hcb (by omega)
  rw [hr3] at C3
  have hT2 := ht1.trans ht2
  clear C2 hs2 hc2 ht1 ht2 hr3
  go_wp2_with fail
  refine C3.mono ?_
  rintro e w3 ⟨rfl, hs3, hc3, ht3⟩
  clear C3
  go_wp2
  go_ret
  exact ⟨rfl, hs3, hc3, hT2.trans ht3⟩
theorem med_lt (lt : Int → Int → Bool) (d : Array Int) {a b e0 v m : Nat} (ha : a < m) (hb : b < m) (he : e0 < m) : (median lt d a b e0 v).1 < m ∧ (median lt d a b e0 v).2 ≤ v + 3 := by
  have l1 := ord_lt lt d (v := v) ha hb
  have l2 := ord_lt lt d (v := (order2 lt d a b v).2.2) l1.2.1 he
  have l3 := ord_lt lt d (v := (order2 lt d (order2 lt d a b v).2.1 e0 (order2 lt d a b v).2.2).2.2) l1.1 l2.1
  exact ⟨l3.2.1, by have h1 := l1.2.2; have h2 := l2.2.2; have h3 := l3.2.2; unfold median; simp only; omega⟩
theorem adj_lt (lt : Int → Int → Bool) (d : Array Int) {a v m : Nat} (h1 : 1 ≤ a) (h2 : a + 1 < m) : (medianAdjacent lt d a v).1 < m ∧ (medianAdjacent lt d a v).2 ≤ v + 3 := med_lt lt d (by omega) (by omega) h2
set_option maxRecDepth 100000 in
set_option maxHeartbeats 4000000 in
theorem adj_a (blk off cap : Nat) (pre rest : List Value) (n : Nat) (a c v : Nat) (d : Array Int) (w : World) (hS : Sr blk off pre rest n w d w) (ha : 1 ≤ a) (hb : a + 1 < n) (hc : Cnt w c v) (hcb : c ≠ blk) (hv : v ≤ 1000) (hsz : n < 4611686018427387904) :
    Calls Try.prog 88 #[.slice (some ⟨blk, off, none⟩) n cap, .int .i64 a, .pointer (some ⟨c, 0, none⟩)] w fun e w' => e = .returned (.int .i64 (medianAdjacent ltInt d a v).1) ∧ Sr blk off pre rest n w' d w' ∧ Cnt w' c (medianAdjacent ltInt d a v).2 ∧ Tch (· = c) w w' := by
  have C1 := med_a blk off cap pre rest n (a - 1) a (a + 1) c v d w hS (by omega) (by omega) hb hc hcb hv
  rw [show ((a - 1 : Nat) : Int) = (a : Int) - 1 by omega, show ((a + 1 : Nat) : Int) = (a : Int) + 1 by omega] at C1
  clear hS hc
  go_enter Try.func88, Try.ntmps88
  go_wp2_with fail
  refine C1.mono ?_
  rintro e w1 ⟨rfl, hs1, hc1, ht1⟩
  clear C1
  go_wp2
  go_ret
  exact ⟨rfl, hs1, hc1, ht1⟩
set_option maxRecDepth 100000 in
set_option maxHeartbeats 4000000 in
theorem piv_a (blk off cap : Nat) (pre rest : List Value) (n : Nat) (a b : Nat) (d : Array Int) (w : World) (hS : Sr blk off pre rest n w d w) (hab : a < b) (hb : b ≤ n) (hsz : n < 4611686018427387904) :
    Calls Try.prog 68 #[.slice (some ⟨blk, off, none⟩) n cap, .int .i64 a, .int .i64 b] w fun e w' => e = .returned (.tuple #[.int .i64 (choosePivot ltInt d a b).1, .int .i64 (hintCode (choosePivot ltInt d a b).2)]) ∧ Sr blk off pre rest n w' d w' ∧ Tch Non w w' := by
  rw [choosePivot_eq]
  obtain ⟨W, hW⟩ : ∃ W, w.alloc (.cells #[.int .i64 0] 3) = W := ⟨_, rfl⟩
  have hT0 : Tch Non w W := by rw [← hW]; exact tch_new ((Below.refl _ _).alloc (Nat.le_refl _) _)
  have hs0 : Sr blk off pre rest n W d W := (hS.more hT0).here
  have hcb : w.heap.size ≠ blk := by have := hS.lt; omega
  have hc0 : Cnt W w.heap.size 0 := by
    have hh : W.heap[w.heap.size]? = some (.cells #[.int .i64 0] 3 (0, 0)) := by rw [← hW]; exact heap_alloc_new _ _
    exact ⟨by rw [cell_of_row W _ 0 _ _ _ hh]; rfl, frozen_of_row W _ 0 _ _ hh⟩
  have hback : ∀ W', Tch (· = w.heap.size) W W' → Tch Non w W' := fun W' ht => hT0.trans' ht (fun q hq e => by omega)
  obtain ⟨c, hcq⟩ : ∃ c, c = w.heap.size := ⟨_, rfl⟩
  rw [← hcq] at hcb hc0 hback
  obtain ⟨I, hI⟩ : ∃ I : Nat, I = a + (b - a) / 4 * 1 := ⟨_, rfl⟩
  obtain ⟨J, hJ⟩ : ∃ J : Nat, J = a + (b - a) / 4 * 2 := ⟨_, rfl⟩
  obtain ⟨K, hK⟩ : ∃ K : Nat, K = a + (b - a) / 4 * 3 := ⟨_, rfl⟩
  have eI' : ((a : Int) + ((b : Int) - (a : Int)) / 4) = (I : Int) := by omega
  have eJ' : ((a : Int) + ((b : Int) - (a : Int)) / 4 * 2) = (J : Int) := by omega
  have eK' : ((a : Int) + ((b : Int) - (a : Int)) / 4 * 3) = (K : Int) := by omega
  have EI := Lib.hid eI'
  have EJ := Lib.hid eJ'
  have EK := Lib.hid eK'
  clear eI' eJ' eK'
  have HW := Lib.hid hW
  have HCQ := Lib.hid hcq
  have HBK := Lib.hid hback
  have HS0 := Lib.hid hs0
  have HC0 := Lib.hid hc0
  clear hW hcq hback hT0 hS hs0 hc0
  by_cases h8 : b - a ≥ 8
  · have h8z : (8 : Int) ≤ (b : Int) - (a : Int) := by omega
    by_cases h50 : b - a ≥ 50
    · have h50z : (50 : Int) ≤ (b : Int) - (a : Int) := by omega
      obtain ⟨i1, s1, h1⟩ : ∃ i1 s1, medianAdjacent ltInt d I 0 = (i1, s1) := ⟨_, _, rfl⟩
      obtain ⟨j1, s2, h2⟩ : ∃ j1 s2, medianAdjacent ltInt d J s1 = (j1, s2) := ⟨_, _, rfl⟩
      obtain ⟨k3, s3, h3⟩ : ∃ k3 s3, medianAdjacent ltInt d K s2 = (k3, s3) := ⟨_, _, rfl⟩
      obtain ⟨p, s, h4⟩ : ∃ p s, median ltInt d i1 j1 k3 s3 = (p, s) := ⟨_, _, rfl⟩
      have hraw : rawPivot ltInt d a b = (p, s) := by simp only [rawPivot, if_pos h8, if_pos h50, ← hI, ← hJ, ← hK, h1, h2, h3, h4]
      have m1 := adj_lt ltInt d (a := I) (v := 0) (m := n) (by omega) (by omega)
      rw [h1] at m1
      have m2 := adj_lt ltInt d (a := J) (v := s1) (m := n) (by omega) (by omega)
      rw [h2] at m2
      have m3 := adj_lt ltInt d (a := K) (v := s2) (m := n) (by omega) (by omega)
      rw [h3] at m3
      simp only at m1 m2 m3
      have H1 := Lib.hid h1
      have H2 := Lib.hid h2
      have H3 := Lib.hid h3
      have H4 := Lib.hid h4
      have bI : 1 ≤ I ∧ I + 1 < n := by omega
      have bJ : 1 ≤ J ∧ J + 1 < n := by omega
      have bK : 1 ≤ K ∧ K + 1 < n := by omega
      rw [hraw]
      clear hraw h1 h2 h3 h4 hI hJ hK
      by_cases z0 : s = 0
      · have hcode : hintCode (hintOf s) = 1 := by rw [z0]; rfl
        rw [hcode]
        have HZ := Lib.hid z0
        have tz : ((s : Int) == 0) = true := by rw [z0]; rfl
        clear hcode z0
        go_enter Try.func68, Try.ntmps68
        go_upto_region 3 with fail
        rw [HW.out, ← HCQ.out]
        go_upto_region 6 with fail
        rw [EI.out, EJ.out, EK.out]
        have C1 := adj_a blk off cap pre rest n I c 0 d W HS0.out (by omega) (by omega) HC0.out hcb (by omega) hsz
        rw [H1.out] at C1
        go_wp2_with fail
        refine C1.mono ?_
        rintro e w1 ⟨rfl, q1, k1, t1⟩
        have HQ1 := Lib.hid q1
        have HK1 := Lib.hid k1
        clear C1 q1 k1
        have C2 := adj_a blk off cap pre rest n J c s1 d w1 HQ1.out (by omega) (by omega) HK1.out hcb (by omega) hsz
        rw [H2.out] at C2
        go_wp2_with fail
        refine C2.mono ?_
        rintro e w2 ⟨rfl, q2, k2, t2⟩
        have HQ2 := Lib.hid q2
        have HK2 := Lib.hid k2
        clear C2 q2 k2
        have C3 := adj_a blk off cap pre rest n K c s2 d w2 HQ2.out (by omega) (by omega) HK2.out hcb (by omega) hsz
        rw [H3.out] at C3
        go_wp2_with fail
        refine C3.mono ?_
        rintro e w3 ⟨rfl, q3, k3, t3⟩
        have HQ3 := Lib.hid q3
        have HK3 := Lib.hid k3
        clear C3 q3 k3
        have C4 := med_a blk off cap pre rest n i1 j1 k3 c s3 d w3 HQ3.out (by omega) (by omega) (by omega) HK3.out hcb (by omega)
        rw [H4.out] at C4
        go_wp2_with fail
        refine C4.mono ?_
        rintro e w4 ⟨rfl, q4, k4, t4⟩
        have HQ4 := Lib.hid q4
        have HK4 := Lib.hid k4
        clear C4 q4 k4
        have v0 := HK4.out.1
        go_wp2
        go_ret2
        exact ⟨rfl, HQ4.out, HBK.out _ (((t1.trans t2).trans t3).trans t4)⟩
      · by_cases z1 : s = 12
        · have hcode : hintCode (hintOf s) = 2 := by rw [z1]; rfl
          rw [hcode]
          have tz : ((s : Int) == 0) = false := by rw [z1]; rfl
          have tz1 : ((s : Int) == 12) = true := by rw [z1]; rfl
          clear hcode z0 z1
          go_enter Try.func68, Try.ntmps68
          go_upto_region 3 with fail
          rw [HW.out, ← HCQ.out]
          go_upto_region 6 with fail
          rw [EI.out, EJ.out, EK.out]
          have C1 := adj_a blk off cap pre rest n I c 0 d W HS0.out (by omega) (by omega) HC0.out hcb (by omega) hsz
          rw [H1.out] at C1
          go_wp2_with fail
          refine C1.mono ?_
          rintro e w1 ⟨rfl, q1, k1, t1⟩
          have HQ1 := Lib.hid q1
          have HK1 := Lib.hid k1
          clear C1 q1 k1
          have C2 := adj_a blk off cap pre rest n J c s1 d w1 HQ1.out (by omega) (by omega) HK1.out hcb (by omega) hsz
          rw [H2.out] at C2
          go_wp2_with fail
          refine C2.mono ?_
          rintro e w2 ⟨rfl, q2, k2, t2⟩
          have HQ2 := Lib.hid q2
          have HK2 := Lib.hid k2
          clear C2 q2 k2
          have C3 := adj_a blk off cap pre rest n K c s2 d w2 HQ2.out (by omega) (by omega) HK2.out hcb (by omega) hsz
          rw [H3.out] at C3
          go_wp2_with fail
          refine C3.mono ?_
          rintro e w3 ⟨rfl, q3, k3, t3⟩
          have HQ3 := Lib.hid q3
          have HK3 := Lib.hid k3
          clear C3 q3 k3
          have C4 := med_a blk off cap pre rest n i1 j1 k3 c s3 d w3 HQ3.out (by omega) (by omega) (by omega) HK3.out hcb (by omega)
          rw [H4.out] at C4
          go_wp2_with fail
          refine C4.mono ?_
          rintro e w4 ⟨rfl, q4, k4, t4⟩
          have HQ4 := Lib.hid q4
          have HK4 := Lib.hid k4
          clear C4 q4 k4
          have v0 := HK4.out.1
          go_wp2
          go_ret2
          exact ⟨rfl, HQ4.out, HBK.out _ (((t1.trans t2).trans t3).trans t4)⟩
        · have hcode : hintCode (hintOf s) = 0 := by unfold hintOf; rw [if_neg z0, if_neg z1]; rfl
          rw [hcode]
          have tz : ((s : Int) == 0) = false := by simp; omega
          have tz1 : ((s : Int) == 12) = false := by simp; omega
          clear hcode z0 z1
          go_enter Try.func68, Try.ntmps68
          go_upto_region 3 with fail
          rw [HW.out, ← HCQ.out]
          go_upto_region 6 with fail
          rw [EI.out, EJ.out, EK.out]
          have C1 := adj_a blk off cap pre rest n I c 0 d W HS0.out (by omega) (by omega) HC0.out hcb (by omega) hsz
          rw [H1.out] at C1
          go_wp2_with fail
          refine C1.mono ?_
          rintro e w1 ⟨rfl, q1, k1, t1⟩
          have HQ1 := Lib.hid q1
          have HK1 := Lib.hid k1
          clear C1 q1 k1
          have C2 := adj_a blk off cap pre rest n J c s1 d w1 HQ1.out (by omega) (by omega) HK1.out hcb (by omega) hsz
          rw [H2.out] at C2
          go_wp2_with fail
          refine C2.mono ?_
          rintro e w2 ⟨rfl, q2, k2, t2⟩
          have HQ2 := Lib.hid q2
          have HK2 := Lib.hid k2
          clear C2 q2 k2
          have C3 := adj_a blk off cap pre rest n K c s2 d w2 HQ2.out (by omega) (by omega) HK2.out hcb (by omega) hsz
          rw [H3.out] at C3
          go_wp2_with fail
          refine C3.mono ?_
          rintro e w3 ⟨rfl, q3, k3, t3⟩
          have HQ3 := Lib.hid q3
          have HK3 := Lib.hid k3
          clear C3 q3 k3
          have C4 := med_a blk off cap pre rest n i1 j1 k3 c s3 d w3 HQ3.out (by omega) (by omega) (by omega) HK3.out hcb (by omega)
          rw [H4.out] at C4
          go_wp2_with fail
          refine C4.mono ?_
          rintro e w4 ⟨rfl, q4, k4, t4⟩
          have HQ4 := Lib.hid q4
          have HK4 := Lib.hid k4
          clear C4 q4 k4
          have v0 := HK4.out.1
          go_wp2
          go_ret2
          exact ⟨rfl, HQ4.out, HBK.out _ (((t1.trans t2).trans t3).trans t4)⟩
    · have h50z : ¬ (50 : Int) ≤ (b : Int) - (a : Int) := by omega
      obtain ⟨p, s, h4⟩ : ∃ p s, median ltInt d I J K 0 = (p, s) := ⟨_, _, rfl⟩
      have hraw : rawPivot ltInt d a b = (p, s) := by simp only [rawPivot, if_pos h8, if_neg h50, ← hI, ← hJ, ← hK, h4]
      have H4 := Lib.hid h4
      have bI : 1 ≤ I ∧ I + 1 < n := by omega
      have bJ : 1 ≤ J ∧ J + 1 < n := by omega
      have bK : 1 ≤ K ∧ K + 1 < n := by omega
      rw [hraw]
      clear hraw h4 hI hJ hK
      by_cases z0 : s = 0
      · have hcode : hintCode (hintOf s) = 1 := by rw [z0]; rfl
        rw [hcode]
        have HZ := Lib.hid z0
        have tz : ((s : Int) == 0) = true := by rw [z0]; rfl
        clear hcode z0
        go_enter Try.func68, Try.ntmps68
        go_upto_region 3 with fail
        rw [HW.out, ← HCQ.out]
        go_upto_region 6 with fail
        rw [EI.out, EJ.out, EK.out]
        have C4 := med_a blk off cap pre rest n I J K c 0 d W HS0.out (by omega) (by omega) (by omega) HC0.out hcb (by omega)
        rw [H4.out] at C4
        go_wp2_with fail
        refine C4.mono ?_
        rintro e w4 ⟨rfl, q4, k4, t4⟩
        have HQ4 := Lib.hid q4
        have HK4 := Lib.hid k4
        clear C4 q4 k4
        have v0 := HK4.out.1
        go_wp2
        go_ret2
        exact ⟨rfl, HQ4.out, HBK.out _ t4⟩
      · by_cases z1 : s = 12
        · have hcode : hintCode (hintOf s) = 2 := by rw [z1]; rfl
          rw [hcode]
          have tz : ((s : Int) == 0) = false := by rw [z1]; rfl
          have tz1 : ((s : Int) == 12) = true := by rw [z1]; rfl
          clear hcode z0 z1
          go_enter Try.func68, Try.ntmps68
          go_upto_region 3 with fail
          rw [HW.out, ← HCQ.out]
          go_upto_region 6 with fail
          rw [EI.out, EJ.out, EK.out]
          have C4 := med_a blk off cap pre rest n I J K c 0 d W HS0.out (by omega) (by omega) (by omega) HC0.out hcb (by omega)
          rw [H4.out] at C4
          go_wp2_with fail
          refine C4.mono ?_
          rintro e w4 ⟨rfl, q4, k4, t4⟩
          have HQ4 := Lib.hid q4
          have HK4 := Lib.hid k4
          clear C4 q4 k4
          have v0 := HK4.out.1
          go_wp2
          go_ret2
          exact ⟨rfl, HQ4.out, HBK.out _ t4⟩
        · have hcode : hintCode (hintOf s) = 0 := by unfold hintOf; rw [if_neg z0, if_neg z1]; rfl
          rw [hcode]
          have tz : ((s : Int) == 0) = false := by simp; omega
          have tz1 : ((s : Int) == 12) = false := by simp; omega
          clear hcode z0 z1
          go_enter Try.func68, Try.ntmps68
          go_upto_region 3 with fail
          rw [HW.out, ← HCQ.out]
          go_upto_region 6 with fail
          rw [EI.out, EJ.out, EK.out]
          have C4 := med_a blk off cap pre rest n I J K c 0 d W HS0.out (by omega) (by omega) (by omega) HC0.out hcb (by omega)
          rw [H4.out] at C4
          go_wp2_with fail
          refine C4.mono ?_
          rintro e w4 ⟨rfl, q4, k4, t4⟩
          have HQ4 := Lib.hid q4
          have HK4 := Lib.hid k4
          clear C4 q4 k4
          have v0 := HK4.out.1
          go_wp2
          go_ret2
          exact ⟨rfl, HQ4.out, HBK.out _ t4⟩
  · have h8z : ¬ (8 : Int) ≤ (b : Int) - (a : Int) := by omega
    have hraw : rawPivot ltInt d a b = (J, 0) := by simp only [rawPivot, if_neg h8, ← hJ]
    rw [hraw]
    clear hraw hI hJ hK
    have v0 := HC0.out.1
    go_enter Try.func68, Try.ntmps68
    go_upto_region 3 with fail
    rw [HW.out, ← HCQ.out]
    go_upto_region 6 with fail
    rw [EI.out, EJ.out, EK.out]
    go_wp2
    go_ret2
    exact ⟨rfl, HS0.out, HBK.out _ (Tch.refl _ _)⟩
end Go.Proofs.Ytlmkmbpikhagiaa
