/- The closure of Choose. Conditions: the captured cells are the call's own; the flow and the end fit their kinds. The closure of Choose, walked. Conditions: the captured cells are the call's own; the flow and the end fit their kinds. The program's Choose. Conditions: the row came in; the flow and the ends fit their kinds. -/
import Derived.Test.YtkacbeighaccjaaRdE
import Derived.Test.YtkacbeighaccjaaRgS
import Derived.Test.YtkacbeighaccjaaHsA
import Derived.Test.YtkacbeighaccjaaTch
import Derived.OneCell
import Derived.RegionTactic
namespace Go.Proofs.Ytkacbeighaccjaa
open Go Go.RowKit
set_option linter.unusedVariables false
set_option linter.unusedSimpArgs false

/-- What Choose's captured cells say: the flow, the end, its score, whether there is one. -/
structure ChS (w : World) (q : Nat) (f : Fl) (e : En) (top : Int) (z : Bool) : Prop where
  fl : FlAt w q f
  ch : w.heap[q + 2]? = some (.cells #[.int .u32 e.dip, .int .i64 e.port, .int .i64 e.wt] tyE (0, 0))
  be : w.heap[q + 3]? = some (.cells #[.int .u64 top] 23 (0, 0))
  fo : w.heap[q + 4]? = some (.cells #[.bool z] 4 (0, 0))
abbrev ChT (q k : Nat) : Prop := q + 2 ≤ k ∧ k ≤ q + 4
theorem ChS.below {w w' : World} {q : Nat} {f : Fl} {e : En} {top : Int} {z : Bool} (h : ChS w q f e top z) (hb : Below w.heap.size w w') : ChS w' q f e top z := by
  have l := lt_of_block h.fo
  refine ⟨flAt_below h.fl hb (by omega), ?_, ?_, ?_⟩
  · exact (hb.block _ (by omega)).trans h.ch
  · exact (hb.block _ (by omega)).trans h.be
  · exact (hb.block _ (by omega)).trans h.fo
theorem ChS.cells {w : World} {q : Nat} {f : Fl} {e : En} {top : Int} {z : Bool} (h : ChS w q f e top z) :
    (w.cell? ⟨q + 2, 0, none⟩ = some (.int .u32 e.dip) ∧ w.cell? ⟨q + 2, 1, none⟩ = some (.int .i64 e.port) ∧ w.cell? ⟨q + 2, 2, none⟩ = some (.int .i64 e.wt)) ∧ w.cell? ⟨q + 3, 0, none⟩ = some (.int .u64 top) ∧ w.cell? ⟨q + 4, 0, none⟩ = some (.bool z) ∧
    (w.frozen? ⟨q + 2, 0, none⟩ = false ∧ w.frozen? ⟨q + 2, 1, none⟩ = false ∧ w.frozen? ⟨q + 2, 2, none⟩ = false) ∧ w.frozen? ⟨q + 3, 0, none⟩ = false ∧ w.frozen? ⟨q + 4, 0, none⟩ = false := by
  refine ⟨⟨?_, ?_, ?_⟩, cell_of_one h.be, cell_of_one h.fo, ⟨?_, ?_, ?_⟩, free_of_one h.be, free_of_one h.fo⟩
  · rw [cell_of_row _ _ _ _ _ _ h.ch]; rfl
  · rw [cell_of_row _ _ _ _ _ _ h.ch]; rfl
  · rw [cell_of_row _ _ _ _ _ _ h.ch]; rfl
  · simp [World.frozen?, h.ch]
  · simp [World.frozen?, h.ch]
  · simp [World.frozen?, h.ch]
/-- The new best one. -/
theorem ChS.put {w : World} {q : Nat} {f : Fl} {e : En} {top : Int} {z : Bool} (h : ChS w q f e top z) (d p t s : Int) :
    ChS (((((w.setCell ⟨q + 2, 0, none⟩ (.int .u32 d)).setCell ⟨q + 2, 1, none⟩ (.int .i64 p)).setCell ⟨q + 2, 2, none⟩ (.int .i64 t)).setCell ⟨q + 3, 0, none⟩ (.int .u64 s)).setCell ⟨q + 4, 0, none⟩ (.bool true)) q f ⟨d, p, t⟩ s true ∧
    Tch (ChT q) w (((((w.setCell ⟨q + 2, 0, none⟩ (.int .u32 d)).setCell ⟨q + 2, 1, none⟩ (.int .i64 p)).setCell ⟨q + 2, 2, none⟩ (.int .i64 t)).setCell ⟨q + 3, 0, none⟩ (.int .u64 s)).setCell ⟨q + 4, 0, none⟩ (.bool true)) := by
  have a1 := heap_setCell_same w (q + 2) 0 _ _ (.int .u32 d) h.ch
  have a2 := heap_setCell_same _ (q + 2) 1 _ _ (.int .i64 p) a1
  have a3 := heap_setCell_same _ (q + 2) 2 _ _ (.int .i64 t) a2
  obtain ⟨w3, hw3⟩ : ∃ w3, w3 = ((w.setCell ⟨q + 2, 0, none⟩ (.int .u32 d)).setCell ⟨q + 2, 1, none⟩ (.int .i64 p)).setCell ⟨q + 2, 2, none⟩ (.int .i64 t) := ⟨_, rfl⟩
  have t3 : Tch (ChT q) w w3 := by
    rw [hw3]
    exact (((tch_set w _ _).mono (by rintro k rfl; constructor <;> simp)).trans ((tch_set _ _ _).mono (by rintro k rfl; constructor <;> simp))).trans ((tch_set _ _ _).mono (by rintro k rfl; constructor <;> simp))
  have s3 : w3.heap.size = w.heap.size := by rw [hw3]; simp
  have b3 : w3.heap[q + 3]? = some (.cells #[.int .u64 top] 23 (0, 0)) := by
    rw [hw3, heap_setCell_other _ _ _ _ (by simp), heap_setCell_other _ _ _ _ (by simp), heap_setCell_other _ _ _ _ (by simp)]
    exact h.be
  have f3 : w3.heap[q + 4]? = some (.cells #[.bool z] 4 (0, 0)) := by
    rw [hw3, heap_setCell_other _ _ _ _ (by simp), heap_setCell_other _ _ _ _ (by simp), heap_setCell_other _ _ _ _ (by simp)]
    exact h.fo
  rw [← hw3] at a3 ⊢
  clear hw3 a1 a2
  have b4 := one_setCell b3 (u := .int .u64 s)
  have c4 : (w3.setCell ⟨q + 3, 0, none⟩ (.int .u64 s)).heap[q + 2]? = some (.cells #[.int .u32 d, .int .i64 p, .int .i64 t] tyE (0, 0)) := by rw [heap_setCell_other _ _ _ _ (by simp)]; exact a3
  have f4 : (w3.setCell ⟨q + 3, 0, none⟩ (.int .u64 s)).heap[q + 4]? = some (.cells #[.bool z] 4 (0, 0)) := by rw [heap_setCell_other _ _ _ _ (by simp)]; exact f3
  have t4 : Tch (ChT q) w (w3.setCell ⟨q + 3, 0, none⟩ (.int .u64 s)) := t3.trans ((tch_set _ _ _).mono (by rintro k rfl; constructor <;> simp))
  have t5 := t4.trans ((tch_set (w3.setCell ⟨q + 3, 0, none⟩ (.int .u64 s)) ⟨q + 4, 0, none⟩ (.bool true)).mono (by rintro k rfl; constructor <;> simp : ∀ k, k = q + 4 → ChT q k))
  refine ⟨⟨?_, ?_, ?_, one_setCell f4⟩, t5⟩
  · obtain ⟨g0, g1, g2, g3, g4⟩ := flAt_cells h.fl
    have hn : ¬ ChT q q := by simp only [ChT]; omega
    exact ⟨t5.cell g0 hn, t5.cell g1 hn, t5.cell g2 hn, t5.cell g3 hn, t5.cell g4 hn⟩
  · rw [heap_setCell_other _ _ _ _ (by simp)]; exact c4
  · rw [heap_setCell_other _ _ _ _ (by simp)]; exact b4
end Go.Proofs.Ytkacbeighaccjaa
namespace Go.Proofs.Ytkacbeighaccjaa
open Go Go.RowKit
set_option linter.unusedVariables false
set_option linter.unusedSimpArgs false

/-- What holds in the closure's rounds. -/
def LkS (W : World) (B q : Nat) (f : Fl) (es : List En) (i j : Nat) (L : List Wy) (wr : World) : Prop :=
  ∃ k top : Int, k ≤ i ∧ BestW (L ++ scO f (es.getD i en0) i j) k (-top) ∧ ChS wr q f (eOf es k) top (decide (0 ≤ k)) ∧ Tch (ChT q) W wr
theorem eOf_at (es : List En) (i : Nat) : eOf es (i : Int) = es.getD i en0 := by
  unfold eOf
  rw [if_neg (by omega), Int.toNat_natCast]
theorem LkS.keep {W wr w7 : World} {B q : Nat} {f : Fl} {es : List En} {i j : Nat} {L : List Wy} {k top s : Int} (hk : k ≤ i) (h0 : 0 ≤ k) (hB : BestW (L ++ scO f (es.getD i en0) i j) k (-top)) (hC : ChS w7 q f (eOf es k) top (decide (0 ≤ k))) (hT : Tch (ChT q) W w7)
    (hs : scE f (es.getD i en0) j = s) (hl : ¬ top < s) : LkS W B q f es i (j + 1) L w7 :=
  ⟨k, top, hk, by rw [scO_step, ← List.append_assoc, hs]; exact hB.more (by omega) (by omega), hC, hT⟩
theorem LkS.turn {W wr w7 : World} {B q : Nat} {f : Fl} {es : List En} {i j : Nat} {L : List Wy} {k top s : Int} (hB : BestW (L ++ scO f (es.getD i en0) i j) k (-top)) {e0 : En} {z : Bool} (hC : ChS w7 q f e0 top z) (hT : Tch (ChT q) W w7)
    (hs : scE f (es.getD i en0) j = s) (hl : k < 0 ∨ ¬ k < 0 ∧ top < s) {d p t : Int} (he : es.getD i en0 = ⟨d, p, t⟩) :
    LkS W B q f es i (j + 1) L (((((w7.setCell ⟨q + 2, 0, none⟩ (.int .u32 d)).setCell ⟨q + 2, 1, none⟩ (.int .i64 p)).setCell ⟨q + 2, 2, none⟩ (.int .i64 t)).setCell ⟨q + 3, 0, none⟩ (.int .u64 s)).setCell ⟨q + 4, 0, none⟩ (.bool true)) := by
  have hp := hC.put d p t s
  have hd : decide ((0 : Int) ≤ (i : Int)) = true := decide_eq_true (by omega)
  refine ⟨i, s, Int.le_refl _, ?_, by rw [eOf_at, he, hd]; exact hp.1, hT.trans hp.2⟩
  rw [scO_step, ← List.append_assoc, hs]
  rcases hl with hl | ⟨h1, h2⟩
  · exact hB.first hl (by omega)
  · exact hB.less h1 (by omega) (.inl (by omega))
set_option maxRecDepth 100000 in
set_option maxHeartbeats 4000000 in
theorem look_c (f : Fl) (es : List En) (i q : Nat) (L : List Wy) (k top : Int) (w : World) (hs : ChS w q f (eOf es k) top (decide (0 ≤ k))) (hk : k < i) (hb : BestW L k (-top)) (ht : TyEn (es.getD i en0)) (hf : TyF f) :
    Calls Try.prog 42 #[(es.getD i en0).val, .pointer (some ⟨q, 0, none⟩), .pointer (some ⟨q + 4, 0, none⟩), .pointer (some ⟨q + 3, 0, none⟩), .pointer (some ⟨q + 2, 0, none⟩)] w fun r w' => r = .returned (.tuple #[]) ∧
      LkS w i q f es i (nW (es.getD i en0)) L w' := by
  have HQ : Hid (q + 4 < w.heap.size) := Lib.hid (lt_of_block hs.fo)
  have CH := Lib.hid (fun (s : Int) (W : World) => hash_any s f W hf.1 hf.2)
  unfold Fl.val at CH
  have hnw := nW_iff (es.getD i en0)
  obtain ⟨N, hN⟩ : ∃ N, N = nW (es.getD i en0) := ⟨_, rfl⟩
  obtain ⟨e, he⟩ : ∃ e, e = es.getD i en0 := ⟨_, rfl⟩
  obtain ⟨W, hW⟩ : ∃ W, W = w.alloc e.obj := ⟨_, rfl⟩
  have hA := enAt_new w e
  rw [← hW] at hA
  have hBW : Below w.heap.size w W := by rw [hW]; exact bl_al (Below.refl _ _) _
  have HLW : Hid (w.heap.size < W.heap.size) := Lib.hid (by rw [hW]; simp)
  have HTW := Lib.hid (tch_new hBW)
  obtain ⟨B, hB⟩ : ∃ B, B = w.heap.size := ⟨_, rfl⟩
  rw [← hB] at hA HLW HQ
  have L0 : Hid (LkS W B q f es i 0 L W) := Lib.hid ⟨k, top, by omega, by
    have : scO f (es.getD i en0) i 0 = [] := rfl
    rw [this, List.append_nil]
    exact hb, hs.below hBW, Tch.refl _ _⟩
  have HW := Lib.hid (And.intro hW hB)
  have HN := Lib.hid hN
  rw [← hN, ← he] at hnw
  rw [← he] at ht
  rw [← hN, ← he]
  obtain ⟨d, p, t⟩ := e
  have HE := Lib.hid he
  have HA := Lib.hid hA
  have d0 := ht.1.1
  have d1 := ht.1.2
  obtain ⟨m, hm⟩ : ∃ m : Int, m = min t 16 := ⟨_, rfl⟩
  have hmn : ∀ (ts : Array TypeId) (ty : TypeId) (V : World), (Builtin.min_ ts ty #[.int .i64 t, .int .i64 16]).run Try.prog V = .ok (.int .i64 m) V := by
    intro ts ty V
    rw [run_min_int2]
    congr 2
    split <;> omega
  have HM := Lib.hid hm
  have hmN : ∀ j : Nat, j < N ↔ (j : Int) < m := fun j => (hnw j).trans (show ((j : Int) < t ∧ (j : Int) < 16) ↔ _ by omega)
  have HMN := Lib.hid hmN
  have c2 := HA.out.2.2
  clear hW hB hs hb ht hA hBW hN he hm hmN hnw hf hk
  go_enter Try.func42, Try.ntmps42
  go_upto_region 1 with fail
  rw [show w.alloc (.cells #[.int .u32 d, .int .i64 p, .int .i64 t] tyE) = W from HW.out.1.symm, ← HW.out.2]
  go_wp2
  go_loopw [11] (fun jv wr => ∃ j : Nat, j ≤ N ∧ jv = .int .i64 j ∧ Hid (LkS W B q f es i j L wr)) (fun jv _ => N - (intOf jv).toNat)
  case atStart => exact ⟨0, by omega, rfl, L0⟩
  case round =>
    obtain ⟨j, hj, rfl, HL⟩ := hrel
    obtain ⟨w2, rfl⟩ : ∃ v, v = wr := ⟨_, rfl⟩
    clear L0 c2 hmn
    obtain ⟨k, top, hk, hB, hC, hT⟩ := HL.out
    clear HL
    have HB := Lib.hid hB
    have HC := Lib.hid hC
    have HT := Lib.hid hT
    by_cases hlj : j < N
    · have j1 : (j : Int) < m := (HMN.out j).1 hlj
      have j2 : (j : Int) < 16 := by have := HM.out; omega
      have j0 : (0 : Int) ≤ (j : Int) := by omega
      have hn : ¬ ChT q B := by simp only [ChT]; have := HQ.out; omega
      have c0 := hT.cell HA.out.1 hn
      obtain ⟨f0, f1, f2, f3, f4⟩ := flAt_cells hC.fl
      have HSC : Hid (scE f (es.getD i en0) j = hashF (d * 256 + (j : Int)) f) := Lib.hid (by unfold scE; rw [← HE.out])
      clear hB hC hT hn
      go_wp2_with fail
      refine (CH.out _ _).mono ?_
      rintro r w7 ⟨rfl, hb7⟩
      obtain ⟨s, hs⟩ : ∃ s, s = hashF (d * 256 + (j : Int)) f := ⟨_, rfl⟩
      rw [← hs] at HSC ⊢
      have HC7 := Lib.hid (HC.out.below hb7)
      have HT7 := Lib.hid (HT.out.trans ((tch_new hb7).mono (fun k h => h.elim)))
      have hn : ¬ ChT q B := by simp only [ChT]; have := HQ.out; omega
      have c0' := HT7.out.cell HA.out.1 hn
      have c1' := HT7.out.cell HA.out.2.1 hn
      have c2' := HT7.out.cell HA.out.2.2 hn
      obtain ⟨⟨g0, g1, g2⟩, g3, g4, ⟨z0, z1, z2⟩, z3, z4⟩ := HC7.out.cells
      clear f0 f1 f2 f3 f4 c0 hb7 hn hs HC HT
      by_cases q1 : k < 0
      · have hd : decide (0 ≤ k) = false := decide_eq_false (by omega)
        rw [hd] at g4
        have HL2 : Hid (LkS W B q f es i (j + 1) L _) := Lib.hid (LkS.turn (wr := w2) HB.out HC7.out HT7.out HSC.out (.inl q1) HE.out.symm)
        clear HB HC7 HT7 HSC hd
        go_wp2
        go_roundw
        case rel => exact ⟨j + 1, by omega, by go_num, HL2⟩
        case measure => simp [intOf]; omega
      · have hd : decide (0 ≤ k) = true := decide_eq_true (by omega)
        rw [hd] at g4
        by_cases q2 : top < s
        · have HL2 : Hid (LkS W B q f es i (j + 1) L _) := Lib.hid (LkS.turn (wr := w2) HB.out HC7.out HT7.out HSC.out (.inr ⟨q1, q2⟩) HE.out.symm)
          clear HB HC7 HT7 HSC hd
          go_wp2
          go_roundw
          case rel => exact ⟨j + 1, by omega, by go_num, HL2⟩
          case measure => simp [intOf]; omega
        · have HL2 : Hid (LkS W B q f es i (j + 1) L _) := Lib.hid (LkS.keep (wr := w2) hk (by omega) HB.out HC7.out HT7.out HSC.out q2)
          clear HB HC7 HT7 HSC hd
          go_wp2
          go_roundw
          case rel => exact ⟨j + 1, by omega, by go_num, HL2⟩
          case measure => simp [intOf]; omega
    · have j1 : ¬ (j : Int) < m := fun h => hlj ((HMN.out j).2 h)
      obtain rfl : j = N := by omega
      clear hB hC hT
      go_wp2
      go_end0
      exact ⟨rfl, k, top, hk, HB.out, HC.out, HTW.out.join HT.out (fun _ h => h.elim) (fun _ h => h)⟩
end Go.Proofs.Ytkacbeighaccjaa
namespace Go.Proofs.Ytkacbeighaccjaa
open Go Go.RowKit
set_option linter.unusedVariables false
set_option linter.unusedSimpArgs false

/-- What holds in Choose's rounds. -/
def ChL (W : World) (q : Nat) (f : Fl) (es : List En) (i : Nat) (wr : World) : Prop :=
  ∃ k top : Int, k < i ∧ BestW (scP f es i) k (-top) ∧ ChS wr q f (eOf es k) top (decide (0 ≤ k)) ∧ Tch (ChT q) W wr
theorem ChL.next {W wr w2 : World} {q : Nat} {f : Fl} {es : List En} {i : Nat} (hT : Tch (ChT q) W wr) (h : LkS wr i q f es i (nW (es.getD i en0)) (scP f es i) w2) : ChL W q f es (i + 1) w2 := by
  obtain ⟨k, top, hk, hB, hC, hT2⟩ := h
  exact ⟨k, top, by omega, by rw [scP_step]; exact hB, hC, hT.trans hT2⟩
def zE : Array Value := #[.int .u32 0, .int .i64 0, .int .i64 0]
/-- Choose's own blocks. -/
def chW (w : World) (f : Fl) : World := ((((w.alloc f.obj).alloc (.cells #[.int .u32 0, .int .i64 0, .int .i64 0] tyE)).alloc (.cells #[.int .u32 0, .int .i64 0, .int .i64 0] tyE)).alloc (.cells #[.int .u64 0] 23)).alloc (.cells #[.bool false] 4)
theorem chW_is (w : World) (f : Fl) : ChS (chW w f) w.heap.size f en0 0 false ∧ (chW w f).heap[w.heap.size + 1]? = some (.cells #[.int .u32 0, .int .i64 0, .int .i64 0] tyE (0, 0)) ∧ Below w.heap.size w (chW w f) := by
  unfold chW
  obtain ⟨w1, h1⟩ : ∃ w1, w1 = w.alloc f.obj := ⟨_, rfl⟩
  have s1 : w1.heap.size = w.heap.size + 1 := by rw [h1]; simp
  have b1 : Below w.heap.size w w1 := by rw [h1]; exact bl_al (Below.refl _ _) _
  have f1 : FlAt w1 w.heap.size f := by rw [h1]; exact flAt_new w f
  rw [← h1]
  clear h1
  obtain ⟨w2, h2⟩ : ∃ w2, w2 = w1.alloc (.cells #[.int .u32 0, .int .i64 0, .int .i64 0] tyE) := ⟨_, rfl⟩
  have s2 : w2.heap.size = w.heap.size + 2 := by rw [h2]; simp; omega
  have b2 : Below w1.heap.size w1 w2 := by rw [h2]; exact bl_al (Below.refl _ _) _
  have z2 : w2.heap[w.heap.size + 1]? = some (.cells #[.int .u32 0, .int .i64 0, .int .i64 0] tyE (0, 0)) := by rw [h2, ← s1]; exact heap_alloc_new _ _
  rw [← h2]
  clear h2
  obtain ⟨w3, h3⟩ : ∃ w3, w3 = w2.alloc (.cells #[.int .u32 0, .int .i64 0, .int .i64 0] tyE) := ⟨_, rfl⟩
  have s3 : w3.heap.size = w.heap.size + 3 := by rw [h3]; simp; omega
  have b3 : Below w2.heap.size w2 w3 := by rw [h3]; exact bl_al (Below.refl _ _) _
  have z3 : w3.heap[w.heap.size + 2]? = some (.cells #[.int .u32 0, .int .i64 0, .int .i64 0] tyE (0, 0)) := by rw [h3, ← s2]; exact heap_alloc_new _ _
  rw [← h3]
  clear h3
  obtain ⟨w4, h4⟩ : ∃ w4, w4 = w3.alloc (.cells #[.int .u64 0] 23) := ⟨_, rfl⟩
  have s4 : w4.heap.size = w.heap.size + 4 := by rw [h4]; simp; omega
  have b4 : Below w3.heap.size w3 w4 := by rw [h4]; exact bl_al (Below.refl _ _) _
  have z4 : w4.heap[w.heap.size + 3]? = some (.cells #[.int .u64 0] 23 (0, 0)) := by rw [h4, ← s3]; exact heap_alloc_new _ _
  rw [← h4]
  clear h4
  obtain ⟨w5, h5⟩ : ∃ w5, w5 = w4.alloc (.cells #[.bool false] 4) := ⟨_, rfl⟩
  have s5 : w5.heap.size = w.heap.size + 5 := by rw [h5]; simp; omega
  have b5 : Below w4.heap.size w4 w5 := by rw [h5]; exact bl_al (Below.refl _ _) _
  have z5 : w5.heap[w.heap.size + 4]? = some (.cells #[.bool false] 4 (0, 0)) := by rw [h5, ← s4]; exact heap_alloc_new _ _
  rw [← h5]
  clear h5
  have b35 := bl_tr b4 b5
  have b25 := bl_tr b3 b35
  refine ⟨⟨flAt_below f1 (bl_tr b2 b25) (by omega), ?_, ?_, z5⟩, ?_, bl_tr b1 (bl_tr b2 b25)⟩
  · exact (b35.block _ (by omega)).trans z3
  · exact (b5.block _ (by omega)).trans z4
  · exact (b25.block _ (by omega)).trans z2
set_option maxRecDepth 100000 in
set_option maxHeartbeats 4000000 in
theorem rchoose_c (f : Fl) (es : List En) (a : Option Addr) (n c : Nat) (w : World) (hI : InE w a n c es) (hn : n ≤ 4611686018427387904) (hf : TyF f) :
    Calls Try.prog 25 #[f.val, .slice a n c] w (RCh w f es) := by
  obtain ⟨hS, hz, hBW⟩ := chW_is w f
  obtain ⟨W, hW⟩ : ∃ W, W = chW w f := ⟨_, rfl⟩
  rw [← hW] at hS hz hBW
  have HI := Lib.hid hI
  have HBW := Lib.hid hBW
  have HF := Lib.hid hf
  obtain ⟨q, hq⟩ : ∃ q, q = w.heap.size := ⟨_, rfl⟩
  rw [← hq] at hS hz
  have HZ := Lib.hid hz
  have L0 : Hid (ChL W q f es 0 W) := Lib.hid ⟨-1, 0, by omega, .inl ⟨rfl, rfl⟩, hS, Tch.refl _ _⟩
  have HW : Hid (((((w.alloc (.cells #[.int .i64 f.p, .int .u32 f.s, .int .i64 f.sp, .int .u32 f.d, .int .i64 f.dp] 47)).alloc (.cells #[.int .u32 0, .int .i64 0, .int .i64 0] tyE)).alloc (.cells #[.int .u32 0, .int .i64 0, .int .i64 0] tyE)).alloc (.cells #[.int .u64 0] 23)).alloc (.cells #[.bool false] 4) = W) := Lib.hid hW.symm
  have HQ := Lib.hid hq
  clear hI hBW hf hW hq hS hz
  go_enter Try.func25, Try.ntmps25
  go_upto_region 5 with fail
  rw [HW.out, ← HQ.out]
  go_wp2
  go_loopw [15] (fun iv wr => ∃ i : Nat, i ≤ n ∧ iv = .int .i64 i ∧ Hid (ChL W q f es i wr)) (fun iv _ => n - (intOf iv).toNat)
  case atStart => exact ⟨0, by omega, rfl, L0⟩
  case round =>
    obtain ⟨i, hi, rfl, HL⟩ := hrel
    obtain ⟨w2, rfl⟩ : ∃ v, v = wr := ⟨_, rfl⟩
    clear L0
    obtain ⟨k, top, hk, hB, hC, hT⟩ := HL.out
    clear HL
    have HT := Lib.hid hT
    have hq2 : q = w.heap.size := HQ.out
    have hb2 : Below w.heap.size w w2 := HBW.out.trans (by rw [← hq2]; exact hT.below (fun k h => by simp only [ChT] at h; omega) (by have := HBW.out.size; omega))
    have HB2 := Lib.hid hb2
    have hlen := HI.out.len
    clear hb2 hq2
    by_cases hlt : i < n
    · have hI2 := HI.out.below HB2.out
      obtain ⟨b1, o1, rfl⟩ := HI.out.block (by omega)
      have il : (i : Int) < (n : Int) := by omega
      have i0 : (0 : Int) ≤ (i : Int) := by omega
      obtain ⟨c0, c1, c2⟩ := hI2.cell hlt
      have ht := HI.out.typ _ (memE (es := es) (i := i) (by omega))
      obtain ⟨w3, hw3⟩ : ∃ w3, w3 = w2.alloc (es.getD i en0).obj := ⟨_, rfl⟩
      have hA := enAt_new w2 (es.getD i en0)
      have hb3 : Below w2.heap.size w2 w3 := by rw [hw3]; exact bl_al (Below.refl _ _) _
      rw [← hw3] at hA
      have hT3 : Tch (ChT q) W w3 := hT.trans ((tch_new hb3).mono (fun _ h => h.elim))
      have CL := Lib.hid ((look_c f es i q (scP f es i) k top w3 (hC.below hb3) hk hB ht HF.out).mono (R' := fun r w' => r = .returned (.tuple #[]) ∧ ChL W q f es (i + 1) w') (fun r w' h => ⟨h.1, ChL.next hT3 h.2⟩))
      obtain ⟨e, he⟩ : ∃ e, e = es.getD i en0 := ⟨_, rfl⟩
      rw [← he] at c0 c1 c2 hA CL hw3
      obtain ⟨d, p, t⟩ := e
      obtain ⟨a0, a1, a2⟩ := hA
      obtain ⟨B, hB2⟩ : ∃ B, B = w2.heap.size := ⟨_, rfl⟩
      rw [← hB2] at a0 a1 a2
      have HW3 := Lib.hid (And.intro hw3 hB2)
      clear hw3 hB2 he ht hT3 hb3 hT hC hB hk hI2
      go_upto_region 8 with fail
      rw [show w2.alloc (.cells #[.int .u32 d, .int .i64 p, .int .i64 t] tyE) = w3 from HW3.out.1.symm, ← HW3.out.2]
      clear c0 c1 c2
      go_wp2_with fail
      refine CL.out.mono ?_
      rintro r w4 ⟨rfl, hL4⟩
      have HL4 := Lib.hid hL4
      clear hL4 a0 a1 a2
      go_wp2
      go_roundw
      case rel => exact ⟨i + 1, by omega, by go_num, HL4⟩
      case measure => simp [intOf]; omega
    · have il : ¬ (i : Int) < (n : Int) := by omega
      obtain rfl : i = n := by omega
      have HCh : Hid (Chosen f es k) := Lib.hid ⟨-top, by rw [hlen]; exact hB⟩
      have hz2 : w2.heap[q + 1]? = some (.cells #[.int .u32 0, .int .i64 0, .int .i64 0] tyE (0, 0)) := hT.at HZ.out (by simp only [ChT]; omega)
      obtain ⟨⟨g0, g1, g2⟩, g3, g4, _⟩ := hC.cells
      have z0 : w2.cell? ⟨q + 1, 0, none⟩ = some (.int .u32 0) := by rw [cell_of_row _ _ _ _ _ _ hz2]; rfl
      have z1 : w2.cell? ⟨q + 1, 1, none⟩ = some (.int .i64 0) := by rw [cell_of_row _ _ _ _ _ _ hz2]; rfl
      have z2 : w2.cell? ⟨q + 1, 2, none⟩ = some (.int .i64 0) := by rw [cell_of_row _ _ _ _ _ _ hz2]; rfl
      have y0 : w2.frozen? ⟨q + 1, 0, none⟩ = false := by simp [World.frozen?, hz2]
      have y1 : w2.frozen? ⟨q + 1, 1, none⟩ = false := by simp [World.frozen?, hz2]
      have y2 : w2.frozen? ⟨q + 1, 2, none⟩ = false := by simp [World.frozen?, hz2]
      obtain ⟨e, he⟩ : ∃ e, e = eOf es k := ⟨_, rfl⟩
      rw [← he] at g0 g1 g2
      obtain ⟨zb, hzb⟩ : ∃ zb, zb = decide (0 ≤ k) := ⟨_, rfl⟩
      rw [← hzb] at g4
      have HE := Lib.hid (And.intro he hzb)
      obtain ⟨d, p, t⟩ := e
      have hlq : Hid (w.heap.size ≤ q + 1) := Lib.hid (by have := HQ.out; omega)
      clear he hzb hC hT hB hz2
      go_wp2
      go_region
      go_wp2
      refine bodyPost_ret (v := .tuple #[.agg #[.int .u32 d, .int .i64 p, .int .i64 t], .bool zb]) (by simp [results, Try.results25, go_sem, z0, z1, z2]) rfl ⟨k, HCh.out, ?_, ?_⟩
      · rw [← HE.out.1, ← HE.out.2]
      · refine Below.drew ?_
        iterate 3 (refine Below.setCell ?_ (by exact hlq.out) _)
        exact HB2.out
end Go.Proofs.Ytkacbeighaccjaa
