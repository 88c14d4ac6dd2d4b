/- The program's lentAt. Conditions: the list came in and is in form. -/
import Derived.Test.YtanajblldlgalaaDoorLwT
namespace Go.Proofs.YtanajblldlgalaaDoor
open Go Go.RowKit
set_option linter.unusedVariables false
set_option linter.unusedSimpArgs false

def zA : Array Value := (u64N W0).toArray
theorem infoZ : (Tryd.prog.info? 62).map (fun i => (i.zero, i.size)) = some (some (.agg zA), 126) := by kernel_rfl
def WAt (w : World) (g : Nat) (W : List Nat) : Prop := w.heap[g]? = some (.cells (u64N W).toArray 62 (0, 0))
theorem WAt.below {w w' : World} {B g : Nat} {W : List Nat} (h : WAt w g W) (hb : Below B w w') (hB : g < B) : WAt w' g W := (hb.block g hB).trans h
theorem WAt.later {w w' : World} {g : Nat} {W : List Nat} (h : WAt w g W) (hb : Below w.heap.size w w') : WAt w' g W := h.below hb (lt_of_block h)
theorem WAt.cell {w : World} {g : Nat} {W : List Nat} (h : WAt w g W) {j : Nat} (hj : j < W.length) : w.cell? ⟨g, j, none⟩ = some (.int .u64 (W.getD j 0 : Nat)) := by
  rw [cell_of_row w g j _ _ _ h, List.getElem?_toArray]
  exact u64N_at hj
theorem WAt.set {w : World} {g : Nat} {W : List Nat} (h : WAt w g W) (j n : Nat) : WAt (w.setCell ⟨g, j, none⟩ (.int .u64 (n : Int))) g (W.set j n) := by
  have h1 := heap_setCell_same w g j _ _ (.int .u64 (n : Int)) h
  unfold WAt
  rw [h1, List.setIfInBounds_toArray, u64N_set]
theorem own_cell1 {B g size n : Nat} {e : TypeId} {v : Value} {xs : List Value} {W : World} (ho : W.ownsRow B e size v n xs) (hg : g < B) (j : Nat) (u : Value) : (W.setCell ⟨g, j, none⟩ u).ownsRow B e size v n xs := by
  refine ⟨ho.1, ?_⟩
  rcases ho.2 with h0 | ⟨k, cap, cur, hv, h1, h2, h3⟩
  · exact .inl h0
  · exact .inr ⟨k, cap, cur, hv, h1, (heap_setCell_other W ⟨g, j, none⟩ k u (by show k ≠ g; omega)).trans h2, h3⟩
theorem boxesA (w : World) (u0 u1 : Value) (t0 t1 : TypeId) : ∃ W q, W = (((w.alloc (.cells #[u0] t0)).alloc (.cells #[u1] t1)).alloc (.cells zA 62)).alloc (.cells zA 62) ∧ q = w.heap.size ∧ W.cell? ⟨q, 0, none⟩ = some u0 ∧ W.cell? ⟨q + 1, 0, none⟩ = some u1 ∧ WAt W (q + 2) W0 ∧ WAt W (q + 3) W0 ∧ Below w.heap.size w W ∧ q + 3 < W.heap.size := by
  obtain ⟨W1, q, h1, h2, h3, h4⟩ := box1 w u0 t0
  obtain ⟨W2, r, k1, k2, k3, k4⟩ := box1 W1 u1 t1
  have e1 : r = q + 1 := by rw [k2, h1, h2]; simp
  have e2 : W2.heap.size = q + 2 := by rw [k1, h1, h2]; simp
  have hb := bl_al (bl_al (Below.refl W2.heap.size W2) (.cells zA 62)) (.cells zA 62)
  refine ⟨_, q, by rw [k1, h1], h2, ?_, ?_, ?_, ?_, bl_tr (bl_tr h4 k4) hb, ?_⟩
  · exact cell_keep (cell_keep h3 k4) hb
  · rw [← e1]; exact cell_keep k3 hb
  · rw [← e2]; exact heap_alloc2_old W2 _ _
  · rw [show q + 3 = W2.heap.size + 1 by omega]; exact heap_alloc2_new W2 _ _
  · simp; omega
theorem fst_blk {n : Int} (h : OkFst n) : ∃ k : Nat, k < 8064 ∧ n = 1024 + 8 * (k : Int) := by
  unfold OkFst at h
  exact ⟨((n - 1024) / 8).toNat, by omega, by omega⟩
theorem or_word (n r : Nat) (h : n < 18446744073709551616) (hr : r < 64) : bits BinOp.or IntKind.u64 (n : Int) (IntKind.u64.wrap (2 ^ r)) = ((n ||| 2 ^ r : Nat) : Int) := by
  have h2 : 2 ^ r < 18446744073709551616 := Nat.pow_lt_pow_right (n := 64) (by decide) hr
  have e : ((2 : Int) ^ r) = ((2 ^ r : Nat) : Int) := by push_cast; rfl
  rw [e]
  generalize 2 ^ r = m at h2 ⊢
  rw [show IntKind.u64.wrap (m : Int) = (m : Int) by rw [IntKind.wrap_u64]; omega]
  exact bits_or_u64_nat n m h h2
theorem bl_row {B g : Nat} {w w' : World} (h : Below B w w') (hg : B ≤ g) (cs : Array Value) : Below B w (w'.setRow g cs) :=
  ⟨h.os, h.tape, h.output, by rw [size_setRow]; exact h.size, fun k hk => (setRow_other w' g k cs (by omega)).trans (h.block k hk)⟩
set_option maxRecDepth 100000 in
set_option maxHeartbeats 4000000 in
theorem lentAt_c (l : List Ls) (vip now : Int) (a : Option Addr) (n c : Nat) (w : World) (hI : InL w a n c l) (hn : n ≤ 1048576) (ho : OkL l) :
    Calls Tryd.prog 30 #[.slice a n c, .int .u32 vip, .int .i64 now] w fun e w' => (∃ W, e = .returned (.agg (u64N W).toArray) ∧ FitW W ∧ ∀ k, k < 8064 → lentW W k = lentB vip now l k) ∧ Below w.heap.size w w' := by
  obtain ⟨hzv, hzs⟩ := zero_of_info infoZ
  obtain ⟨W, q, hW, hq, h1, h2, h3, h4, hb, hq3⟩ := boxesA w (.int .u32 vip) (.int .i64 now) 24 3
  have C := Lib.hid (pick_c (isV vip now) 53 #[.pointer (some ⟨q, 0, none⟩), .pointer (some ⟨q + 1, 0, none⟩)] enLa l a n c W (hI.below hb) hn (fun W2 h3 x hx => lentC_c x vip now q (q + 1) W2 (cell_keep h1 h3) (cell_keep h2 h3)))
  have HLM : Hid ((l.filter (isV vip now)).length ≤ 1048576) := Lib.hid (Nat.le_trans (List.length_filter_le _ _) (by have := hI.len; omega))
  have HMT : Hid (∀ x ∈ l.filter (isV vip now), TyL x ∧ OkFst x.first) := Lib.hid (fun x hx => ⟨hI.typ x (List.mem_filter.1 hx).1, (ho.1 x (List.mem_filter.1 hx).1).2.2.1⟩)
  have HEnd : Hid (∀ k, lentM (l.filter (isV vip now)) k = lentB vip now l k) := Lib.hid (fun k => by
    unfold lentM lentB isV
    rw [List.any_filter]
    congr 1
    funext x
    rw [Bool.and_assoc])
  obtain ⟨M, hM⟩ : ∃ M, M = l.filter (isV vip now) := ⟨_, rfl⟩
  rw [← hM] at C HLM HMT HEnd
  have HB := Lib.hid hb
  have H3 := Lib.hid h3
  have H4 := Lib.hid h4
  have HW := Lib.hid hW
  have HQ := Lib.hid hq
  have HQ3 := Lib.hid hq3
  obtain ⟨Z, hZ⟩ : ∃ Z, Z = zA := ⟨_, rfl⟩
  rw [← hZ] at hzv HW
  have HZ := Lib.hid hZ
  clear hW hq h1 h2 h3 h4 hb hI ho hM hq3 hZ hzs
  go_enter Tryd.func30, Tryd.ntmps30
  go_upto_region 2 with fail
  rw [← HW.out, ← HQ.out]
  clear hzv
  go_wp2_with fail
  refine C.out.mono ?_
  rintro e w1 ⟨⟨v, rfl, hK⟩, hb1⟩
  obtain ⟨ao, cc, rfl, _⟩ := hK.inL (fun x hx => (HMT.out x hx).1)
  have HK1 := Lib.hid hK
  have HB1 := Lib.hid (bl_tr HB.out hb1)
  have H31 := Lib.hid (H3.out.later hb1)
  have H41 := Lib.hid (H4.out.later hb1)
  have F0 := Lib.hid fit_W0
  have P0 : Hid (∀ k, lentW W0 k = lentM (M.take 0) k) := Lib.hid (fun k => by rw [lentW_W0]; rfl)
  obtain ⟨N, hN⟩ : ∃ N, N = M.length := ⟨_, rfl⟩
  have HN := Lib.hid hN
  have hN2 := HLM.out
  rw [← hN] at hN2 ⊢
  clear hK hb1 C hN
  go_wp2
  go_loopw [15] (fun iv wr => ∃ (i : Nat) (Wi : List Nat), i ≤ N ∧ iv = .int .i64 i ∧ Hid (FitW Wi) ∧ Hid (∀ k, lentW Wi k = lentM (M.take i) k) ∧ Hid (WAt wr (q + 3) Wi) ∧ Hid (WAt wr (q + 2) W0) ∧ Hid (PkL W.heap.size wr (.slice ao N cc) M) ∧ Hid (Below w.heap.size w wr)) (fun iv _ => N - (intOf iv).toNat)
  case atStart => exact ⟨0, W0, by omega, rfl, F0, P0, H41, H31, by rw [HN.out]; exact HK1, HB1⟩
  case round =>
    obtain ⟨i, Wi, hi, rfl, HF, HP, HA4, HA3, HK, HBr⟩ := hrel
    obtain ⟨w2, rfl⟩ : ∃ v, v = wr := ⟨_, rfl⟩
    clear F0 P0 H31 H41 HK1 HB1
    by_cases hlt : i < N
    · have ii : (i : Int) < (N : Int) := by omega
      have i0 : (0 : Int) ≤ (i : Int) := by omega
      have hlM : i < M.length := by have := HN.out; omega
      have hIM : InL w2 ao N cc M := by
        have := own_inL (l := M) (n := M.length) (c := cc) (ao := ao) (w := w2) (B := W.heap.size) (by have := HK.out; unfold PkL at this; rw [HN.out] at this; exact this) (fun x hx => (HMT.out x hx).1)
        rwa [← HN.out] at this
      obtain ⟨b, off, rfl⟩ := hIM.block (by omega)
      have hx := hIM.cell hlt
      have hm := HMT.out _ (memL hlM)
      obtain ⟨k, hk, hkf⟩ := fst_blk hm.2
      have HSt := Lib.hid (lentM_step hlM HF.out HP.out hk hkf)
      have HFo := Lib.hid (fit_or HF.out hk)
      obtain ⟨x, ex⟩ : ∃ x, x = M.getD i ls0 := ⟨_, rfl⟩
      rw [← ex] at hx hkf
      obtain ⟨w3, g, hw3, hg3, hA, hb3, hg4⟩ := boxed w2 x
      have HA43 := Lib.hid (HA4.out.later hb3)
      have HA33 := Lib.hid (HA3.out.later hb3)
      have HK3 := Lib.hid (HK.out.below hb3)
      have HB3 := Lib.hid (bl_tr HBr.out hb3)
      have HW3 := Lib.hid (And.intro hw3 hg3)
      obtain ⟨c0, c1, c2, c3⟩ := hx
      obtain ⟨a0, a1, a2, a3⟩ := hA
      obtain ⟨x0, x1, x2, x3⟩ := x
      have hl126 : Wi.length = 126 := HF.out.1
      have d4 := HA43.out.cell (j := k / 64) (by rw [hl126]; omega)
      have f4 := frozen_of_row w3 (q + 3) (k / 64) _ _ HA43.out
      have hfit := HF.out.at (j := k / 64) (by omega)
      obtain ⟨j, hj⟩ : ∃ j, j = k / 64 := ⟨_, rfl⟩
      obtain ⟨r, hr⟩ : ∃ r, r = k % 64 := ⟨_, rfl⟩
      obtain ⟨n0, hn0⟩ : ∃ n0, n0 = Wi.getD (k / 64) 0 := ⟨_, rfl⟩
      have HOR : Hid (orW Wi k = Wi.set j (n0 ||| 2 ^ r)) := Lib.hid (by unfold orW; rw [hj, hr, hn0])
      rw [← hn0, ← hj] at d4
      rw [← hj] at f4
      rw [← hn0] at hfit
      have e1 : x1 - 1024 = 8 * (k : Int) := by have : x1 = 1024 + 8 * (k : Int) := hkf; omega
      have e2 : (8 * (k : Int)).tdiv 8 = (k : Int) := by rw [Int.tdiv_eq_ediv_of_nonneg (by omega)]; omega
      have e3 : (k : Int).tdiv 64 = (j : Int) := by rw [Int.tdiv_eq_ediv_of_nonneg (by omega)]; omega
      have e4 : (k : Int).tmod 64 = (r : Int) := by rw [Int.tmod_eq_emod_of_nonneg (by omega)]; omega
      have e2' : (8 * (k : Int)) / 8 = (k : Int) := by omega
      have e3' : (k : Int) / 64 = (j : Int) := by omega
      have e4' : (k : Int) % 64 = (r : Int) := by omega
      have v1 : ∀ [Inhabited Nat], IntKind.i64.wrap (8 * (k : Int)) = 8 * (k : Int) := by intro _; exact IntWalk.i64_in _ (by omega)
      have v2 : ∀ [Inhabited Nat], IntKind.i64.wrap (k : Int) = (k : Int) := by intro _; exact IntWalk.i64_in _ (by omega)
      have v3 : ∀ [Inhabited Nat], IntKind.i64.wrap (j : Int) = (j : Int) := by intro _; exact IntWalk.i64_in _ (by omega)
      have v4 : ∀ [Inhabited Nat], IntKind.i64.wrap (r : Int) = (r : Int) := by intro _; exact IntWalk.i64_in _ (by omega)
      have j0 : (0 : Int) ≤ (j : Int) := by omega
      have j1 : (j : Int) < 126 := by omega
      have r0 : (0 : Int) ≤ (r : Int) := by omega
      have r1 : (r : Int) < 64 := by omega
      have r2 : ¬ (r : Int) < 0 := by omega
      clear hw3 hg3 hb3 hm hj hr hn0 hkf ex hIM hl126 hlM
      go_upto_region 5 with fail
      rw [show w2.alloc (.cells #[.int .u32 x0, .int .i64 x1, .int .u32 x2, .int .i64 x3] tyL) = w3 from HW3.out.1.symm, ← HW3.out.2]
      clear c0 c1 c2 c3
      go_upto_region 6 with fail
      go_region
      have hbo := or_word n0 r hfit (by omega)
      obtain ⟨w6, hw6⟩ : ∃ w6, w6 = (w3.setCell ⟨q + 1 + 1 + 1, j, none⟩ (.int .u64 (bits BinOp.or IntKind.u64 (n0 : Int) (IntKind.u64.wrap (2 ^ r))))).drew := ⟨_, rfl⟩
      rw [← hw6]
      have HA46 : Hid (WAt w6 (q + 3) (orW Wi k)) := Lib.hid (by
        rw [hw6, hbo, HOR.out]
        exact HA43.out.set j _)
      have HA36 : Hid (WAt w6 (q + 2) W0) := Lib.hid (by
        rw [hw6]
        exact (heap_setCell_other w3 ⟨q + 1 + 1 + 1, j, none⟩ (q + 2) _ (by show q + 2 ≠ q + 1 + 1 + 1; omega)).trans HA33.out)
      have HK6 : Hid (PkL W.heap.size w6 (.slice (some ⟨b, off, none⟩) N cc) M) := Lib.hid (by
        rw [hw6]
        exact own_cell1 HK3.out (by have := HQ3.out; omega) j _)
      have HB6 : Hid (Below w.heap.size w w6) := Lib.hid (by
        rw [hw6]
        exact (HB3.out.setCell (p := ⟨q + 1 + 1 + 1, j, none⟩) (by show w.heap.size ≤ q + 1 + 1 + 1; have := HQ.out; omega) _).drew)
      clear hw6 hbo d4 f4 a0 a1 a2 a3 e1 e2 e3 e4 e2' e3' e4' v1 v2 v3 v4
      go_wp2
      go_roundw
      case rel => exact ⟨i + 1, _, by omega, by go_num, HFo, HSt, HA46, HA36, HK6, HB6⟩
      case measure => simp [intOf]; omega
    · have ii : ¬ (i : Int) < (N : Int) := by omega
      obtain rfl : i = N := by omega
      have HR : Hid (FitW Wi ∧ ∀ k, k < 8064 → lentW Wi k = lentB vip now l k) := Lib.hid ⟨HF.out, fun k hk => by
        rw [HP.out k, List.take_of_length_le (by have := HN.out; omega), HEnd.out k]⟩
      have HSz : Hid ((u64N Wi).toArray.size = 126 ∧ (u64N W0).toArray.size = 126) := Lib.hid ⟨by rw [List.size_toArray, u64N_len, HF.out.1], by rw [List.size_toArray, u64N_len, fit_W0.1]⟩
      have HOne := Lib.hid (u64N_one Wi)
      have HIA := Lib.hid infoA
      have H3' : Hid (w2.heap[q + 1 + 1]? = some (.cells (u64N W0).toArray 62 (0, 0))) := Lib.hid HA3.out
      have H4' : Hid (w2.heap[q + 1 + 1 + 1]? = some (.cells (u64N Wi).toArray 62 (0, 0))) := Lib.hid HA4.out
      obtain ⟨A, hA⟩ : ∃ A, A = (u64N Wi).toArray := ⟨_, rfl⟩
      obtain ⟨A0, hA0⟩ : ∃ A, A = (u64N W0).toArray := ⟨_, rfl⟩
      rw [← hA, ← hA0] at HSz
      rw [← hA] at HOne H4'
      rw [← hA0] at H3'
      have HAA := Lib.hid hA
      clear hA hA0
      go_wp2_with (first | (refine wpList_load_row rfl 62 _ rfl (q + 1 + 1 + 1) rfl 62 A (0, 0) _ H4'.out Tryd.underlying62 rfl (by rw [HSz.out.1]; exact HIA.out) ?_) | (refine wpList_store_row rfl 62 _ _ rfl (q + 1 + 1) A rfl rfl 62 A0 H3'.out (by rw [HSz.out.1]; exact HIA.out) (by rw [HSz.out.1, HSz.out.2]) HOne.out ?_) | fail)
      refine bodyPost_ret (v := .agg A) (results_cell_row rfl _ _ (q + 1 + 1) 62 A (0, 0) _ rfl (setRow_heap w2 (q + 1 + 1) A0 A _ _ H3'.out) Tryd.underlying62 rfl (by rw [HSz.out.1]; exact HIA.out)) rfl ?_
      exact ⟨⟨Wi, by rw [HAA.out], HR.out⟩, bl_row HBr.out (by have := HQ.out; omega) _⟩
end Go.Proofs.YtanajblldlgalaaDoor
