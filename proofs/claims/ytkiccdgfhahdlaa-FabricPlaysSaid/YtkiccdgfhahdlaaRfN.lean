/- The document's fabric: Place, Nth, Send, Copy. Conditions: those stated. -/
import Derived.Test.YtkiccdgfhahdlaaRfQ
namespace Go.Proofs.Ytkiccdgfhahdlaa
open Go Go.RowKit
set_option linter.unusedVariables false
set_option linter.unusedSimpArgs false

theorem plc_tm (n : Int) {c : Nat} (h : 0 < c) : (n.tmod c < 0 → (plc n c : Int) = n.tmod c + c) ∧ (¬ n.tmod c < 0 → (plc n c : Int) = n.tmod c) := by
  have hc : (0 : Int) < (c : Int) := by omega
  have e := Int.tmod_add_mul_tdiv n c
  have h1 := Int.tmod_lt_of_pos n hc
  have h2 := Int.lt_tmod_of_pos n hc
  have key : ∀ r q : Int, n = r + c * q → 0 ≤ r → r < c → n % (c : Int) = r := fun r q hr h0 h1 => by
    rw [hr, Int.add_mul_emod_self_left, Int.emod_eq_of_lt h0 h1]
  constructor
  · intro hl
    have := key (n.tmod c + c) (n.tdiv c - 1) (by rw [Int.mul_sub]; omega) (by omega) (by omega)
    unfold plc
    omega
  · intro hl
    have := key (n.tmod c) (n.tdiv c) (by omega) (by omega) (by omega)
    unfold plc
    omega
set_option maxRecDepth 100000 in
theorem refPlace_none (n : Int) (w : World) : Calls Try.prog 42 #[.int .i64 n, .int .i64 0] w fun e w' => e = .returned (.int .i64 (-1)) ∧ w = w' := by
  go_enter Try.func42, Try.ntmps42
  go_wp2
  go_ret
  exact ⟨rfl, rfl⟩
set_option maxRecDepth 100000 in
theorem refPlace_some (n : Int) (c : Nat) (hc : 0 < c) (h4 : c ≤ 4611686018427387904) (w : World) : Calls Try.prog 42 #[.int .i64 n, .int .i64 c] w fun e w' => e = .returned (.int .i64 (plc n c)) ∧ w = w' := by
  have hp := plc_tm n hc
  have h1 := Int.tmod_lt_of_pos n (show (0 : Int) < (c : Int) by omega)
  have h2 := Int.lt_tmod_of_pos n (show (0 : Int) < (c : Int) by omega)
  have hz : ((c : Int) == 0) = false := by rw [beq_eq_false_iff_ne]; omega
  have hz2 : ¬ (c : Int) = 0 := by omega
  have hz3 : ¬ c = 0 := by omega
  obtain ⟨P, hP⟩ : ∃ P, P = plc n c := ⟨_, rfl⟩
  rw [← hP] at hp
  rw [← hP]
  by_cases hl : n.tmod c < 0
  · have e := hp.1 hl
    have v : ∀ [Inhabited Nat], IntKind.i64.wrap (n.tmod c + (c : Int)) = (P : Int) := by intro _; rw [IntWalk.i64_in _ (by omega)]; omega
    have HE := Lib.hid e
    clear hp hP hc e
    go_enter Try.func42, Try.ntmps42
    go_wp2
    go_ret
    exact ⟨by first | rfl | (rw [HE.out]; rfl), rfl⟩
  · have HE := Lib.hid (hp.2 hl)
    clear hp hP hc
    go_enter Try.func42, Try.ntmps42
    go_wp2
    go_ret
    exact ⟨by rw [HE.out]; rfl, rfl⟩
theorem LSt.nthv {w : World} {B m last : Nat} {F : Nat → Prop} {ls : List Lt} (h : LSt w B F m ls last) {j : Nat} (hj : j < ls.length) : ∃ ao n c vs g, LsM w B m ls last ao n c vs ∧ (∀ k, F k ↔ k = m ∨ RfB ao n c vs k) ∧ ao = some ⟨g, 0, none⟩ ∧ n = ls.length ∧ n ≤ c ∧ vs.getD j undef ∈ vs ∧
    (∀ i, i < 5 → w.cell? ⟨g, j * 5 + i, none⟩ = ((ls.getD j lt0).cs (vs.getD j undef))[i]?) ∧ w.ownsRow B 5 1 (vs.getD j undef) (ls.getD j lt0).bs.length (u8s (ls.getD j lt0).bs) := by
  obtain ⟨ao, n, c, vs, hM, hF⟩ := h.here
  have hn := hM.len
  have hv := hM.vlen
  obtain ⟨g, rfl, _⟩ := hM.cell (j := j) (i := 0) (by omega) (by omega)
  have hcap : n ≤ c := by
    rcases hM.row.2 with ⟨e, h0⟩ | ⟨g', cap', cur, e, _, _, h1, _⟩
    · cases e
    · cases e
      exact h1
  refine ⟨_, n, c, vs, g, hM, hF, rfl, hn.symm, hcap, ?_, fun i hi => ?_, ?_⟩
  · rw [List.getD_eq_getElem?_getD, List.getElem?_eq_getElem (by omega)]
    exact List.getElem_mem (by omega)
  · obtain ⟨g2, e2, hc⟩ := hM.cell (j := j) (i := i) (by omega) hi
    cases e2
    exact hc
  · have := (hM.rows.at (j := j) (by simpa using hj)).1
    have e : (ls.map (·.bs)).getD j [] = (ls.getD j lt0).bs := by
      rw [List.getD_eq_getElem?_getD, List.getD_eq_getElem?_getD, List.getElem?_map, List.getElem?_eq_getElem hj]
      rfl
    rw [e] at this
    exact this
/-- What Nth leaves. -/
def GotN (w : World) (B : Nat) (F : Nat → Prop) (m : Nat) (l : Lt) (f : Int) (e : Ending) (w' : World) : Prop :=
  ∃ v, e = .returned (.tuple #[l.val v, .int .i64 f]) ∧ w'.ownsRow B 5 1 v l.bs.length (u8s l.bs) ∧ (∀ k, v.ownBlock = some k → F k ∧ k ≠ m) ∧ Tch Non w w'
abbrev zeroL : Array Value := #[.int .i64 0, .int .i64 0, .int .i64 0, .bool false, .slice none 0 0]
set_option maxRecDepth 100000 in
set_option maxHeartbeats 1000000 in
theorem refNth_none (B m last : Nat) (F : Nat → Prop) (n : Int) (w : World) (hL : LSt w B F m [] last) :
    Calls Try.prog 24 #[.pointer (some ⟨m, 0, none⟩), .int .i64 n] w (GotN w B F m lt0 6) := by
  obtain ⟨ao, k, c, vs, hM, hF⟩ := hL.here
  obtain rfl : k = 0 := hM.len.symm
  obtain ⟨W, hW⟩ : ∃ W, W = w.alloc (.cells zeroL tyL) := ⟨_, rfl⟩
  have hz : Bx W w.heap.size lt0 (.slice none 0 0) := by rw [hW]; exact Bx.new w lt0 _
  have hT : Tch Non w W := by rw [hW]; exact tch_alloc _ _
  have e0 := hT.cell hM.c0 (fun h => h)
  obtain ⟨b0, b1, b2, b3, b4⟩ := hz.cell
  have bf := hz.free
  have CP := Lib.hid (refPlace_none n W)
  obtain ⟨q, hq⟩ : ∃ q, q = w.heap.size := ⟨_, rfl⟩
  rw [← hq] at b0 b1 b2 b3 b4 bf
  have HF : Hid (∀ X : World, X = ((((W.setCell ⟨q, 0, none⟩ (.int .i64 0)).setCell ⟨q, 1, none⟩ (.int .i64 0)).setCell ⟨q, 2, none⟩ (.int .i64 0)).setCell ⟨q, 3, none⟩ (.bool false)).setCell ⟨q, 4, none⟩ (.slice none 0 0) → Tch Non w X) := Lib.hid (fun X hX => by
    have hb : Below w.heap.size w W := by rw [hW]; exact bl_al (Below.refl _ _) _
    rw [hX, hq]
    exact tch_new (((((hb.setCell (p := ⟨w.heap.size, 0, none⟩) (Nat.le_refl _) _).setCell (p := ⟨w.heap.size, 1, none⟩) (Nat.le_refl _) _).setCell (p := ⟨w.heap.size, 2, none⟩) (Nat.le_refl _) _).setCell (p := ⟨w.heap.size, 3, none⟩) (Nat.le_refl _) _).setCell (p := ⟨w.heap.size, 4, none⟩) (Nat.le_refl _) _))
  have HW := Lib.hid hW
  have HQ := Lib.hid hq
  clear hM hF hL hz hT hW hq
  go_enter Try.func24, Try.ntmps24
  go_upto_region 1 with fail
  rw [← HW.out, ← HQ.out]
  go_wp2_with fail
  refine CP.out.mono ?_
  rintro e w1 ⟨rfl, rfl⟩
  clear CP
  go_wp2
  refine bodyPost_ret (v := .tuple #[lt0.val (.slice none 0 0), .int .i64 6]) (by simp [results, Try.results24, go_sem, b0, b1, b2, b3, b4, lt0, Lt.val]) rfl ?_
  exact ⟨_, rfl, World.ownsRow_nil _ _ _ _, (fun k hk => by cases hk), HF.out _ rfl⟩
set_option maxRecDepth 100000 in
set_option maxHeartbeats 1000000 in
theorem refNth_some (B m last : Nat) (F : Nat → Prop) (ls : List Lt) (n : Int) (w : World) (hL : LSt w B F m ls last) (h0 : 0 < ls.length) (h4 : ls.length ≤ 4096) :
    Calls Try.prog 24 #[.pointer (some ⟨m, 0, none⟩), .int .i64 n] w (GotN w B F m (ls.getD (plc n ls.length) lt0) 0) := by
  have hj := plc_lt n h0
  obtain ⟨ao, k, c, vs, g, hM, hF, rfl, hk, hkc, hmem, hc, ho⟩ := hL.nthv hj
  subst hk
  obtain ⟨W, hW⟩ : ∃ W, W = w.alloc (.cells zeroL tyL) := ⟨_, rfl⟩
  have hz : Bx W w.heap.size lt0 (.slice none 0 0) := by rw [hW]; exact Bx.new w lt0 _
  have hT : Tch Non w W := by rw [hW]; exact tch_alloc _ _
  have e0 := hT.cell hM.c0 (fun h => h)
  obtain ⟨b0, b1, b2, b3, b4⟩ := hz.cell
  have bf := hz.free
  have CP := Lib.hid (refPlace_some n ls.length h0 (by omega) W)
  obtain ⟨q, hq⟩ : ∃ q, q = w.heap.size := ⟨_, rfl⟩
  rw [← hq] at b0 b1 b2 b3 b4 bf
  obtain ⟨j, hjd⟩ : ∃ j, j = plc n ls.length := ⟨_, rfl⟩
  rw [← hjd] at hj hmem hc ho CP
  rw [← hjd]
  have hc0 := hT.cell (hc 0 (by omega)) (fun h => h)
  have hc1 := hT.cell (hc 1 (by omega)) (fun h => h)
  have hc2 := hT.cell (hc 2 (by omega)) (fun h => h)
  have hc3 := hT.cell (hc 3 (by omega)) (fun h => h)
  have hc4 := hT.cell (hc 4 (by omega)) (fun h => h)
  have HFR : Hid (∀ k, (vs.getD j undef).ownBlock = some k → F k ∧ k ≠ m) := Lib.hid (fun k hk => ⟨(hF k).2 (.inr (.inr ⟨_, hmem, hk⟩)), fun e => hM.away _ hmem (by rw [hk, e])⟩)
  obtain ⟨l, hl⟩ : ∃ l, l = ls.getD j lt0 := ⟨_, rfl⟩
  obtain ⟨v, hv⟩ : ∃ v, v = vs.getD j undef := ⟨_, rfl⟩
  rw [← hl] at hc0 hc1 hc2 hc3
  rw [← hv] at hc4
  rw [Nat.add_zero] at hc0
  rw [← hl, ← hv] at ho
  rw [← hv] at HFR
  rw [← hl]
  obtain ⟨av, cv, hv2⟩ := own_form ho
  obtain ⟨nb, hnb⟩ : ∃ k, k = l.bs.length := ⟨_, rfl⟩
  rw [← hnb] at hv2 ho
  rw [hv2] at hc4 HFR ho
  have HNB := Lib.hid hnb
  obtain ⟨N, hN⟩ : ∃ N, N = ls.length := ⟨_, rfl⟩
  rw [← hN] at hj e0 CP hkc h0 h4
  have ij : (j : Int) < (N : Int) := by omega
  have i0 : (0 : Int) ≤ (j : Int) := by omega
  have hbW : Below w.heap.size w W := by rw [hW]; exact bl_al (Below.refl _ _) _
  have HX : Hid (∀ X : World, X = ((((W.setCell ⟨q, 0, none⟩ (.int .i64 l.id)).setCell ⟨q, 1, none⟩ (.int .i64 l.frm)).setCell ⟨q, 2, none⟩ (.int .i64 l.dst)).setCell ⟨q, 3, none⟩ (.bool l.ctl)).setCell ⟨q, 4, none⟩ (.slice av nb cv) → Tch Non w X) := Lib.hid (fun X hX => by
    rw [hX, hq]
    exact tch_new (((((hbW.setCell (p := ⟨w.heap.size, 0, none⟩) (Nat.le_refl _) _).setCell (p := ⟨w.heap.size, 1, none⟩) (Nat.le_refl _) _).setCell (p := ⟨w.heap.size, 2, none⟩) (Nat.le_refl _) _).setCell (p := ⟨w.heap.size, 3, none⟩) (Nat.le_refl _) _).setCell (p := ⟨w.heap.size, 4, none⟩) (Nat.le_refl _) _))
  have HW := Lib.hid hW
  have HQ := Lib.hid hq
  have HO := Lib.hid ho
  clear hM hF hL hz hT hW hq hmem hc ho hjd hl hv hN hbW hv2 hnb v
  go_enter Try.func24, Try.ntmps24
  go_upto_region 1 with fail
  rw [← HW.out, ← HQ.out]
  go_wp2_with fail
  refine CP.out.mono ?_
  rintro e w1 ⟨rfl, rfl⟩
  clear CP
  go_wp2
  refine bodyPost_ret (v := .tuple #[l.val (.slice av nb cv), .int .i64 0]) (by simp [results, Try.results24, go_sem, b0, b1, b2, b3, b4, Lt.val]) rfl ?_
  have hX := HX.out _ rfl
  exact ⟨_, rfl, hX.own (by have := HO.out; rw [HNB.out] at this ⊢; exact this) (fun _ _ h => h), HFR.out, hX⟩
end Go.Proofs.Ytkiccdgfhahdlaa
