/- The document's fabric: Take, Copy. Conditions: those stated. -/
import Derived.Test.YtkiccdgfhahdlaaRfS
namespace Go.Proofs.Ytkiccdgfhahdlaa
open Go Go.RowKit
set_option linter.unusedVariables false
set_option linter.unusedSimpArgs false

theorem cellsL_erase : ∀ {ls : List Lt} {vs : List Value}, vs.length = ls.length → ∀ j, cellsL (ls.eraseIdx j) (vs.eraseIdx j) = cellsL (ls.take j) (vs.take j) ++ cellsL (ls.drop (j + 1)) (vs.drop (j + 1))
  | [], [], _, j => by simp [cellsL]
  | l :: ls, v :: vs, h, 0 => by simp [cellsL]
  | l :: ls, v :: vs, h, j + 1 => by
    have := cellsL_erase (ls := ls) (vs := vs) (by simpa using h) j
    simp only [List.eraseIdx_cons_succ, cellsL, List.take_succ_cons, List.drop_succ_cons, this, List.append_assoc]
  | [], _ :: _, h, _ => by simp at h
  | _ :: _, [], h, _ => by simp at h
theorem map_erase {α β : Type} (f : α → β) : ∀ (l : List α) (j : Nat), (l.eraseIdx j).map f = (l.map f).eraseIdx j
  | [], j => by simp
  | a :: l, 0 => by simp
  | a :: l, j + 1 => by simp [map_erase f l j]
/-- A letter taken out: its row of letters is new. -/
theorem take_step {w w8 : World} {B m last n c j : Nat} {ls : List Lt} {ao a8 : Option Addr} {n8 c8 : Nat} {vs : List Value} (hM : LsM w B m ls last ao n c vs) (hB : B ≤ w.heap.size) (hj : j < ls.length)
    (h8 : w8.ownsRow w.heap.size tyL 5 (.slice a8 n8 c8) n8 (cellsL (ls.take j) (vs.take j) ++ cellsL (ls.drop (j + 1)) (vs.drop (j + 1)))) (hb : Below w.heap.size w w8) :
    LsM (w8.setCell ⟨m, 0, none⟩ (.slice a8 n8 c8)) B m (ls.eraseIdx j) last a8 n8 c8 (vs.eraseIdx j) ∧ Tch (· = m) w (w8.setCell ⟨m, 0, none⟩ (.slice a8 n8 c8)) ∧ (∀ k, RfB a8 n8 c8 (vs.eraseIdx j) k → RfB ao n c vs k ∨ w.heap.size ≤ k) := by
  have hml := hM.lt
  have T1 := tch_new hb
  have T4 := tch_set w8 ⟨m, 0, none⟩ (.slice a8 n8 c8)
  have e0 := T1.cell hM.c0 (fun h => h)
  have e1 := T1.cell hM.c1 (fun h => h)
  have hsub : ∀ u ∈ vs.eraseIdx j, u ∈ vs := fun u hu => List.mem_of_mem_eraseIdx hu
  have haw : ∀ u ∈ vs.eraseIdx j, u.ownBlock ≠ some m := fun u hu => hM.away u (hsub u hu)
  have hn8 : ∀ k, (Value.slice a8 n8 c8).ownBlock = some k → w.heap.size ≤ k := fun k hk => (h8.lt k hk).1
  have hm8 : (Value.slice a8 n8 c8).ownBlock ≠ some m := fun e => by have := hn8 m e; omega
  have hrow : w8.ownsRow B tyL 5 (.slice a8 n8 c8) n8 (cellsL (ls.eraseIdx j) (vs.eraseIdx j)) := by
    rw [cellsL_erase hM.vlen]
    exact own_base h8 hB
  refine ⟨⟨World.cell?_setCell_same w8 ⟨m, 0, none⟩ _ e0, (World.cell?_setCell_other _ _ _ _ (fun e => by have := congrArg Addr.off e; simp at this)).trans e1, fun o => by simpa using (frozen_keep T1 hM.c0 (fun h => h) o).trans (hM.free o), hM.hm, ownsRow_setCell_other hrow hm8 _, ?_, hM.apart.sublist (List.eraseIdx_sublist _ _), haw, hm8⟩, (T1.mono (fun _ h => h.elim)).trans T4, fun k hk => ?_⟩
  · rw [map_erase]
    exact ((hM.rows.keep T1 (fun _ _ _ _ h => h)).erase j).keep T4 (fun u hu k hk e => haw u hu (by rw [hk, e]))
  · rcases hk with hk | ⟨u, hu, hk⟩
    · exact .inr (hn8 k hk)
    · exact .inl (.inr ⟨u, hsub u hu, hk⟩)
/-- What the document's Take leaves. -/
def RTke (w : World) (B : Nat) (F : Nat → Prop) (m : Nat) (l : Lt) (f : Int) (ls : List Lt) (last : Nat) (e : Ending) (w' : World) : Prop :=
  ∃ v, e = .returned (.tuple #[l.val v, .int .i64 f]) ∧ w'.ownsRow B 5 1 v l.bs.length (u8s l.bs) ∧ ∃ F2, LTo w B F m ls last F2 w'
theorem setL_below {w W : World} (h : Below w.heap.size w W) {q : Nat} (hq : w.heap.size ≤ q) (v0 v1 v2 v3 v4 : Value) : Below w.heap.size w (((((W.setCell ⟨q, 0, none⟩ v0).setCell ⟨q, 1, none⟩ v1).setCell ⟨q, 2, none⟩ v2).setCell ⟨q, 3, none⟩ v3).setCell ⟨q, 4, none⟩ v4) :=
  ((((h.setCell (p := ⟨q, 0, none⟩) hq _).setCell (p := ⟨q, 1, none⟩) hq _).setCell (p := ⟨q, 2, none⟩) hq _).setCell (p := ⟨q, 3, none⟩) hq _).setCell (p := ⟨q, 4, none⟩) hq _
theorem setL_tch (W : World) (q : Nat) (v0 v1 v2 v3 v4 : Value) : Tch (· = q) W (((((W.setCell ⟨q, 0, none⟩ v0).setCell ⟨q, 1, none⟩ v1).setCell ⟨q, 2, none⟩ v2).setCell ⟨q, 3, none⟩ v3).setCell ⟨q, 4, none⟩ v4) :=
  ((((tch_set W ⟨q, 0, none⟩ v0).trans (tch_set _ ⟨q, 1, none⟩ v1)).trans (tch_set _ ⟨q, 2, none⟩ v2)).trans (tch_set _ ⟨q, 3, none⟩ v3)).trans (tch_set _ ⟨q, 4, none⟩ v4)
set_option maxRecDepth 100000 in
set_option maxHeartbeats 2000000 in
theorem refTake_none (B m last : Nat) (F : Nat → Prop) (n : Int) (w : World) (hL : LSt w B F m [] last) :
    Calls Try.prog 19 #[.pointer (some ⟨m, 0, none⟩), .int .i64 n] w (RTke w B F m lt0 6 [] last) := by
  obtain ⟨W, hW⟩ : ∃ W, W = w.alloc (.cells zeroL tyL) := ⟨_, rfl⟩
  have hz : Bx W w.heap.size lt0 (.slice none 0 0) := by rw [hW]; exact Bx.new w lt0 _
  have hT : Tch Non w W := by rw [hW]; exact tch_alloc _ _
  have hbW : Below w.heap.size w W := by rw [hW]; exact bl_al (Below.refl _ _) _
  have CN := Lib.hid (refNth_none B m last F n W (hL.keep hT (fun _ _ h => h)))
  obtain ⟨q, hq⟩ : ∃ q, q = w.heap.size := ⟨_, rfl⟩
  have HW := Lib.hid hW
  have HQ := Lib.hid hq
  have HZ := Lib.hid hz
  have HL := Lib.hid hL
  have HBW := Lib.hid hbW
  have HB : Hid (B ≤ m ∧ m < w.heap.size) := Lib.hid (by obtain ⟨_, _, _, _, hM, _⟩ := hL.here; exact ⟨hM.hm, hM.lt⟩)
  clear hz hT hL hW hq hbW
  go_enter Try.func19, Try.ntmps19
  go_upto_region 1 with fail
  rw [← HW.out, ← HQ.out]
  go_wp2_with fail
  refine CN.out.mono ?_
  rintro e w1 ⟨v, rfl, ho, hv, ht⟩
  obtain ⟨av, cv, rfl⟩ := own_form ho
  have hb1 : Below w.heap.size w w1 := HBW.out.trans (ht.below (fun k hk => hk.elim) HBW.out.size)
  obtain ⟨Y, hY⟩ : ∃ Y, Y = w1.alloc (.cells #[.int .i64 lt0.id, .int .i64 lt0.frm, .int .i64 lt0.dst, .bool lt0.ctl, .slice av lt0.bs.length cv] tyL) := ⟨_, rfl⟩
  have hTY : Tch Non w1 Y := by rw [hY]; exact tch_alloc _ _
  have hY1 : Bx Y w1.heap.size lt0 (.slice av lt0.bs.length cv) := by rw [hY]; exact Bx.new w1 lt0 _
  have hqY : Bx Y q lt0 (.slice none 0 0) := by rw [HQ.out]; exact (HZ.out.keep ht (fun h => h)).keep hTY (fun h => h)
  have hbY : Below w.heap.size w Y := by rw [hY]; exact bl_al hb1 _
  obtain ⟨p, hp⟩ : ∃ p, p = w1.heap.size := ⟨_, rfl⟩
  rw [← hp] at hY1
  obtain ⟨y0, y1, y2, y3, y4⟩ := hY1.cell
  obtain ⟨q0, q1, q2, q3, q4⟩ := hqY.cell
  have qf := hqY.free
  have HE : Hid (∀ Z, Z = ((((Y.setCell ⟨q, 0, none⟩ (.int .i64 lt0.id)).setCell ⟨q, 1, none⟩ (.int .i64 lt0.frm)).setCell ⟨q, 2, none⟩ (.int .i64 lt0.dst)).setCell ⟨q, 3, none⟩ (.bool lt0.ctl)).setCell ⟨q, 4, none⟩ (.slice av lt0.bs.length cv) → RTke w B F m lt0 6 [] last (.returned (.tuple #[lt0.val (.slice av lt0.bs.length cv), .int .i64 6])) Z) := Lib.hid (fun Z hZ => by
    have hbZ : Below w.heap.size w Z := by rw [hZ]; exact setL_below hbY (Nat.le_of_eq HQ.out.symm) _ _ _ _ _
    refine ⟨_, rfl, ?_, F, LTo.same (T := Non) HL.out (tch_new hbZ)⟩
    have t2 : Tch (· = q) Y Z := by rw [hZ]; exact setL_tch Y q _ _ _ _ _
    refine t2.own (hTY.own ho (fun _ _ h => h)) (fun k hk h => ?_)
    have := (HL.out.blocks k (hv k hk).1).2
    have := HQ.out
    omega)
  have HP := Lib.hid hp
  have HY := Lib.hid hY
  clear ho hv ht hb1 hp hY hTY hqY hbY hY1 CN
  unfold Lt.val
  go_upto_region 2 with fail
  rw [← HY.out, ← HP.out]
  clear HP HY
  go_wp2
  refine bodyPost_ret (v := .tuple #[lt0.val (.slice av lt0.bs.length cv), .int .i64 6]) (by simp [results, Try.results19, go_sem, q0, q1, q2, q3, q4, Lt.val]) rfl ?_
  exact HE.out _ rfl
end Go.Proofs.Ytkiccdgfhahdlaa
