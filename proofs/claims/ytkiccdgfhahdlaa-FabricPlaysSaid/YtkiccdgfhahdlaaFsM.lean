/- The program's letters under way: a list of letters of which some may share their bytes. No conditions but those stated. -/
import Derived.Test.YtkiccdgfhahdlaaRfN
namespace Go.Proofs.Ytkiccdgfhahdlaa
open Go Go.RowKit
set_option linter.unusedVariables false
set_option linter.unusedSimpArgs false

/-- The letters at m, and the last one's number; rows of bytes may be one. -/
structure FsM (w : World) (B m : Nat) (ls : List Lt) (last : Nat) (ao : Option Addr) (n c : Nat) (vs : List Value) : Prop where
  c0 : w.cell? ⟨m, 0, none⟩ = some (.slice ao n c)
  c1 : w.cell? ⟨m, 1, none⟩ = some (.int .i64 last)
  free : ∀ o, w.frozen? ⟨m, o, none⟩ = false
  hm : B ≤ m
  row : w.ownsRow B tyL 5 (.slice ao n c) n (cellsL ls vs)
  rows : Rws w B vs (ls.map (·.bs))
  away : ∀ v ∈ vs, v.ownBlock ≠ some m
  away0 : (Value.slice ao n c).ownBlock ≠ some m
section
variable {w w' : World} {B m last n c : Nat} {ls : List Lt} {ao : Option Addr} {vs : List Value}
theorem FsM.vlen (h : FsM w B m ls last ao n c vs) : vs.length = ls.length := by
  have := h.rows.len
  simpa using this
theorem FsM.len (h : FsM w B m ls last ao n c vs) : ls.length = n := by
  have h1 := h.row.1
  rw [cellsL_len h.vlen] at h1
  omega
theorem FsM.lt (h : FsM w B m ls last ao n c vs) : m < w.heap.size := World.block_lt_of_cell? _ _ h.c0
theorem FsM.far (h : FsM w B m ls last ao n c vs) : ∀ v ∈ vs, Aprt (.slice ao n c) v := fun v hv => by
  obtain ⟨j, hj, rfl⟩ := List.getElem_of_mem hv
  have := h.rows.at (j := j) (by have := h.vlen; simp; omega)
  rw [List.getD_eq_getElem?_getD, List.getElem?_eq_getElem hj] at this
  exact own_kinds h.row this.1 (by decide)
theorem FsM.keep {T : Nat → Prop} (h : FsM w B m ls last ao n c vs) (ht : Tch T w w') (hm : ¬ T m) (hn : ∀ k, RfB ao n c vs k → ¬ T k) : FsM w' B m ls last ao n c vs :=
  ⟨ht.cell h.c0 hm, ht.cell h.c1 hm, fun o => (frozen_keep ht h.c0 hm o).trans (h.free o), h.hm, ht.own h.row (fun g hg => hn g (.inl hg)), h.rows.keep ht (fun v hv g hg => hn g (.inr ⟨v, hv, hg⟩)), h.away, h.away0⟩
theorem FsM.blocks (h : FsM w B m ls last ao n c vs) : ∀ k, RfB ao n c vs k → B ≤ k ∧ k < w.heap.size := fun k hk => by
  rcases hk with hk | ⟨v, hv, hk⟩
  · exact h.row.lt k hk
  · exact h.rows.blocks v hv k hk
theorem FsM.lower {B' : Nat} (h : FsM w B m ls last ao n c vs) (hb : B' ≤ B) : FsM w B' m ls last ao n c vs :=
  ⟨h.c0, h.c1, h.free, Nat.le_trans hb h.hm, own_base h.row hb, h.rows.base hb, h.away, h.away0⟩
/-- A cell of letter j. -/
theorem FsM.cell (h : FsM w B m ls last ao n c vs) {j i : Nat} (hj : j < n) (hi : i < 5) : ∃ g, ao = some ⟨g, 0, none⟩ ∧ w.cell? ⟨g, j * 5 + i, none⟩ = ((ls.getD j lt0).cs (vs.getD j undef))[i]? := by
  have hl := h.len
  rcases h.row.2 with ⟨e, h0⟩ | ⟨g, cap, cur, e, _, hg, h1, h2, h3, h4⟩
  · omega
  · cases e
    refine ⟨g, rfl, ?_⟩
    rw [← cellsL_at h.vlen (by omega) hi, ← h4, List.getElem?_take, if_pos (by omega), cell_of_row w g (j * 5 + i) _ _ _ hg, Array.getElem?_toList]
/-- The last number written. -/
theorem FsM.num (h : FsM w B m ls last ao n c vs) (k : Nat) : FsM (w.setCell ⟨m, 1, none⟩ (.int .i64 k)) B m ls k ao n c vs := by
  have T := tch_set w ⟨m, 1, none⟩ (.int .i64 k)
  refine ⟨(World.cell?_setCell_other _ _ _ _ (fun e => by have := congrArg Addr.off e; simp at this)).trans h.c0, World.cell?_setCell_same w ⟨m, 1, none⟩ _ h.c1, fun o => by simpa using h.free o, h.hm, ownsRow_setCell_other h.row (fun e => h.away0 (by rw [e])) _, h.rows.keep T (fun v hv g hg e => h.away v hv (by rw [hg, e])), h.away, h.away0⟩
end
/-- A letter laid behind the others, its bytes in any row of bytes. -/
theorem fput_step {W w8 : World} {B m last n c g8 c8 : Nat} {ls : List Lt} {ao : Option Addr} {vs : List Value} {u : Value} {l : Lt} (hM : FsM W B m ls last ao n c vs) (h7 : W.ownsRow B 5 1 u l.bs.length (u8s l.bs)) (hum : u.ownBlock ≠ some m) (hf : fit l.bs)
    (h8 : w8.ownsRow B tyL 5 (.slice (some ⟨g8, 0, none⟩) (n + 1) c8) (n + 1) (cellsL ls vs ++ l.cs u)) (T2 : Tch (fun k => some k = (Value.slice ao n c).ownBlock) W w8) (hg8m : g8 ≠ m) :
    FsM (w8.setCell ⟨m, 0, none⟩ (.slice (some ⟨g8, 0, none⟩) (n + 1) c8)) B m (ls ++ [l]) last (some ⟨g8, 0, none⟩) (n + 1) c8 (vs ++ [u]) ∧
    Tch (fun k => k = m ∨ RfB ao n c vs k) W (w8.setCell ⟨m, 0, none⟩ (.slice (some ⟨g8, 0, none⟩) (n + 1) c8)) ∧
    (∀ k, RfB (some ⟨g8, 0, none⟩) (n + 1) c8 (vs ++ [u]) k → k = g8 ∨ RfB ao n c vs k ∨ u.ownBlock = some k) := by
  have T3 := tch_set w8 ⟨m, 0, none⟩ (.slice (some ⟨g8, 0, none⟩) (n + 1) c8)
  have hm2 : ¬ some m = (Value.slice ao n c).ownBlock := fun e => hM.away0 e.symm
  have e0 := T2.cell hM.c0 hm2
  have e1 := T2.cell hM.c1 hm2
  have fr : ∀ o, w8.frozen? ⟨m, o, none⟩ = false := fun o => (frozen_keep T2 hM.c0 hm2 o).trans (hM.free o)
  have haw : ∀ v ∈ vs ++ [u], v.ownBlock ≠ some m := fun v hv e => by
    rcases List.mem_append.1 hv with hv | hv
    · exact hM.away v hv e
    · rw [List.mem_singleton] at hv
      rw [hv] at e
      exact hum e
  have hrow : w8.ownsRow B tyL 5 (.slice (some ⟨g8, 0, none⟩) (n + 1) c8) (n + 1) (cellsL (ls ++ [l]) (vs ++ [u])) := by
    rw [cellsL_app hM.vlen, cellsL_one]
    exact h8
  have hua : Aprt (.slice ao n c) u := own_kinds hM.row h7 (by decide)
  have R3 : Rws w8 B (vs ++ [u]) ((ls ++ [l]).map (·.bs)) := by
    rw [List.map_append]
    refine (hM.rows.keep T2 (fun v hv k hk e => hM.far v hv k e.symm hk)).app ((Rws.one h7 hf).keep T2 (fun v hv k hk e => ?_))
    rw [List.mem_singleton] at hv
    rw [hv] at hk
    exact hua k e.symm hk
  refine ⟨⟨World.cell?_setCell_same w8 ⟨m, 0, none⟩ _ e0, (World.cell?_setCell_other _ _ _ _ (fun e => by have := congrArg Addr.off e; simp at this)).trans e1, fun o => by simpa using fr o, hM.hm, ownsRow_setCell_other hrow (fun e => hg8m (by cases e; rfl)) _, R3.keep T3 (fun v hv k hk e => haw v hv (by rw [hk, e])), haw, fun e => hg8m (by cases e; rfl)⟩, ?_, ?_⟩
  · exact (T2.mono (fun k hk => .inr (.inl hk.symm))).trans (T3.mono (fun k hk => .inl hk))
  · intro k hk
    rcases hk with hk | ⟨v, hv, hk⟩
    · cases hk
      exact .inl rfl
    · rcases List.mem_append.1 hv with hv | hv
      · exact .inr (.inl (.inr ⟨v, hv, hk⟩))
      · rw [List.mem_singleton] at hv
        rw [hv] at hk
        exact .inr (.inr hk)
/-- The program's fabric: F, all its blocks. -/
structure FSt (w : World) (B : Nat) (F : Nat → Prop) (f : Nat) (ls : List Lt) (last : Nat) : Prop where
  here : ∃ ao n c vs, FsM w B f ls last ao n c vs ∧ ∀ k, F k ↔ k = f ∨ RfB ao n c vs k
section
variable {w w' : World} {B m last : Nat} {F : Nat → Prop} {ls : List Lt}
theorem FSt.keep {T : Nat → Prop} (h : FSt w B F m ls last) (ht : Tch T w w') (hn : ∀ k, F k → ¬ T k) : FSt w' B F m ls last := by
  obtain ⟨ao, n, c, vs, hM, hF⟩ := h.here
  exact ⟨ao, n, c, vs, hM.keep ht (hn m ((hF m).2 (.inl rfl))) (fun k hk => hn k ((hF k).2 (.inr hk))), hF⟩
theorem FSt.blocks (h : FSt w B F m ls last) : ∀ k, F k → B ≤ k ∧ k < w.heap.size := fun k hk => by
  obtain ⟨ao, n, c, vs, hM, hF⟩ := h.here
  rcases (hF k).1 hk with rfl | hk
  · exact ⟨hM.hm, hM.lt⟩
  · exact hM.blocks k hk
theorem FSt.lower {B' : Nat} (h : FSt w B F m ls last) (hb : B' ≤ B) : FSt w B' F m ls last := by
  obtain ⟨ao, n, c, vs, hM, hF⟩ := h.here
  exact ⟨ao, n, c, vs, hM.lower hb, hF⟩
theorem FSt.fits (h : FSt w B F m ls last) : ∀ l ∈ ls, fit l.bs := fun l hl => by
  obtain ⟨ao, n, c, vs, hM, hF⟩ := h.here
  exact hM.rows.fit l.bs (List.mem_map.2 ⟨l, hl, rfl⟩)
theorem FSt.nthv (h : FSt w B F m ls last) {j : Nat} (hj : j < ls.length) : ∃ ao n c vs g, FsM w B m ls last ao n c vs ∧ (∀ k, F k ↔ k = m ∨ RfB ao n c vs k) ∧ ao = some ⟨g, 0, none⟩ ∧ n = ls.length ∧ n ≤ c ∧ vs.getD j undef ∈ vs ∧
    (∀ i, i < 5 → w.cell? ⟨g, j * 5 + i, none⟩ = ((ls.getD j lt0).cs (vs.getD j undef))[i]?) ∧ w.ownsRow B 5 1 (vs.getD j undef) (ls.getD j lt0).bs.length (u8s (ls.getD j lt0).bs) := by
  obtain ⟨ao, n, c, vs, hM, hF⟩ := h.here
  have hn := hM.len
  have hv := hM.vlen
  obtain ⟨g, rfl, _⟩ := hM.cell (j := j) (i := 0) (by omega) (by omega)
  have hcap : n ≤ c := by
    rcases hM.row.2 with ⟨e, h0⟩ | ⟨g', cap', cur, e, _, _, h1, _⟩
    · cases e
    · cases e
      exact h1
  refine ⟨_, n, c, vs, g, hM, hF, rfl, hn.symm, hcap, ?_, fun i hi => ?_, ?_⟩
  · rw [List.getD_eq_getElem?_getD, List.getElem?_eq_getElem (by omega)]
    exact List.getElem_mem (by omega)
  · obtain ⟨g2, e2, hc⟩ := hM.cell (j := j) (i := i) (by omega) hi
    cases e2
    exact hc
  · have := (hM.rows.at (j := j) (by simpa using hj)).1
    have e : (ls.map (·.bs)).getD j [] = (ls.getD j lt0).bs := by
      rw [List.getD_eq_getElem?_getD, List.getD_eq_getElem?_getD, List.getElem?_map, List.getElem?_eq_getElem hj]
      rfl
    rw [e] at this
    exact this
end
end Go.Proofs.Ytkiccdgfhahdlaa
