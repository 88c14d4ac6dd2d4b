/- Timers in memory: rows of two cells each. No conditions but those stated. -/
import Derived.Test.YthoegmcdohppoaaWmD
import Derived.Sort.Row
import Derived.Shelf.GgSortFunc.InsertionK
import Derived.Shelf.SlSortCmp.InsertionK
namespace Go.Proofs.Ythoegmcdohppoaa
open Go Go.RowKit Go.Shelf Go.Sort
set_option linter.unusedVariables false
set_option linter.unusedSimpArgs false

abbrev tyP : TypeId := 69
def csP (p : Wy) : List Value := [.int .i64 p.1, .int .i64 p.2]
def cellsP (l : List Wy) : List Value := l.flatMap csP
theorem cellsP_app (l m : List Wy) : cellsP (l ++ m) = cellsP l ++ cellsP m := by unfold cellsP; rw [List.flatMap_append]
theorem cellsP_one (p : Wy) : cellsP [p] = csP p := by simp [cellsP]
theorem cellsP_len (l : List Wy) : (cellsP l).length = l.length * 2 := by
  induction l with
  | nil => rfl
  | cons p l ih =>
    have : cellsP (p :: l) = csP p ++ cellsP l := rfl
    rw [this, List.length_append, ih, List.length_cons]
    simp only [csP, List.length_cons, List.length_nil]
    omega
theorem cellsP_at : ∀ {l : List Wy} {j i : Nat}, j < l.length → i < 2 → (cellsP l)[j * 2 + i]? = (csP (l.getD j (0, 0)))[i]?
  | [], j, i, hj, _ => by simp at hj
  | p :: l, 0, i, _, hi => by
    have : cellsP (p :: l) = csP p ++ cellsP l := rfl
    rw [this, Nat.zero_mul, Nat.zero_add, List.getD_cons_zero]
    exact List.getElem?_append_left (by simp [csP]; omega)
  | p :: l, j + 1, i, hj, hi => by
    have h := cellsP_at (l := l) (j := j) (i := i) (by simpa using hj) hi
    have : cellsP (p :: l) = csP p ++ cellsP l := rfl
    rw [this, List.getD_cons_succ, List.getElem?_append_right (by simp [csP]; omega), ← h]
    congr 1
    simp [csP]
    omega
/-- Points in memory. -/
structure InP (w : World) (a : Option Addr) (n : Nat) (l : List Wy) : Prop where
  len : l.length = n
  here : l = [] ∨ ∃ b off, a = some ⟨b, off, none⟩ ∧ ∀ j, j < l.length → w.cell? ⟨b, off + j * 2, none⟩ = some (.int .i64 (l.getD j (0, 0)).1) ∧ w.cell? ⟨b, off + j * 2 + 1, none⟩ = some (.int .i64 (l.getD j (0, 0)).2)
theorem InP.below {w w' : World} {a : Option Addr} {n : Nat} {l : List Wy} (h : InP w a n l) (hb : Below w.heap.size w w') : InP w' a n l := by
  refine ⟨h.len, ?_⟩
  rcases h.here with h0 | ⟨b, off, ha, hc⟩
  · exact .inl h0
  · exact .inr ⟨b, off, ha, fun j hj => ⟨(hb.cell (p := ⟨b, off + j * 2, none⟩) (block_lt_of_cell (hc j hj).1)).trans (hc j hj).1, (hb.cell (p := ⟨b, off + j * 2 + 1, none⟩) (block_lt_of_cell (hc j hj).2)).trans (hc j hj).2⟩⟩
theorem InP.block {w : World} {a : Option Addr} {n : Nat} {l : List Wy} (h : InP w a n l) (hn : 0 < n) : ∃ b off, a = some ⟨b, off, none⟩ := by
  rcases h.here with h0 | ⟨b, off, ha, _⟩
  · have := h.len; rw [h0] at this; simp at this; omega
  · exact ⟨b, off, ha⟩
theorem InP.cell {w : World} {b off n : Nat} {l : List Wy} (h : InP w (some ⟨b, off, none⟩) n l) {j : Nat} (hj : j < n) : w.cell? ⟨b, off + j * 2, none⟩ = some (.int .i64 (l.getD j (0, 0)).1) ∧ w.cell? ⟨b, off + j * 2 + 1, none⟩ = some (.int .i64 (l.getD j (0, 0)).2) := by
  have hl := h.len
  rcases h.here with h0 | ⟨b', off', ha, hc⟩
  · rw [h0] at hl; simp at hl; omega
  · cases ha
    exact hc j (by omega)
/-- A row of points of the call's own, as the sort takes it. -/
theorem csP_len (p : Wy) : (csP p).length = 2 := rfl
theorem csP_one (p : Wy) : ∀ v ∈ csP p, v.oneCell' = true := by
  intro v hv
  simp only [csP, List.mem_cons, List.not_mem_nil, or_false] at hv
  rcases hv with rfl | rfl <;> rfl
theorem get_getD (d : Array Wy) (j : Nat) (h : j < d.size) : d[j]! = d.toList.getD j (0, 0) := by
  rw [getElem!_pos d j h, List.getD_eq_getElem?_getD, List.getElem?_eq_getElem (by simpa using h)]
  simp
theorem flat_at (d : Array Wy) (j i : Nat) (hj : j < d.size) (hi : i < 2) : some (flatK csP 2 d)[j * 2 + i]! = (csP (d.toList.getD j (0, 0)))[i]? := by
  rw [get_flatK csP 2 d _ (by omega), show (j * 2 + i) / 2 = j by omega, show (j * 2 + i) % 2 = i by omega, get_getD d j hj]
  rw [getElem!_pos _ i (by rw [csP_len]; exact hi), List.getElem?_eq_getElem]
theorem holds_of {w : World} {g : Nat} {cur : Array Value} (d : Array Wy) (hg : w.heap[g]? = some (.cells cur tyP (0, 0))) (hc : ∀ (t : Nat) (u : Value), (cellsP d.toList)[t]? = some u → cur[t]? = some u) : HoldsK csP 2 w g 0 d := by
  intro t ht
  have ht2 : t < d.size * 2 := by simpa using ht
  refine ⟨?_, frozen_of_row w g _ _ _ hg⟩
  have h2 := flat_at d (t / 2) (t % 2) (by omega) (by omega)
  rw [show t / 2 * 2 + t % 2 = t by omega] at h2
  rw [Nat.zero_add, cell_of_row w g t _ _ _ hg]
  refine hc t _ ?_
  have h3 := cellsP_at (l := d.toList) (j := t / 2) (i := t % 2) (by simp; omega) (by omega)
  rw [show t / 2 * 2 + t % 2 = t by omega] at h3
  rw [h3, ← h2]
  rfl
theorem inP_of {w : World} {g : Nat} {d : Array Wy} (h : HoldsK csP 2 w g 0 d) : InP w (some ⟨g, 0, none⟩) d.size d.toList := by
  refine ⟨by simp, .inr ⟨g, 0, rfl, fun j hj => ?_⟩⟩
  have hj2 : j < d.size := by simpa using hj
  have h0 := (h (j * 2) (by simp; omega)).1
  have h1 := (h (j * 2 + 1) (by simp; omega)).1
  have e0 := flat_at d j 0 hj2 (by omega)
  have e1 := flat_at d j 1 hj2 (by omega)
  refine ⟨h0.trans ?_, ?_⟩
  · exact e0
  · rw [Nat.add_assoc]
    exact h1.trans e1
/-- What a sort leaves of the world. -/
theorem below_sort {w : World} {g B n : Nat} {d : Array Wy} {os : Array Obj} (hg : B ≤ g) (hB : B ≤ w.heap.size) : RowKit.Below B w (sortWorldK csP 2 w g 0 n d os) := by
  refine ⟨rfl, rfl, rfl, ?_, fun k hk => ?_⟩
  · show w.heap.size ≤ ((w.heap.modify g (onCells (putCells id 0 (flatK csP 2 d)))) ++ os).size
    simp
  · show ((w.heap.modify g (onCells (putCells id 0 (flatK csP 2 d)))) ++ os)[k]? = w.heap[k]?
    rw [Array.getElem?_append_left (by simp; omega), Array.getElem?_modify, if_neg (by omega)]
end Go.Proofs.Ythoegmcdohppoaa
