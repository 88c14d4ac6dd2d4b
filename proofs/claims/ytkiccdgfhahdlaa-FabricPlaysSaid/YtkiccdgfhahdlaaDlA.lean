/- A letter deleted in place: cells moved to the left within a row. No conditions but those stated. -/
import Derived.Test.YtkiccdgfhahdlaaRfT
import Derived.Laws.IdiomCopy
namespace Go.Proofs.Ytkiccdgfhahdlaa
open Go Go.RowKit
set_option linter.unusedVariables false
set_option linter.unusedSimpArgs false

theorem setCells_row {ty : TypeId} {fr : Nat × Nat} {g : Nat} : ∀ (news : List Value) (o : Nat) (w : World) (cs : Array Value), w.heap[g]? = some (.cells cs ty fr) → o + news.length ≤ cs.size → (w.setCells g o news).heap[g]? = some (.cells (cs.toList.take o ++ news ++ cs.toList.drop (o + news.length)).toArray ty fr)
  | [], o, w, cs, h, _ => by
    rw [World.setCells, h]
    simp
  | v :: r, o, w, cs, h, hl => by
    rw [World.setCells]
    simp only [List.length_cons] at hl
    rw [setCells_row r (o + 1) _ (cs.setIfInBounds o v) (box_set h o v) (by simp; omega)]
    congr 3
    have e1 : (cs.setIfInBounds o v).toList = cs.toList.set o v := by simp
    rw [e1]
    have e2 : (cs.toList.set o v).take (o + 1) = cs.toList.take o ++ [v] := by
      rw [List.take_succ_eq_append_getElem (by simp; omega), List.take_set_of_le (Nat.le_refl _), List.getElem_set_self]
    have e3 : (cs.toList.set o v).drop (o + 1 + r.length) = cs.toList.drop (o + (v :: r).length) := by
      rw [List.drop_set_of_lt (by omega)]
      congr 1
      simp
      omega
    rw [e2, e3]
    simp
theorem setCells_tch (g : Nat) : ∀ (news : List Value) (o : Nat) (w : World), Tch (· = g) w (w.setCells g o news)
  | [], o, w => Tch.refl _ _
  | v :: r, o, w => (tch_set w ⟨g, o, none⟩ v).trans (setCells_tch g r (o + 1) _)
/-- A row whose element j is gone, those behind it moved to its place. -/
theorem del_row {w : World} {B g n c j : Nat} {ls : List Lt} {vs : List Value} (h : w.ownsRow B tyL 5 (.slice (some ⟨g, 0, none⟩) n c) n (cellsL ls vs)) (hv : vs.length = ls.length) (hj : j < n) :
    (w.setCells g (j * 5) (cellsL (ls.drop (j + 1)) (vs.drop (j + 1)))).ownsRow B tyL 5 (.slice (some ⟨g, 0, none⟩) (n - 1) c) (n - 1) (cellsL (ls.eraseIdx j) (vs.eraseIdx j)) := by
  have hl : n = ls.length := by have := h.1; rw [cellsL_len hv] at this; omega
  rcases h.2 with ⟨e, h0⟩ | ⟨g', cap, cur, e, hb, hg, h1, h2, h3, h4⟩
  · cases e
  · cases e
    have hn : (cellsL (ls.drop (j + 1)) (vs.drop (j + 1))).length = (n - (j + 1)) * 5 := by
      rw [cellsL_len (by rw [List.length_drop, List.length_drop, hv]), List.length_drop, hl]
    have hlen : (cellsL (ls.eraseIdx j) (vs.eraseIdx j)).length = (n - 1) * 5 := by
      rw [cellsL_len (by rw [List.length_eraseIdx_of_lt (by omega), List.length_eraseIdx_of_lt (by omega), hv]), List.length_eraseIdx_of_lt (by omega), hl]
    have hr := setCells_row (cellsL (ls.drop (j + 1)) (vs.drop (j + 1))) (j * 5) w cur hg (by rw [hn]; omega)
    refine ⟨hlen, .inr ⟨g, c, _, rfl, hb, hr, by omega, h2, ?_, ?_⟩⟩
    · simp only [List.size_toArray, List.length_append, List.length_take, List.length_drop, hn, Array.length_toList]
      omega
    · rw [cellsL_erase hv, ← cellsL_take hv j]
      have e1 : (cellsL ls vs).take (j * 5) = cur.toList.take (j * 5) := by rw [← h4, List.take_take, Nat.min_eq_left (by omega)]
      rw [e1]
      have hjl : (cur.toList.take (j * 5)).length = j * 5 := by rw [List.length_take, Array.length_toList]; omega
      have e2 : (cur.toList.take (j * 5) ++ cellsL (ls.drop (j + 1)) (vs.drop (j + 1))).length = (n - 1) * 5 := by rw [List.length_append, hjl, hn]; omega
      exact List.take_left' e2
/-- What lies behind a row's elements may be written. -/
theorem tail_row {w : World} {B g n c o : Nat} {xs : List Value} (h : w.ownsRow B tyL 5 (.slice (some ⟨g, 0, none⟩) n c) n xs) (news : List Value) (ho : n * 5 ≤ o) (hl : o + news.length ≤ c * 5) :
    (w.setCells g o news).ownsRow B tyL 5 (.slice (some ⟨g, 0, none⟩) n c) n xs := by
  rcases h.2 with ⟨e, h0⟩ | ⟨g', cap, cur, e, hb, hg, h1, h2, h3, h4⟩
  · cases e
  · cases e
    have hr := setCells_row news o w cur hg (by omega)
    refine ⟨h.1, .inr ⟨g, c, _, rfl, hb, hr, h1, h2, ?_, ?_⟩⟩
    · simp only [List.size_toArray, List.length_append, List.length_take, List.length_drop, Array.length_toList]
      omega
    · show ((cur.toList.take o ++ news) ++ cur.toList.drop (o + news.length)).take (n * 5) = xs
      rw [List.append_assoc, List.take_append_of_le_length (by rw [List.length_take, Array.length_toList]; omega), List.take_take, Nat.min_eq_left ho, h4]
end Go.Proofs.Ytkiccdgfhahdlaa
