/- Rows of bytes and rows of rows in memory; the sum of words. No conditions. -/
import Derived.Test.YtlmkmbpikhagiaaProg
import Derived.WalkKit
import Derived.WalkSpells
import Derived.WalkLawsBesides
import Derived.RegionTactic
import Derived.Deep.QuietTactic
import Derived.BigQuiet
import Derived.Outline
import Derived.Lib.Hide
import Derived.LoopTactic
import Derived.Laws.BitsAllLaws
import Derived.Laws.NewBlocks
namespace Go.Proofs.Ytlmkmbpikhagiaa
open Go Go.RowKit
set_option linter.unusedVariables false
set_option linter.unusedSimpArgs false

/-- The words of a row, added. -/
def ws : List Int → Int
  | [] => 0
  | [a] => 256 * a
  | a :: b :: r => 256 * a + b + ws r
theorem ws_app_even : ∀ (l m : List Int), l.length % 2 = 0 → ws (l ++ m) = ws l + ws m
  | [], m, _ => by simp [ws]
  | [a], m, h => by simp at h
  | a :: b :: r, m, h => by
    have := ws_app_even r m (by simp at h; omega)
    simp only [List.cons_append, ws, this]
    omega
theorem ws_more : ∀ (l : List Int) (b : Int), ws (l ++ [b]) = ws l + (if l.length % 2 = 0 then 256 * b else b)
  | [], b => by simp [ws]
  | [a], b => by simp [ws]
  | a :: c :: r, b => by
    have := ws_more r b
    have e : (a :: c :: r).length % 2 = r.length % 2 := by simp only [List.length_cons]; omega
    simp only [List.cons_append, ws, this]
    by_cases h : r.length % 2 = 0
    · rw [if_pos h, if_pos (by rw [e]; exact h)]
      omega
    · rw [if_neg h, if_neg (by rw [e]; exact h)]
      omega
def fit (l : List Int) : Prop := ∀ b ∈ l, 0 ≤ b ∧ b < 256
theorem ws_fits : ∀ (l : List Int), fit l → 0 ≤ ws l ∧ ws l ≤ 65280 * l.length
  | [], _ => by simp [ws]
  | [a], h => by
    have := h a (by simp)
    simp [ws]
    omega
  | a :: b :: r, h => by
    have h1 := h a (by simp)
    have h2 := h b (by simp)
    have h3 := ws_fits r (fun x hx => h x (by simp [hx]))
    simp only [ws, List.length_cons]
    omega
/-- A row of bytes in memory. -/
def At (w : World) (v : Value) (l : List Int) : Prop :=
  ∃ a cap, v = .slice a l.length cap ∧ (l = [] ∨ ∃ b off, a = some ⟨b, off, none⟩ ∧ ∀ j, j < l.length → w.cell? ⟨b, off + j, none⟩ = some (.int .u8 (l.getD j 0)))
/-- Rows of bytes, in a row. -/
def Parts (w : World) (v : Value) (ps : List (List Int)) : Prop :=
  ∃ a cap, v = .slice a ps.length cap ∧ (ps = [] ∨ ∃ b off, a = some ⟨b, off, none⟩ ∧ ∀ j p, ps[j]? = some p → ∃ u, w.cell? ⟨b, off + j, none⟩ = some u ∧ At w u p)
theorem take_more {α : Type} (l : List α) (d : α) {k : Nat} (h : k < l.length) : l.take (k + 1) = l.take k ++ [l.getD k d] := by
  rw [List.take_add_one, List.getElem?_eq_getElem h, List.getD_eq_getElem?_getD, List.getElem?_eq_getElem h]
  rfl
theorem fit_at {l : List Int} (h : fit l) {j : Nat} (hj : j < l.length) : 0 ≤ l.getD j 0 ∧ l.getD j 0 < 256 :=
  h _ (by rw [List.getD_eq_getElem?_getD, List.getElem?_eq_getElem hj]; exact List.getElem_mem hj)
theorem len_pre {ps : List (List Int)} {k : Nat} {p : List Int} (h : ps[k]? = some p) : (ps.take k).flatten.length + p.length ≤ ps.flatten.length ∧ (ps.take (k + 1)).flatten = (ps.take k).flatten ++ p := by
  have e : ps.take (k + 1) = ps.take k ++ [p] := by rw [List.take_add_one, h]; rfl
  refine ⟨?_, by rw [e]; simp⟩
  have e2 : (ps.take (k + 1) ++ ps.drop (k + 1)).flatten.length = ps.flatten.length := by rw [List.take_append_drop]
  rw [e] at e2
  simp only [List.flatten_append, List.length_append, List.flatten_cons, List.flatten_nil, List.append_nil] at e2
  omega
theorem fit_part {ps : List (List Int)} {k : Nat} {p : List Int} (H : fit ps.flatten) (h : ps[k]? = some p) : fit p :=
  fun b hb => H b (List.mem_flatten.2 ⟨p, List.mem_of_getElem? h, hb⟩)
theorem fit_take {l : List Int} (h : fit l) (j : Nat) : fit (l.take j) := fun b hb => h b (List.mem_of_mem_take hb)
theorem fit_app {l m : List Int} (h : fit l) (h2 : fit m) : fit (l ++ m) := fun b hb => (List.mem_append.1 hb).elim (h b) (h2 b)
theorem fit_takes {ps : List (List Int)} (H : fit ps.flatten) (k : Nat) : fit (ps.take k).flatten := by
  intro b hb
  obtain ⟨p, hp, hb⟩ := List.mem_flatten.1 hb
  exact H b (List.mem_flatten.2 ⟨p, List.mem_of_mem_take hp, hb⟩)
theorem xor_ones (n x : Nat) (h : x < 2 ^ n) : (2 ^ n - 1) ^^^ x = 2 ^ n - 1 - x := by
  apply Nat.eq_of_testBit_eq
  intro i
  rw [Nat.testBit_xor, Nat.testBit_two_pow_sub_one, Nat.sub_sub, Nat.add_comm 1 x, Nat.testBit_two_pow_sub_succ h]
  by_cases hi : i < n
  · simp [hi]
  · have hle : n ≤ i := by omega
    simp [hi, Nat.testBit_lt_two_pow (Nat.lt_of_lt_of_le h (Nat.pow_le_pow_right (n := 2) (by decide) hle))]
end Go.Proofs.Ytlmkmbpikhagiaa
