/- A row of numbers with a mark behind it; a message's copy with its marks. No conditions. -/
import Derived.Test.YtbfcgnggcgodhaaMgT
import Derived.Test.YtbfcgnggcgodhaaNumA
namespace Go.Proofs.Ytbfcgnggcgodhaa
open Go Go.RowKit
set_option linter.unusedVariables false
set_option linter.unusedSimpArgs false

theorem i64s_set (l : List Int) (j : Nat) (x : Int) : (i64s l).set j (.int .i64 x) = i64s (l.set j x) := by unfold i64s; rw [List.map_set]
theorem TOut.fvs {l : List Int} {F : Value} {r : List Int} {E : Value} {f : Int} (h : TOut l F r E f) : (∃ pr s sp d dp, F = fv pr s sp d dp) ∧ r.length ≤ l.length := by
  rcases h with ⟨_, rfl, rfl, _, _⟩ | ⟨_, rfl, rfl, _, _⟩
  · exact ⟨⟨_, _, _, _, _, rfl⟩, by rw [List.length_drop]; omega⟩
  · exact ⟨⟨_, _, _, _, _, rfl⟩, by simp⟩
theorem TOut.fit {l : List Int} {F : Value} {r : List Int} {E : Value} {f : Int} (h : TOut l F r E f) (hf : fitI l) : fitI r := by
  rcases h with ⟨_, _, rfl, _, _⟩ | ⟨_, _, rfl, _, _⟩
  · exact fun x hx => hf x (List.mem_of_mem_drop hx)
  · intro x hx; cases hx
theorem fit_77 {l : List Int} (h : fitI l) : fitI (l ++ [-77]) := fitI_app h (by intro x hx; simp at hx; subst hx; decide)
/-- A row of numbers with its mark. -/
theorem mark_in {w : World} {B g n c : Nat} {l : List Int} (h : w.ownsRow B 3 1 (.slice (some ⟨g, 0, none⟩) (n + 1) c) (n + 1) (i64s (l ++ [-77]))) (hl : l.length = n) (hf : fitI l) :
    InI w (some ⟨g, 0, none⟩) n c l ∧ w.cell? ⟨g, n, none⟩ = some (.int .i64 (-77)) := by
  have h1 := own_inI h (by rw [List.length_append, hl]; rfl) (fit_77 hf)
  constructor
  · have h2 := h1.take n (by omega)
    have e : (l ++ [-77]).take n = l := by rw [← hl, List.take_left]
    rwa [e] at h2
  · have h2 := in_cellI h1 n (by omega)
    rw [Nat.zero_add, List.getD_eq_getElem?_getD, List.getElem?_append_right (by omega), hl, Nat.sub_self] at h2
    exact h2
end Go.Proofs.Ytbfcgnggcgodhaa
