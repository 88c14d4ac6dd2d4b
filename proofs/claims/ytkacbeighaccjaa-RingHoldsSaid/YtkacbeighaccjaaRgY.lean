/- A choice among ends, plainly: it stays when another end is taken out, and when its weight grows. No conditions but those stated. -/
import Derived.Test.YtkacbeighaccjaaRgX
namespace Go.Proofs.Ytkacbeighaccjaa
open Go Go.RowKit
set_option linter.unusedVariables false
set_option linter.unusedSimpArgs false

theorem mem_scP {f : Fl} {es : List En} {i : Nat} {a : Wy} : a ∈ scP f es i ↔ ∃ x, x < i ∧ ∃ j, j < nW (es.getD x en0) ∧ a = (-(scE f (es.getD x en0) j), (x : Int)) := by
  unfold scP scO
  simp only [List.mem_flatMap, List.mem_range, List.mem_map]
  constructor
  · rintro ⟨x, hx, j, hj, rfl⟩
    exact ⟨x, hx, j, hj, rfl⟩
  · rintro ⟨x, hx, j, hj, rfl⟩
    exact ⟨x, hx, j, hj, rfl⟩
/-- End k is chosen. -/
def Best (f : Fl) (es : List En) (k : Nat) : Prop := k < es.length ∧ ∃ j, j < nW (es.getD k en0) ∧ ∀ x, x < es.length → ∀ y, y < nW (es.getD x en0) → leW (-(scE f (es.getD k en0) j), (k : Int)) (-(scE f (es.getD x en0) y), (x : Int))
theorem best_iff {f : Fl} {es : List En} {k : Nat} : Chosen f es k ↔ Best f es k := by
  constructor
  · rintro ⟨t, h⟩
    rcases h with ⟨_, h⟩ | ⟨_, hm, hl⟩
    · omega
    · obtain ⟨x, hx, j, hj, e⟩ := mem_scP.1 hm
      have e1 := congrArg Prod.fst e
      have e2 := congrArg Prod.snd e
      simp only at e1 e2
      obtain rfl : k = x := by omega
      exact ⟨hx, j, hj, fun x hx y hy => by
        have := hl _ (mem_scP.2 ⟨x, hx, y, hy, rfl⟩)
        rwa [e1] at this⟩
  · rintro ⟨hk, j, hj, hl⟩
    refine ⟨-(scE f (es.getD k en0) j), .inr ⟨by omega, mem_scP.2 ⟨k, hk, j, hj, rfl⟩, fun b hb => ?_⟩⟩
    obtain ⟨x, hx, y, hy, rfl⟩ := mem_scP.1 hb
    exact hl x hx y hy
theorem chosen_some {f : Fl} {es : List En} {k : Int} (h : Chosen f es k) (hk : 0 ≤ k) : ∃ m : Nat, k = m ∧ Best f es m := ⟨k.toNat, by omega, best_iff.1 (by rwa [show ((k.toNat : Nat) : Int) = k by omega])⟩
/-- Where there is an end with a weight, one is chosen. -/
theorem chosen_pos {f : Fl} {es : List En} {k : Int} (h : Chosen f es k) (hl : 0 < es.length) (hw : ∀ e ∈ es, 1 ≤ e.wt) : 0 ≤ k := by
  obtain ⟨t, h⟩ := h
  rcases h with ⟨h0, _⟩ | ⟨h0, _⟩
  · exfalso
    have : (-(scE f (es.getD 0 en0) 0), ((0 : Nat) : Int)) ∈ scP f es es.length := mem_scP.2 ⟨0, hl, 0, by have := hw _ (memE hl); unfold nW; omega, rfl⟩
    rw [h0] at this
    simp at this
  · exact h0
/-- Less one end. -/
def cutE (es : List En) (i : Nat) : List En := es.take i ++ es.drop (i + 1)
theorem cutE_len {es : List En} {i : Nat} (hi : i < es.length) : (cutE es i).length = es.length - 1 := by
  unfold cutE
  rw [List.length_append, List.length_take, List.length_drop]
  omega
theorem cutE_at {es : List En} {i x : Nat} (hi : i < es.length) : (cutE es i).getD x en0 = es.getD (if x < i then x else x + 1) en0 := by
  unfold cutE
  rw [List.getD_eq_getElem?_getD, List.getD_eq_getElem?_getD]
  split
  · rename_i h
    rw [List.getElem?_append_left (by rw [List.length_take]; omega), List.getElem?_take, if_pos h]
  · rename_i h
    rw [List.getElem?_append_right (by rw [List.length_take]; omega), List.getElem?_drop, List.length_take]
    congr 2
    omega
theorem best_cut {f : Fl} {es : List En} {k i : Nat} (h : Best f es k) (hi : i < es.length) (hne : i ≠ k) : Best f (cutE es i) (if k < i then k else k - 1) ∧ (cutE es i).getD (if k < i then k else k - 1) en0 = es.getD k en0 := by
  obtain ⟨hk, j, hj, hl⟩ := h
  have e : (cutE es i).getD (if k < i then k else k - 1) en0 = es.getD k en0 := by
    rw [cutE_at hi]
    congr 1
    by_cases h : k < i
    · rw [if_pos h, if_pos h]
    · rw [if_neg h, if_neg (by omega)]
      omega
  refine ⟨⟨?_, j, by rw [e]; exact hj, fun x hx y hy => ?_⟩, e⟩
  · rw [cutE_len hi]
    split <;> omega
  · rw [cutE_len hi] at hx
    rw [cutE_at hi] at hy
    rw [e, cutE_at hi]
    have := hl (if x < i then x else x + 1) (by split <;> omega) y hy
    unfold leW at this ⊢
    simp only at this ⊢
    rcases this with h | ⟨h1, h2⟩
    · exact .inl h
    · refine .inr ⟨h1, ?_⟩
      by_cases h3 : x < i <;> by_cases h4 : k < i <;> simp only [h3, h4, if_true, if_false] at h2 ⊢ <;> omega
/-- The least of some numbers. -/
theorem least (g : Nat → Int) : ∀ n, 0 < n → ∃ j, j < n ∧ ∀ y, y < n → g j ≤ g y
  | 0, h => by omega
  | 1, _ => ⟨0, by omega, fun y hy => by
    obtain rfl : y = 0 := by omega
    exact Int.le_refl _⟩
  | n + 2, _ => by
    obtain ⟨j, hj, hl⟩ := least g (n + 1) (by omega)
    by_cases h : g j ≤ g (n + 1)
    · exact ⟨j, by omega, fun y hy => by
        by_cases hy2 : y < n + 1
        · exact hl y hy2
        · obtain rfl : y = n + 1 := by omega
          exact h⟩
    · exact ⟨n + 1, by omega, fun y hy => by
        by_cases hy2 : y < n + 1
        · have := hl y hy2; omega
        · obtain rfl : y = n + 1 := by omega
          exact Int.le_refl _⟩
/-- One end's weight turned. -/
def setE (es : List En) (k : Nat) (t : Int) : List En := es.set k { es.getD k en0 with wt := t }
theorem setE_at {es : List En} {k x : Nat} {t : Int} (hk : k < es.length) : (setE es k t).getD x en0 = if x = k then { es.getD k en0 with wt := t } else es.getD x en0 := by
  unfold setE
  rw [List.getD_eq_getElem?_getD, List.getElem?_set]
  by_cases h : k = x
  · subst h
    rw [if_pos rfl, if_pos hk, if_pos rfl]
    rfl
  · rw [if_neg h, if_neg (fun e => h e.symm), List.getD_eq_getElem?_getD]
theorem best_set {f : Fl} {es : List En} {k : Nat} {t : Int} (h : Best f es k) (ht : (es.getD k en0).wt ≤ t) : Best f (setE es k t) k := by
  obtain ⟨hk, j, hj, hl⟩ := h
  have hw : nW (es.getD k en0) ≤ nW ({ es.getD k en0 with wt := t }) := by
    unfold nW
    simp only
    omega
  obtain ⟨b, hb, hbl⟩ := least (fun y => -(scE f (es.getD k en0) y)) (nW ({ es.getD k en0 with wt := t })) (by omega)
  refine ⟨by unfold setE; rw [List.length_set]; exact hk, b, by rw [setE_at hk, if_pos rfl]; exact hb, fun x hx y hy => ?_⟩
  rw [setE_at hk] at hy ⊢
  rw [setE_at hk, if_pos rfl]
  have hsc : ∀ y, scE f ({ es.getD k en0 with wt := t }) y = scE f (es.getD k en0) y := fun y => rfl
  rw [hsc]
  by_cases hxk : x = k
  · subst hxk
    rw [if_pos rfl] at hy ⊢
    rw [hsc]
    have := hbl y hy
    unfold leW
    simp only at this ⊢
    omega
  · rw [if_neg hxk] at hy ⊢
    have h1 := hbl j (by omega)
    have h2 := hl x (by unfold setE at hx; rwa [List.length_set] at hx) y hy
    unfold leW at h2 ⊢
    simp only at h1 h2 ⊢
    omega
end Go.Proofs.Ytkacbeighaccjaa
