/- Plain: keys 0, 1, .. set at given times. No conditions but those stated. -/
import Derived.Test.YthoegmcdohppoaaWkB
namespace Go.Proofs.Ythoegmcdohppoaa
set_option linter.unusedVariables false
set_option linter.unusedSimpArgs false

def addT (l : List Int) : Nat → List Wy
  | 0 => []
  | j + 1 => if OkA (l.getD j 0) then putT (l.getD j 0) (addT l j) j else addT l j
theorem addT_mem {l : List Int} : ∀ {j : Nat} {t : Wy}, t ∈ addT l j ↔ ∃ i : Nat, i < j ∧ OkA (l.getD i 0) ∧ t = (l.getD i 0, (i : Int))
  | 0, t => by simp [addT]
  | j + 1, t => by
    have ih := @addT_mem l j
    have e : addT l (j + 1) = if OkA (l.getD j 0) then putT (l.getD j 0) (addT l j) j else addT l j := rfl
    rw [e]
    by_cases h : OkA (l.getD j 0)
    · rw [if_pos h]
      unfold putT cutT
      rw [List.mem_append, List.mem_filter, List.mem_singleton, ih]
      constructor
      · rintro (⟨⟨i, hi, h1, h2⟩, _⟩ | h2)
        · exact ⟨i, by omega, h1, h2⟩
        · exact ⟨j, by omega, h, h2⟩
      · rintro ⟨i, hi, h1, h2⟩
        by_cases hj : i = j
        · subst hj; exact .inr h2
        · refine .inl ⟨⟨i, by omega, h1, h2⟩, ?_⟩
          rw [h2]
          simp only [bne_iff_ne, ne_eq]
          omega
    · rw [if_neg h, ih]
      constructor
      · rintro ⟨i, hi, h1, h2⟩; exact ⟨i, by omega, h1, h2⟩
      · rintro ⟨i, hi, h1, h2⟩
        by_cases hj : i = j
        · subst hj; exact absurd h1 h
        · exact ⟨i, by omega, h1, h2⟩
theorem addT_key {l : List Int} : ∀ {j : Nat}, KeyT (addT l j)
  | 0 => by unfold KeyT addT; exact List.nodup_nil
  | j + 1 => by
    have e : addT l (j + 1) = if OkA (l.getD j 0) then putT (l.getD j 0) (addT l j) j else addT l j := rfl
    rw [e]
    split
    · exact addT_key.put _ _
    · exact addT_key
theorem addT_len {l : List Int} : ∀ {j : Nat}, (addT l j).length ≤ j
  | 0 => by simp [addT]
  | j + 1 => by
    have ih := @addT_len l j
    have e : addT l (j + 1) = if OkA (l.getD j 0) then putT (l.getD j 0) (addT l j) j else addT l j := rfl
    rw [e]
    split
    · unfold putT cutT
      rw [List.length_append]
      have := List.length_filter_le (fun t : Wy => t.2 != (j : Int)) (addT l j)
      simp only [List.length_cons, List.length_nil]
      omega
    · omega
theorem addT_set (l : List Int) (j : Nat) : setR (l.getD j 0) [(j : Int)] (addT l j) = ((if OkA (l.getD j 0) then 0 else 4), addT l (j + 1)) := by
  have e : addT l (j + 1) = if OkA (l.getD j 0) then putT (l.getD j 0) (addT l j) j else addT l j := rfl
  rw [e]
  unfold setR
  split <;> rfl
theorem addT_no {l : List Int} {j : Nat} (h : ¬ OkA (l.getD j 0)) : addT l (j + 1) = addT l j := by
  have e : addT l (j + 1) = if OkA (l.getD j 0) then putT (l.getD j 0) (addT l j) j else addT l j := rfl
  rw [e, if_neg h]
theorem next_iff {ts : List Wy} {a : Int} : nextT ts = some a ↔ (∃ k, (a, k) ∈ ts) ∧ ∀ t ∈ ts, a ≤ t.1 := by
  refine ⟨nextT_some, fun ⟨⟨k, hk⟩, hl⟩ => ?_⟩
  cases e : nextT ts with
  | none => rw [nextT_none.1 e] at hk; cases hk
  | some b =>
    obtain ⟨⟨k2, h1⟩, h2⟩ := nextT_some e
    have h3 := hl _ h1
    have h4 := h2 _ hk
    simp only at h3 h4
    rw [show b = a by omega]
theorem addT_first {l : List Int} {j : Nat} (h : OkA (l.getD j 0)) (hn : nextT (addT l j) = none) : nextT (addT l (j + 1)) = some (l.getD j 0) := by
  have h0 := nextT_none.1 hn
  refine next_iff.2 ⟨⟨j, addT_mem.2 ⟨j, by omega, h, rfl⟩⟩, fun t ht => ?_⟩
  obtain ⟨i, hi, h1, h2⟩ := addT_mem.1 ht
  by_cases hj : i = j
  · rw [h2, hj]; exact Int.le_refl _
  · have : t ∈ addT l j := addT_mem.2 ⟨i, by omega, h1, h2⟩
    rw [h0] at this
    cases this
theorem addT_less {l : List Int} {j : Nat} {b : Int} (h : OkA (l.getD j 0)) (hn : nextT (addT l j) = some b) (hb : l.getD j 0 < b) : nextT (addT l (j + 1)) = some (l.getD j 0) := by
  obtain ⟨_, h0⟩ := nextT_some hn
  refine next_iff.2 ⟨⟨j, addT_mem.2 ⟨j, by omega, h, rfl⟩⟩, fun t ht => ?_⟩
  obtain ⟨i, hi, h1, h2⟩ := addT_mem.1 ht
  by_cases hj : i = j
  · rw [h2, hj]; exact Int.le_refl _
  · have := h0 t (addT_mem.2 ⟨i, by omega, h1, h2⟩)
    omega
theorem addT_more {l : List Int} {j : Nat} {b : Int} (h : OkA (l.getD j 0)) (hn : nextT (addT l j) = some b) (hb : ¬ l.getD j 0 < b) : nextT (addT l (j + 1)) = some b := by
  obtain ⟨⟨k, hk⟩, h0⟩ := nextT_some hn
  obtain ⟨i, hi, h1, h2⟩ := addT_mem.1 hk
  refine next_iff.2 ⟨⟨k, addT_mem.2 ⟨i, by omega, h1, h2⟩⟩, fun t ht => ?_⟩
  obtain ⟨i, hi, h1, h2⟩ := addT_mem.1 ht
  by_cases hj : i = j
  · rw [h2, hj]; simp only; omega
  · exact h0 t (addT_mem.2 ⟨i, by omega, h1, h2⟩)
theorem left_next {ts : List Wy} {now n : Int} (h : nextT (leftT now ts) = some n) : now < n := by
  obtain ⟨⟨k, hk⟩, _⟩ := nextT_some h
  unfold leftT at hk
  have := (List.mem_filter.1 hk).2
  simp at this
  exact this
theorem next_pos {ts : List Wy} : (nextT ts).isSome = decide (0 < ((ts.length : Nat) : Int)) := by
  cases e : nextT ts with
  | none => rw [nextT_none.1 e]; rfl
  | some a =>
    have : ts ≠ [] := fun h => by rw [nextT_none.2 h] at e; cases e
    have := List.length_pos_iff.2 this
    simp
    omega
end Go.Proofs.Ythoegmcdohppoaa
