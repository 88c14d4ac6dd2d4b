/- Plain facts for the choice that stays: a remainder, a weight put, what is chosen then. No conditions but those stated. -/
import Derived.Test.YtkacbeighaccjaaRgY
import Derived.Test.YtkacbeighaccjaaQStB
namespace Go.Proofs.Ytkacbeighaccjaa
open Go Go.RowKit
set_option linter.unusedVariables false
set_option linter.unusedSimpArgs false

theorem u64_range (x : Int) : 0 ≤ IntKind.u64.wrap x ∧ IntKind.u64.wrap x < 18446744073709551616 := by
  simp [IntKind.wrap, IntKind.bits, IntKind.signed]
  omega
theorem rem_at (x : Int) {n : Nat} (h0 : 0 < n) (hn : n ≤ 1000) : ∃ i : Nat, i < n ∧ wrap64 ((IntKind.u64.wrap x).tmod (n : Int)) = (i : Int) := by
  obtain ⟨u, hu⟩ : ∃ u, u = IntKind.u64.wrap x := ⟨_, rfl⟩
  have h := u64_range x
  rw [← hu] at h ⊢
  rw [Int.tmod_eq_emod_of_nonneg h.1]
  have h1 := Int.emod_nonneg u (show (n : Int) ≠ 0 by omega)
  have h2 := Int.emod_lt_of_pos u (show (0 : Int) < n by omega)
  exact ⟨(u % (n : Int)).toNat, by omega, by unfold wrap64; omega⟩
theorem getD_of_lt {es : List En} {i : Nat} (h : i < es.length) : es.getD i en0 = es[i] := by
  rw [List.getD_eq_getElem?_getD, List.getElem?_eq_getElem h]; rfl
theorem dip_apart {es : List En} (hn : (es.map (·.dip)).Nodup) {i m : Nat} (hi : i < es.length) (hm : m < es.length) (hne : i ≠ m) : (es.getD i en0).dip ≠ (es.getD m en0).dip := by
  intro e
  rw [getD_of_lt hi, getD_of_lt hm] at e
  rw [List.Nodup, List.pairwise_iff_getElem] at hn
  rcases Nat.lt_or_gt_of_ne hne with h | h
  · exact hn i m (by simpa using hi) (by simpa using hm) h (by simpa using e)
  · exact hn m i (by simpa using hm) (by simpa using hi) h (by simpa using e.symm)
theorem stay_cut {f : Fl} {es : List En} {m i : Nat} (h : Best f es m) (hi : i < es.length) (hne : i ≠ m) {k : Int} (hk : Chosen f (cutE es i) k) : 0 ≤ k ∧ eOf (cutE es i) k = es.getD m en0 := by
  obtain ⟨h1, h2⟩ := best_cut h hi hne
  obtain ⟨x, hx⟩ : ∃ x, x = (if m < i then m else m - 1) := ⟨_, rfl⟩
  rw [← hx] at h1 h2
  have hkx : k = (x : Int) := Chosen.one hk (best_iff.2 h1)
  subst hkx
  exact ⟨by omega, by rw [eOf_at]; exact h2⟩
theorem stay_set {f : Fl} {es : List En} {m : Nat} {t : Int} (h : Best f es m) (ht : (es.getD m en0).wt ≤ t) {k : Int} (hk : Chosen f (setE es m t) k) : 0 ≤ k ∧ (eOf (setE es m t) k).dip = (es.getD m en0).dip := by
  have h1 := best_set h ht
  have hkm : k = (m : Int) := Chosen.one hk (best_iff.2 h1)
  subst hkm
  refine ⟨by omega, ?_⟩
  rw [eOf_at, setE_at h.1, if_pos rfl]
theorem cellsE_cons (e : En) (es : List En) : cellsE (e :: es) = e.cs ++ cellsE es := rfl
theorem set_cells : ∀ {es : List En} {m : Nat} (t : Int), m < es.length → (cellsE es).set (m * 3 + 2) (.int .i64 t) = cellsE (setE es m t)
  | [], m, t, h => by simp at h
  | e :: es, 0, t, _ => by
    unfold setE
    rw [List.set_cons_zero, cellsE_cons, cellsE_cons]
    simp [En.cs]
  | e :: es, m + 1, t, h => by
    have ih := set_cells (es := es) (m := m) t (by simpa using h)
    unfold setE at ih ⊢
    rw [List.set_cons_succ, cellsE_cons, cellsE_cons, List.getD_cons_succ, ← ih, List.set_append_right _ _ (by simp [En.cs]; omega)]
    congr 2
    simp [En.cs]
    omega
theorem setE_len (es : List En) (m : Nat) (t : Int) : (setE es m t).length = es.length := by unfold setE; rw [List.length_set]
theorem setE_typ {es : List En} {m : Nat} {t : Int} (h : ∀ e ∈ es, TyEn e) (ht : -9223372036854775808 ≤ t ∧ t ≤ 9223372036854775807) (hm : m < es.length) : ∀ e ∈ setE es m t, TyEn e := by
  intro e he
  unfold setE at he
  rcases List.mem_or_eq_of_mem_set he with h1 | h1
  · exact h e h1
  · rw [h1]
    have h2 := h _ (memE hm)
    exact ⟨h2.1, h2.2.1, ht⟩
theorem cutE_typ {es : List En} {i : Nat} (h : ∀ e ∈ es, TyEn e) : ∀ e ∈ cutE es i, TyEn e := by
  intro e he
  unfold cutE at he
  rcases List.mem_append.1 he with h1 | h1
  · exact h e (List.mem_of_mem_take h1)
  · exact h e (List.mem_of_mem_drop h1)
/-- A row of ends of the call's own, one weight put. -/
theorem own_putE {w : World} {B g cap n m : Nat} {es : List En} (h : w.ownsRow B tyE 3 (.slice (some ⟨g, 0, none⟩) n cap) n (cellsE es)) (hm : m < n) (hl : es.length = n) (t : Int) :
    (w.setCell ⟨g, m * 3 + 2, none⟩ (.int .i64 t)).ownsRow B tyE 3 (.slice (some ⟨g, 0, none⟩) n cap) n (cellsE (setE es m t)) := by
  have h1 := (h.stored (m * 3 + 2) (.int .i64 t)).1
  rwa [set_cells t (by omega)] at h1
theorem own_frozen {w : World} {B g cap n size : Nat} {e : TypeId} {xs : List Value} (h : w.ownsRow B e size (.slice (some ⟨g, 0, none⟩) n cap) n xs) (j : Nat) : w.frozen? ⟨g, j, none⟩ = false := by
  rcases h.2 with ⟨e0, _⟩ | ⟨g', cap', cur, e0, _, hg, _⟩
  · cases e0
  · cases e0
    exact frozen_of_row w g j _ _ hg
end Go.Proofs.Ytkacbeighaccjaa
