/- Go library functions on rows of numbers of the call's own. Conditions: as each states. -/
import Derived.Test.YtkacbeighaccjaaShf
import Derived.Test.YtkacbeighaccjaaRdM
import Derived.Test.YtkacbeighaccjaaRdE
import Derived.Lib.OwnBridge
import Derived.Sort.OwnSortedInts
namespace Go.Proofs.Ytkacbeighaccjaa
open Go Go.RowKit
set_option linter.unusedVariables false
set_option linter.unusedSimpArgs false

theorem i64s_len (l : List Int) : (i64s l).length = l.length := by unfold i64s; simp
theorem inI_at {w : World} {b off n c : Nat} {l : List Int} (h : InI w (some ⟨b, off, none⟩) n c l) : ∀ j, j < l.length → w.cell? ⟨b, off + j, none⟩ = some (.int .i64 (l.getD j 0)) := fun j hj => in_cellI h j (by have := h.len; omega)
theorem clone_c (l : List Int) (a : Option Addr) (n c : Nat) (w : World) (hI : InI w a n c l) (hn : n ≤ 1048576) :
    Calls Try.prog 31 #[.slice a n c] w fun e w' => ∃ v', e = .returned v' ∧ w'.ownsRow w.heap.size 3 1 v' n (i64s l) ∧ Below w.heap.size w w' := by
  cases a with
  | none =>
    have hz := hI.zero rfl
    have hl := hI.len
    have h0 : l = [] := List.eq_nil_of_length_eq_zero (by omega)
    refine (Try.slices_Clone_int_nil n c w).mono ?_
    rintro e w' ⟨rfl, rfl⟩
    exact ⟨_, rfl, ⟨by rw [h0, hz.1]; rfl, .inl ⟨rfl, hz.1⟩⟩, Below.refl _ _⟩
  | some ad =>
    by_cases h0 : n = 0
    · subst h0
      have hl : l = [] := List.eq_nil_of_length_eq_zero hI.len
      refine (Try.slices_Clone_int_zero ad c w).mono ?_
      rintro e w' ⟨v', rfl, ho, _, hb⟩
      exact ⟨v', rfl, by rw [hl]; exact ho, hb⟩
    · obtain ⟨b, off, hab⟩ := in_blockI hI (by omega)
      cases hab
      refine (Try.slices_Clone_int b off n c l w (by have := hI.len; omega) (by omega) (inI_at hI)).mono ?_
      rintro e w' ⟨v', rfl, ho, _, hb⟩
      rw [List.take_of_length_le (by have := hI.len; omega)] at ho
      exact ⟨v', rfl, ho, hb⟩
theorem merge_srt (l : List Int) : (l.mergeSort fun x y => decide (x ≤ y)) = srtI l := by
  refine sortedI_one ?_ (srtI_sorted l) ((List.mergeSort_perm l _).trans (srtI_perm l).symm)
  have h := List.pairwise_mergeSort (le := fun x y : Int => decide (x ≤ y)) (fun a b c h1 h2 => by simp at *; omega) (fun a b => by simp; omega) l
  exact h.imp (fun h => by simpa using h)
theorem sort_c (l : List Int) (v : Value) (n B : Nat) (w : World) (h : w.ownsRow B 3 1 v n (i64s l)) (hB : B ≤ w.heap.size) (hn : n ≤ 1048576) :
    Calls Try.prog 32 #[v] w fun e w' => e = .returned (.tuple #[]) ∧ w'.ownsRow B 3 1 v n (i64s (srtI l)) ∧ Below B w w' := by
  have hl : l.length = n := by have := h.1; rw [i64s_len] at this; omega
  rcases h.2 with ⟨e0, h0⟩ | ⟨g, cap, cur, rfl, hb, hg, h1, h2, h3, h4⟩
  · subst e0
    subst h0
    have hl0 : l = [] := List.eq_nil_of_length_eq_zero hl
    refine (Try.slices_Sort_int_none none 0 w).mono ?_
    rintro e w' ⟨rfl, rfl⟩
    exact ⟨rfl, by rw [hl0] at h ⊢; exact h, Below.refl _ _⟩
  · subst hl
    have hc := Try.slices_Sort_int g 0 cap l w (holds_of_blockI hg (by rw [Nat.mul_one] at h4; exact h4)) (lt_of_block hg) (by omega)
    refine hc.mono ?_
    rintro e w' ⟨rfl, q, os, rfl⟩
    rw [merge_srt]
    exact ⟨rfl, ownsRow_sortedI (srtI_len l) hb hg h1 h2 h3, (Below.refl B w).grown (grownBy_sortedI _) hB (fun k hk => by cases hk; exact hb)⟩
theorem contains_c (l : List Int) (x : Int) (a : Option Addr) (n c : Nat) (w : World) (hI : InI w a n c l) (hn : n ≤ 1048576) :
    Calls Try.prog 41 #[.slice a n c, .int .i64 x] w fun e w' => e = .returned (.bool (l.contains x)) ∧ w' = w := by
  by_cases h0 : n = 0
  · subst h0
    have hl : l = [] := List.eq_nil_of_length_eq_zero hI.len
    rw [hl]
    exact Try.slices_Contains_int_empty a c x w
  · obtain ⟨b, off, hab⟩ := in_blockI hI (by omega)
    cases hab
    have h := Try.slices_Contains_int b off n c l x w (by have := hI.len; omega) (by omega) (inI_at hI)
    rwa [List.take_of_length_le (by have := hI.len; omega)] at h
theorem search_c (l : List Int) (x : Int) (a : Option Addr) (n c : Nat) (w : World) (hI : InI w a n c l) (hn : n ≤ 1048576) (hs : l.Pairwise (· ≤ ·)) :
    Calls Try.prog 36 #[.slice a n c, .int .i64 x] w fun e w' => e = .returned (.tuple #[.int .i64 ((l.countP (· < x) : Nat) : Int), .bool (l.contains x)]) ∧ ∃ q, w' = w.drewN q := by
  by_cases h0 : n = 0
  · subst h0
    have hl : l = [] := List.eq_nil_of_length_eq_zero hI.len
    rw [hl]
    exact (Try.slices_BinarySearch_int_empty a c x w).mono (fun e w' h => ⟨h.1, 0, h.2⟩)
  · obtain ⟨b, off, hab⟩ := in_blockI hI (by omega)
    cases hab
    have ht : l.take n = l := List.take_of_length_le (by have := hI.len; omega)
    have h := Try.slices_BinarySearch_int b off n c l x w (by have := hI.len; omega) (by omega) (inI_at hI) (by rw [ht]; exact hs)
    rwa [ht] at h
theorem delete_c (l : List Int) (v : Value) (n i B : Nat) (w : World) (h : w.ownsRow B 3 1 v n (i64s l)) (hB : B ≤ w.heap.size) (hi : i < n) :
    Calls Try.prog 37 #[v, .int .i64 i, .int .i64 ((i : Int) + 1)] w fun e w' => ∃ v', e = .returned v' ∧ w'.ownsRow B 3 1 v' (n - 1) (i64s (l.eraseIdx i)) ∧ Below B w w' := by
  have hl : l.length = n := by have := h.1; rw [i64s_len] at this; omega
  rcases h.2 with ⟨e0, h0⟩ | ⟨g, cap, cur, rfl, hb, hg, h1, h2, h3, h4⟩
  · omega
  · subst hl
    have hc := Try.slices_Delete_int g 0 cap i (i + 1) l w (holds_of_blockI hg (by rw [Nat.mul_one] at h4; exact h4)) h1 (by unfold maxLen at h2; omega) (by omega) (by omega)
    rw [show ((i + 1 : Nat) : Int) = (i : Int) + 1 by omega] at hc
    refine hc.mono ?_
    rintro e w' ⟨rfl, q, rfl⟩
    have e1 : l.length - (i + 1 - i) = l.length - 1 := by omega
    refine ⟨_, by rw [e1], ?_, ?_⟩
    · have h5 := Lib.ownsRow_putRow (q := q) (k := l.length - 1) (ys := l.take i ++ l.drop (i + 1) ++ List.replicate (i + 1 - i) 0) (enc := Value.int .i64) h (by simp; omega) (by omega)
      have e2 : (l.take i ++ l.drop (i + 1) ++ List.replicate (i + 1 - i) 0).take (l.length - 1) = l.eraseIdx i := by
        rw [List.eraseIdx_eq_take_drop_succ, List.take_left' (by simp; omega)]
      rw [e2] at h5
      exact h5
    · refine ⟨rfl, rfl, rfl, ?_, fun k hk => ?_⟩
      · simp
      · have hne : g ≠ k := by omega
        simp [Sort.putRow, Sort.mapBlock, Sort.ahead, Array.getElem?_modify, hne]
/-- A number taken out of rising ones. -/
theorem erase_is : ∀ {l : List Int} {x : Int}, l.Pairwise (· ≤ ·) → l.Nodup → x ∈ l → l.countP (· < x) < l.length ∧ l.eraseIdx (l.countP (· < x)) = l.filter (· != x)
  | [], x, _, _, h => by simp at h
  | y :: l, x, hs, hn, h => by
    have hs' := List.pairwise_cons.1 hs
    have hn' := List.nodup_cons.1 hn
    rcases List.mem_cons.1 h with e | hm
    · subst e
      have h0 : l.countP (· < x) = 0 := List.countP_eq_zero.2 (fun a ha => by have := hs'.1 a ha; simp; omega)
      rw [List.countP_cons_of_neg (by simp), h0]
      refine ⟨by simp, ?_⟩
      rw [List.eraseIdx_zero, List.tail_cons, List.filter_cons_of_neg (by simp)]
      exact (List.filter_eq_self.2 (fun a ha => by
        have : a ≠ x := fun e => hn'.1 (e ▸ ha)
        simpa using this)).symm
    · have hy : y < x := by
        have h1 := hs'.1 x hm
        have h2 : y ≠ x := fun e => hn'.1 (e ▸ hm)
        omega
      have ih := erase_is hs'.2 hn'.2 hm
      rw [List.countP_cons_of_pos (by simpa using hy)]
      refine ⟨by simp only [List.length_cons]; omega, ?_⟩
      rw [List.eraseIdx_cons_succ, ih.2, List.filter_cons_of_pos (by simp; omega)]
end Go.Proofs.Ytkacbeighaccjaa
