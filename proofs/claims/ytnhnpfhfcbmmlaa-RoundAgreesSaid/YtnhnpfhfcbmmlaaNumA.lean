/- Contracts of towpathnum's Copy and Kept: a row with two marks behind it; that it is still the same. Conditions: the row came in; at most 2^47 - 4096 bytes. -/
import Derived.Test.YtnhnpfhfcbmmlaaRow
import Derived.Laws.BytesArg
namespace Go.Proofs.Ytnhnpfhfcbmmlaa
open Go Go.RowKit
set_option linter.unusedVariables false
set_option linter.unusedSimpArgs false

theorem str_of {w : World} {a : Option Addr} {n cap : Nat} {l : List Int} (h : At w (.slice a n cap) l) (hn : l.length = n) : (convert 26 9 (.slice a n cap)).run Try.prog w = .ok (.string (strOfNums l)) w := by
  obtain ⟨a', cap', e, hA⟩ := h
  cases e
  rcases hA with rfl | ⟨b, off, rfl, hc⟩
  · cases a with
    | none =>
      rw [run_convert_bytes_nil w 26 5 Try.underlying26 Try.underlying5 _ _ 9 Try.underlying9]
      rfl
    | some ad =>
      rw [run_convert_bytes_string w 26 9 5 _ _ _ Try.underlying26 Try.underlying5 Try.underlying9, run_bytesToString w ad _ cap [] (by simp [go_sem, loadCells, loadCellsFrom])]
      rfl
  · exact run_convert_bytes_arg w 26 5 Try.underlying26 Try.underlying5 b off _ _ l rfl hc 9 Try.underlying9

set_option maxRecDepth 100000 in
theorem copy_any (l : List Int) (a : Option Addr) (n cap : Nat) (w : World) (hA : In w a n cap l) (hn : n ≤ 140737488351232) :
    Calls Try.prog 26 #[.slice a n cap] w fun e w' => ∃ g, e = .returned (.slice (some ⟨g, 0, none⟩) n (n + 2)) ∧ Own w' w.heap.size g (n + 2) (n + 2) (l ++ [165, 90]) ∧ Below w.heap.size w w' := by
  obtain ⟨i0, hi0, hz0, hz1, hz2⟩ := info_parts info5
  have HA := Lib.hid hA
  clear hA
  go_enter Try.func26, Try.ntmps26
  go_wp2_with (first | (refine wpList_make_own w rfl _ _ 26 rfl w.heap.size 5 i0 (.int .u8 0) 1 Try.underlying26 hi0 hz0 hz1 .i64 .i64 ((n : Int) + 2) (n + 2) rfl rfl (by omega) (by rw [hz2]; omega) (by unfold maxLen; omega) (Nat.le_refl _) ?_))
  intro w1 hown1 hg1
  have HB1 := Lib.hid ((Below.refl w.heap.size w).grown hg1 (Nat.le_refl _) (fun k hk => by cases hk))
  have HA1 := Lib.hid (HA.out.below HB1.out)
  clear hg1
  go_wp2_with (first | (at_builtin; refine wpList_append_fits_any w1 rfl (.tmp 6) (.tmp 7) 26 rfl w.heap.size 5 i0 1 Try.underlying26 hi0 hz1 w.heap.size 0 (n + 2) [] rfl hown1 a n cap (u8s l) rfl ?c1 HA1.out.zero HA1.out.cells (u8s_one l) ?c2 ?_))
  case c1 => unfold u8s; rw [List.length_map, HA1.out.len]; omega
  case c2 => omega
  intro w2 hown2 hg2
  have HB2 := Lib.hid (HB1.out.grown hg2 HB1.out.size (fun k hk => by cases hk; exact Nat.le_refl _))
  have HO2 := Lib.hid hown2
  have hs2 := HB2.out.size
  clear hown1 hg2 HA1 HB1
  go_wp2_with (first | (at_builtin; refine wpList_append_fits _ rfl (.tmp 8) (.tmp 9) 26 rfl w.heap.size 5 i0 1 Try.underlying26 hi0 hz1 w.heap.size n (n + 2) (u8s l) rfl (HO2.out.alloc _) ⟨w2.heap.size, 0, none⟩ 2 2 [.int .u8 165, .int .u8 90] rfl rfl (cell_two_new w2 _ _ _) ?c3 ?c4 ?_))
  case c3 => intro u hu; simp at hu; rcases hu with rfl | rfl <;> rfl
  case c4 => omega
  intro w3 hown3 hg3
  have HB3 := Lib.hid ((HB2.out.alloc hs2 (.cells #[.int .u8 165, .int .u8 90] 5)).grown hg3 (by simp; omega) (fun k hk => by cases hk; exact Nat.le_refl _))
  have HO3 := Lib.hid hown3
  clear hown2 hown3 hg3 HO2 HB2
  go_wp2
  go_ret
  exact ⟨_, rfl, ⟨by have := HO3.out; rw [show ([Value.int .u8 165, Value.int .u8 90]) = u8s [165, 90] from rfl, u8s_app] at this; exact this, by rw [List.length_append, HA.out.len]; rfl, Nat.le_refl _⟩, HB3.out⟩

/-- A copy with its two marks. -/
def Marked (w : World) (g n : Nat) (l : List Int) : Prop := (∀ j, j < n → w.cell? ⟨g, 0 + j, none⟩ = some (.int .u8 (l.getD j 0))) ∧ w.cell? ⟨g, n, none⟩ = some (.int .u8 165) ∧ w.cell? ⟨g, n + 1, none⟩ = some (.int .u8 90)
theorem Own.marked {w : World} {B g n : Nat} {l : List Int} (h : Own w B g (n + 2) (n + 2) (l ++ [165, 90])) (hn : l.length = n) : Marked w g n l := by
  have hc := fun j (hj : j < n + 2) => (h.1.cellAt j (by omega)).trans (u8s_at (l := l ++ [165, 90]) (j := j) (by rw [List.length_append, hn]; exact hj))
  subst hn
  refine ⟨fun j hj => ?_, ?_, ?_⟩
  · rw [Nat.zero_add, hc j (by omega), List.getD_eq_getElem?_getD, List.getElem?_append_left hj, ← List.getD_eq_getElem?_getD]
  · rw [hc l.length (by omega), List.getD_eq_getElem?_getD, List.getElem?_append_right (Nat.le_refl _), Nat.sub_self]
    rfl
  · rw [hc (l.length + 1) (by omega), List.getD_eq_getElem?_getD, List.getElem?_append_right (by omega), show l.length + 1 - l.length = 1 by omega]
    rfl
theorem Marked.below {w w' : World} {g n : Nat} {l : List Int} (h : Marked w g n l) (hb : Below w.heap.size w w') : Marked w' g n l :=
  ⟨fun j hj => cell_later hb (h.1 j hj), cell_later hb h.2.1, cell_later hb h.2.2⟩
theorem Marked.at {w : World} {g n cap : Nat} {l : List Int} (h : Marked w g n l) (hn : l.length = n) : At w (.slice (some ⟨g, 0, none⟩) n cap) l := by
  subst hn
  exact ⟨_, cap, rfl, .inr ⟨g, 0, rfl, h.1⟩⟩

set_option maxRecDepth 100000 in
theorem kept_any (l : List Int) (a : Option Addr) (n cap g : Nat) (w : World) (hA : In w a n cap l) (hM : Marked w g n l) (hn : n ≤ 140737488351232) :
    Calls Try.prog 28 #[.slice (some ⟨g, 0, none⟩) n (n + 2), .slice a n cap] w fun e w' => e = .returned (.bool true) ∧ Below w.heap.size w w' := by
  have s1 := str_of (hM.at (cap := n + 2) hA.len) hA.len
  have s2 := str_of hA.here hA.len
  obtain ⟨s, hs⟩ : ∃ s, s = strOfNums l := ⟨_, rfl⟩
  rw [← hs] at s1 s2
  have c1 := hM.2.1
  have c2 := hM.2.2
  clear hA hM hs
  go_enter Try.func28, Try.ntmps28
  go_wp2
  go_ret
  exact ⟨rfl, Below.refl _ _⟩
end Go.Proofs.Ytnhnpfhfcbmmlaa
