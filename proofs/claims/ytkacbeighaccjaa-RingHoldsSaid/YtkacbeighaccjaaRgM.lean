/- Contracts of the statements' mine and kept, of towpathnum's Num. Conditions: the rows came in, of at most 2^44 numbers. -/
import Derived.Test.YtkacbeighaccjaaRgF
namespace Go.Proofs.Ytkacbeighaccjaa
open Go Go.RowKit
set_option linter.unusedVariables false
set_option linter.unusedSimpArgs false

abbrev errnoR (n : Int) : Value := .iface 62 (.int .i64 n)
def errR (n : Int) : Value := if n = 0 then .nilIface else errnoR n
theorem numR_t (k : Int) (hk : k = 0 ∨ k = 4 ∨ k = 9) (w : World) : Calls Try.prog 16 #[errR k] w fun e w' => e = .returned (.int .i64 k) ∧ w = w' := by
  rcases hk with rfl | rfl | rfl
  · rw [show errR 0 = Value.nilIface from rfl]
    go_enter Try.func16, Try.ntmps16
    go_wp2
    go_ret
    exact ⟨rfl, rfl⟩
  · have ta : ∀ w : World, (Instr.typeAssert (errnoR 4) 32 62 true).run Try.prog w = .ok (.tuple #[.int .i64 4, .bool true]) w := fun _ => by kernel_rfl
    rw [show errR 4 = errnoR 4 from rfl]
    go_enter Try.func16, Try.ntmps16
    go_wp2
    go_ret
    exact ⟨rfl, rfl⟩
  · have ta : ∀ w : World, (Instr.typeAssert (errnoR 9) 32 62 true).run Try.prog w = .ok (.tuple #[.int .i64 9, .bool true]) w := fun _ => by kernel_rfl
    rw [show errR 9 = errnoR 9 from rfl]
    go_enter Try.func16, Try.ntmps16
    go_wp2
    go_ret
    exact ⟨rfl, rfl⟩
theorem fit_77 {l : List Int} (h : fitI l) : fitI (l ++ [-77]) := fitI_app h (by intro x hx; simp at hx; subst hx; decide)
/-- A row of numbers with its mark. -/
theorem mark_in {w : World} {B g n c : Nat} {l : List Int} (h : w.ownsRow B 3 1 (.slice (some ⟨g, 0, none⟩) (n + 1) c) (n + 1) (i64s (l ++ [-77]))) (hl : l.length = n) (hf : fitI l) :
    InI w (some ⟨g, 0, none⟩) n c l ∧ w.cell? ⟨g, n, none⟩ = some (.int .i64 (-77)) := by
  have h1 := own_inI h (by rw [List.length_append, hl]; rfl) (fit_77 hf)
  constructor
  · have h2 := h1.take n (by omega)
    have e : (l ++ [-77]).take n = l := by rw [← hl, List.take_left]
    rwa [e] at h2
  · have h2 := in_cellI h1 n (by omega)
    rw [Nat.zero_add, List.getD_eq_getElem?_getD, List.getElem?_append_right (by omega), hl, Nat.sub_self] at h2
    exact h2
/-- A copy with its mark. -/
structure MkI (w : World) (g n : Nat) (l : List Int) : Prop where
  row : InI w (some ⟨g, 0, none⟩) n (n + 1) l
  mark : w.cell? ⟨g, n, none⟩ = some (.int .i64 (-77))
theorem MkI.below {w w' : World} {g n : Nat} {l : List Int} (h : MkI w g n l) (hb : Below w.heap.size w w') : MkI w' g n l :=
  ⟨h.row.below hb, (hb.cell (p := ⟨g, n, none⟩) (block_lt_of_cell h.mark)).trans h.mark⟩
set_option maxRecDepth 100000 in
theorem mine_t (l : List Int) (a : Option Addr) (n cap : Nat) (w : World) (hA : InI w a n cap l) (hn : n ≤ 1048576) :
    Calls Try.prog 14 #[.slice a n cap] w fun e w' => ∃ g, e = .returned (.slice (some ⟨g, 0, none⟩) n (n + 1)) ∧ MkI w' g n l ∧ w.heap.size ≤ g ∧ Below w.heap.size w w' := by
  obtain ⟨i0, hi0, hz0, hz1, hz2⟩ := info_parts info3
  have HA := Lib.hid hA
  clear hA
  go_enter Try.func14, Try.ntmps14
  go_wp2_with (first | (refine wpList_make_own w rfl _ _ 22 rfl w.heap.size 3 i0 (.int .i64 0) 1 Try.underlying22 hi0 hz0 hz1 .i64 .i64 ((n : Int) + 1) (n + 1) rfl rfl (by omega) (by rw [hz2]; omega) (by unfold maxLen; omega) (Nat.le_refl _) ?_))
  intro w1 hown1 hg1
  have HB1 := Lib.hid ((Below.refl w.heap.size w).grown hg1 (Nat.le_refl _) (fun k hk => by cases hk))
  have HA1 := Lib.hid (HA.out.below HB1.out)
  clear hg1
  go_wp2_with (first | (at_builtin; refine wpList_append_fits_any w1 rfl (.tmp 6) (.tmp 7) 22 rfl w.heap.size 3 i0 1 Try.underlying22 hi0 hz1 w.heap.size 0 (n + 1) [] rfl hown1 a n cap (i64s l) rfl ?c1 HA1.out.zero HA1.out.cells (i64s_one l) ?c2 ?_))
  case c1 => unfold i64s; rw [List.length_map, HA1.out.len]; omega
  case c2 => omega
  intro w2 hown2 hg2
  have HB2 := Lib.hid (HB1.out.grown hg2 HB1.out.size (fun k hk => by cases hk; exact Nat.le_refl _))
  have HO2 := Lib.hid hown2
  have hs2 := HB2.out.size
  clear hown1 hg2 HA1 HB1
  go_wp2_with (first | (at_builtin; refine wpList_append_fits _ rfl (.tmp 8) (.tmp 9) 22 rfl w.heap.size 3 i0 1 Try.underlying22 hi0 hz1 w.heap.size n (n + 1) (i64s l) rfl (HO2.out.alloc _) ⟨w2.heap.size, 0, none⟩ 1 1 [.int .i64 (-77)] rfl rfl (cell_one_new w2 _ _) ?c3 ?c4 ?_))
  case c3 => intro u hu; simp at hu; subst hu; rfl
  case c4 => omega
  intro w3 hown3 hg3
  have HB3 := Lib.hid ((HB2.out.alloc hs2 (.cells #[.int .i64 (-77)] 3)).grown hg3 (by simp; omega) (fun k hk => by cases hk; exact Nat.le_refl _))
  have HO3 : Hid (MkI w3 w.heap.size n l) := Lib.hid (by
    rw [show ([Value.int .i64 (-77)]) = i64s [-77] from rfl, i64s_app] at hown3
    have h := mark_in hown3 HA.out.len HA.out.fit
    exact ⟨h.1, h.2⟩)
  clear hown2 hown3 hg3 HO2 HB2
  go_wp2
  go_ret
  exact ⟨_, rfl, HO3.out, Nat.le_refl _, HB3.out⟩
set_option maxRecDepth 100000 in
theorem kept_t (l : List Int) (a : Option Addr) (n cap g : Nat) (w : World) (hM : MkI w g n l) (hA : InI w a n cap l) (hn : n ≤ 1048576) :
    Calls Try.prog 22 #[.slice (some ⟨g, 0, none⟩) n (n + 1), .slice a n cap] w fun e w' => e = .returned (.bool true) ∧ Below w.heap.size w w' := by
  have CI := Lib.hid (ints_any l l (some ⟨g, 0, none⟩) a n (n + 1) n cap w hM.row hA (by omega) true (by simp))
  have HM := Lib.hid hM
  have v1 : ∀ [Inhabited Nat], IntKind.i64.wrap ((n : Int) + 1) = (n : Int) + 1 := by intro _; exact IntWalk.i64_in _ (by omega)
  clear hM hA
  go_enter Try.func22, Try.ntmps22
  go_wp2_with fail
  refine CI.out.mono ?_
  rintro e w1 ⟨rfl, hb⟩
  have c := (HM.out.below hb).mark
  have HB := Lib.hid hb
  clear hb CI
  go_wp2
  go_ret
  exact ⟨rfl, HB.out⟩
end Go.Proofs.Ytkacbeighaccjaa
