/- slices.Grow of nil, slices.Concat of two rows. Conditions: the rows came in. -/
import Derived.Test.YtkacbeighaccjaaRdN
import Derived.Test.YtkacbeighaccjaaRow
namespace Go.Proofs.Ytkacbeighaccjaa
open Go Go.RowKit
set_option linter.unusedVariables false
set_option linter.unusedSimpArgs false

theorem grow_c (n : Nat) (w : World) (hn : n ≤ 1048576) :
    Calls Try.prog 57 #[.slice none 0 0, .int .i64 n] w fun e w' => ∃ v', e = .returned v' ∧ w'.ownsRow w.heap.size 3 1 v' 0 [] ∧ Below w.heap.size w w' := by
  obtain ⟨i0, hi0, hz0, hz1, hz2⟩ := info_parts info3
  by_cases h0 : n = 0
  · subst h0
    refine (Any8.slices_Grow_room Try.growI none 0 0 0 w (Nat.le_refl _) (by omega) (by omega) (by omega)).mono ?_
    rintro e w' ⟨rfl, rfl⟩
    exact ⟨_, rfl, ⟨rfl, .inl ⟨rfl, rfl⟩⟩, Below.refl _ _⟩
  · refine (Any8.slices_Grow_grow Try.growI i0 (.int .i64 0) hi0 hz0 (by rw [hz1]; decide) none 0 0 n [] w (Nat.le_refl _) (by omega) (by rw [hz2]; omega) (by omega) (by simp) (fun _ => rfl) (fun a h => by cases h)).mono ?_
    rintro e w' ⟨rfl, rfl⟩
    have hG := grownCap_le_maxLen w (0 + n) 0 3 (by unfold maxLen; omega)
    have hG2 := grownCap_ge w (0 + n) 0 3
    refine ⟨_, rfl, ⟨rfl, .inr ⟨w.heap.size, _, _, rfl, Nat.le_refl _, heap_alloc_new w.drew _, Nat.zero_le _, hG, ?_, by simp⟩⟩, bl_al (Below.refl _ _).drew _⟩
    simp only [Array.size_append, size_zeroCells]
    change 0 + (0 + n - 0) * 1 + (grownCap w (0 + n) 0 3 - (0 + n)) * 1 = grownCap w (0 + n) 0 3 * 1
    omega
set_option maxRecDepth 100000 in
set_option maxHeartbeats 4000000 in
theorem concat_c (l1 l2 : List Int) (a1 a2 : Option Addr) (b n1 c1 n2 c2 : Nat) (w : World) (h0 : w.cell? ⟨b, 0, none⟩ = some (.slice a1 n1 c1)) (h1 : w.cell? ⟨b, 1, none⟩ = some (.slice a2 n2 c2)) (I1 : InI w a1 n1 c1 l1) (I2 : InI w a2 n2 c2 l2) (hn1 : n1 ≤ 64) (hn2 : n2 ≤ 64) :
    Calls Try.prog 35 #[.slice (some ⟨b, 0, none⟩) 2 2] w fun e w' => ∃ v', e = .returned v' ∧ w'.ownsRow w.heap.size 3 1 v' (n1 + n2) (i64s (l1 ++ l2)) ∧ Below w.heap.size w w' := by
  obtain ⟨i0, hi0, hz0, hz1, hz2⟩ := info_parts info3
  have CG := Lib.hid (grow_c (n1 + n2) w (by omega))
  rw [show ((n1 + n2 : Nat) : Int) = (n1 : Int) + (n2 : Int) by omega] at CG
  have H1 := Lib.hid I1
  have H2 := Lib.hid I2
  have HC := Lib.hid (And.intro h0 h1)
  have p1 : ¬ (n1 : Int) < 0 := by omega
  have p2 : ¬ (n1 : Int) + (n2 : Int) < 0 := by omega
  have HL1 : Hid ((i64s l1).length = n1 * 1) := Lib.hid (by rw [i64s_len, I1.len]; omega)
  have HL2 : Hid ((i64s l2).length = n2 * 1) := Lib.hid (by rw [i64s_len, I2.len]; omega)
  clear I1 I2
  go_enter Try.func35, Try.ntmps35
  go_wp2
  refine wp_loop_rounds 3 ?_
  rw [rounds_succ]
  go_wp2
  rw [rounds_succ]
  go_wp2
  rw [rounds_succ]
  go_wp2_with fail
  refine CG.out.mono ?_
  rintro e w1 ⟨v1, rfl, ho1, hb1⟩
  have HB1 := Lib.hid hb1
  have HO1 := Lib.hid ho1
  have d0 := (hb1.cell (p := ⟨b, 0, none⟩) (block_lt_of_cell HC.out.1)).trans HC.out.1
  have d1 := (hb1.cell (p := ⟨b, 1, none⟩) (block_lt_of_cell HC.out.2)).trans HC.out.2
  have J1 := Lib.hid (H1.out.below hb1)
  clear hb1 ho1 CG h0 h1
  go_wp2
  refine wp_loop_rounds 3 ?_
  rw [rounds_succ]
  go_wp2_with (at_builtin; refine append_any rfl _ _ 22 rfl w.heap.size 3 i0 (.int .i64 0) 1 8 Try.underlying22 hi0 hz0 hz1 hz2 rfl (by decide) _ _ _ rfl HO1.out a1 n1 c1 (i64s l1) rfl J1.out.zero HL1.out J1.out.cells (i64s_one _) ?c1 ?c2 ?c3 ?_)
  case c1 => unfold maxLen; omega
  case c2 => omega
  case c3 => exact HB1.out.size
  intro v2 w2 ho2 hg2
  have HB2 := Lib.hid (HB1.out.grown hg2 HB1.out.size (fun k hk => own_block HO1.out hk))
  have HO2 := Lib.hid ho2
  have e1 := (HB2.out.cell (p := ⟨b, 1, none⟩) (block_lt_of_cell HC.out.2)).trans HC.out.2
  have J2 := Lib.hid (H2.out.below HB2.out)
  clear ho2 hg2 HB1 HO1 J1 d0 d1
  go_wp2
  rw [rounds_succ]
  go_wp2_with (at_builtin; refine append_any rfl _ _ 22 rfl w.heap.size 3 i0 (.int .i64 0) 1 8 Try.underlying22 hi0 hz0 hz1 hz2 rfl (by decide) _ _ _ rfl HO2.out a2 n2 c2 (i64s l2) rfl J2.out.zero HL2.out J2.out.cells (i64s_one _) ?d1 ?d2 ?d3 ?_)
  case d1 => unfold maxLen; omega
  case d2 => omega
  case d3 => exact HB2.out.size
  intro v3 w3 ho3 hg3
  have HB3 := Lib.hid (HB2.out.grown hg3 HB2.out.size (fun k hk => own_block HO2.out hk))
  rw [i64s_app] at ho3
  have HO3 := Lib.hid ho3
  clear ho3 hg3 HB2 HO2 J2 e1
  go_wp2
  rw [rounds_succ]
  go_wp2
  go_ret
  exact ⟨v3, rfl, HO3.out, HB3.out⟩
end Go.Proofs.Ytkacbeighaccjaa
