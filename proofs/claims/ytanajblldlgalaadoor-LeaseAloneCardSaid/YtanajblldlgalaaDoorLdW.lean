/- slices.Grow of nil, slices.Concat of three rows of leases. Conditions: the rows came in. -/
import Derived.Test.YtanajblldlgalaaDoorLdP
import Derived.Lib.AppendZeros
import Derived.Laws.Rows
namespace Go.Proofs.YtanajblldlgalaaDoor
open Go Go.RowKit
set_option linter.unusedVariables false
set_option linter.unusedSimpArgs false

set_option maxRecDepth 100000 in
theorem grow_c (n : Nat) (w : World) (hn : n ≤ 4194304) :
    Calls Tryd.prog 64 #[.slice none 0 0, .int .i64 n] w fun e w' => ∃ v', e = .returned v' ∧ w'.ownsRow w.heap.size tyL 4 v' 0 [] ∧ Below w.heap.size w w' := by
  obtain ⟨i0, hi0, hz0, hz1, hz2⟩ := info_parts infoL
  by_cases h0 : n = 0
  · subst h0
    go_enter Tryd.func64, Tryd.ntmps64
    go_wp2
    go_ret
    exact ⟨_, rfl, ⟨rfl, .inl ⟨rfl, rfl⟩⟩, Below.refl _ _⟩
  · have h1 : ¬ ((n : Int) < 0) := by omega
    have h2 : (0 : Int) < (n : Int) := by omega
    have hrz : ∀ ty, (Builtin.append_ #[22, 3] ty #[.slice none 0 0, .int .i64 (n : Int)]).run Tryd.prog w = .ok (.slice (some ⟨w.heap.size, 0, none⟩) n (grownCap w n 0 tyL)) (w.drew.alloc (.cells (Builtin.zeroCells (.agg #[.int .u32 0, .int .i64 0, .int .u32 0, .int .i64 0] : Value).cells n ++ Builtin.zeroCells (.agg #[.int .u32 0, .int .i64 0, .int .u32 0, .int .i64 0] : Value).cells (grownCap w n 0 tyL - n)) tyL)) := fun ty =>
      Lib.run_append_nil_zeros w 22 3 ty tyL i0 _ .i64 .i64 Tryd.underlying22 Tryd.underlying3 hi0 hz0 n (by omega) (by rw [hz1]; decide) (by omega) (by rw [hz2]; omega)
    have hG := grownCap_le_maxLen w n 0 tyL (by unfold maxLen; omega)
    have hG2 := grownCap_ge w n 0 tyL
    obtain ⟨G, eG⟩ : ∃ G, G = grownCap w n 0 tyL := ⟨_, rfl⟩
    rw [← eG] at hrz hG hG2
    clear eG
    obtain ⟨O, hO⟩ : ∃ O, O = (Obj.cells (Builtin.zeroCells (.agg #[.int .u32 0, .int .i64 0, .int .u32 0, .int .i64 0] : Value).cells n ++ Builtin.zeroCells (.agg #[.int .u32 0, .int .i64 0, .int .u32 0, .int .i64 0] : Value).cells (G - n)) tyL) := ⟨_, rfl⟩
    rw [← hO] at hrz
    have HOwn : Hid ((w.drew.alloc O).ownsRow w.heap.size tyL 4 (.slice (some ⟨w.heap.size, 0, none⟩) 0 G) 0 []) := Lib.hid (by
      rw [hO]
      refine ⟨rfl, .inr ⟨w.heap.size, G, _, rfl, Nat.le_refl _, heap_alloc_new w.drew _, Nat.zero_le _, hG, ?_, by simp⟩⟩
      simp only [Array.size_append, size_zeroCells]
      change n * 4 + (G - n) * 4 = G * 4
      omega)
    have HG := Lib.hid (And.intro hG hG2)
    have g1 : G ≤ 9223372036854775807 := by unfold maxLen at hG; omega
    clear hO hG
    go_enter Tryd.func64, Tryd.ntmps64
    go_wp2_with (at_builtin; refine Lib.wpList_append_run _ rfl _ _ _ _ rfl _ _ rfl rfl _ _ (hrz _) ?_)
    go_ret
    exact ⟨_, rfl, HOwn.out, bl_al (Below.refl _ _).drew _⟩
set_option maxRecDepth 100000 in
set_option maxHeartbeats 4000000 in
theorem concat_c (l1 l2 l3 : List Ls) (a1 a2 a3 : Option Addr) (b n1 c1 n2 c2 n3 c3 : Nat) (w : World) (h0 : w.cell? ⟨b, 0, none⟩ = some (.slice a1 n1 c1)) (h1 : w.cell? ⟨b, 1, none⟩ = some (.slice a2 n2 c2)) (h2 : w.cell? ⟨b, 2, none⟩ = some (.slice a3 n3 c3)) (I1 : InL w a1 n1 c1 l1) (I2 : InL w a2 n2 c2 l2) (I3 : InL w a3 n3 c3 l3) (hn1 : n1 ≤ 1048576) (hn2 : n2 ≤ 1048576) (hn3 : n3 ≤ 1048576) :
    Calls Tryd.prog 56 #[.slice (some ⟨b, 0, none⟩) 3 3] w fun e w' => (∃ v', e = .returned v' ∧ PkL w.heap.size w' v' (l1 ++ l2 ++ l3)) ∧ Below w.heap.size w w' := by
  obtain ⟨i0, hi0, hz0, hz1, hz2⟩ := info_parts infoL
  have CG := Lib.hid (grow_c (n1 + n2 + n3) w (by omega))
  rw [show ((n1 + n2 + n3 : Nat) : Int) = (n1 : Int) + (n2 : Int) + (n3 : Int) by omega] at CG
  have H1 := Lib.hid I1
  have H2 := Lib.hid I2
  have H3 := Lib.hid I3
  have HC := Lib.hid (And.intro h0 (And.intro h1 h2))
  have p1 : ¬ (n1 : Int) < 0 := by omega
  have p2 : ¬ (n1 : Int) + (n2 : Int) < 0 := by omega
  have p3 : ¬ (n1 : Int) + (n2 : Int) + (n3 : Int) < 0 := by omega
  have HL1 : Hid ((cellsL l1).length = n1 * 4) := Lib.hid (by rw [cellsL_len, I1.len])
  have HL2 : Hid ((cellsL l2).length = n2 * 4) := Lib.hid (by rw [cellsL_len, I2.len])
  have HL3 : Hid ((cellsL l3).length = n3 * 4) := Lib.hid (by rw [cellsL_len, I3.len])
  have HLL : Hid ((l1 ++ l2 ++ l3).length = n1 + n2 + n3) := Lib.hid (by rw [List.length_append, List.length_append, I1.len, I2.len, I3.len])
  clear I1 I2 I3
  go_enter Tryd.func56, Tryd.ntmps56
  go_wp2
  refine wp_loop_rounds 4 ?_
  rw [rounds_succ]
  go_wp2
  rw [rounds_succ]
  go_wp2
  rw [rounds_succ]
  go_wp2
  rw [rounds_succ]
  go_wp2_with fail
  refine CG.out.mono ?_
  rintro e w1 ⟨v1, rfl, ho1, hb1⟩
  have HB1 := Lib.hid hb1
  have HO1 := Lib.hid ho1
  have d0 := cell_keep h0 hb1
  have J1 := Lib.hid (H1.out.below hb1)
  have HD1 : Hid (w1.cell? ⟨b, 1, none⟩ = some (.slice a2 n2 c2) ∧ w1.cell? ⟨b, 2, none⟩ = some (.slice a3 n3 c3)) := Lib.hid ⟨(hb1.cell (p := ⟨b, 1, none⟩) (block_lt_of_cell h1)).trans h1, (hb1.cell (p := ⟨b, 2, none⟩) (block_lt_of_cell h2)).trans h2⟩
  clear hb1 ho1 CG h0 h1 h2
  go_wp2
  refine wp_loop_rounds 4 ?_
  rw [rounds_succ]
  go_wp2_with (at_builtin; refine append_any rfl _ _ 22 rfl w.heap.size tyL i0 (.agg #[.int .u32 0, .int .i64 0, .int .u32 0, .int .i64 0]) 4 32 Tryd.underlying22 hi0 hz0 hz1 hz2 rfl (by decide) _ _ _ rfl HO1.out a1 n1 c1 (cellsL l1) rfl J1.out.zero HL1.out J1.out.cells (cellsL_one1 _) ?c1 ?c2 ?c3 ?_)
  case c1 => unfold maxLen; omega
  case c2 => omega
  case c3 => exact HB1.out.size
  intro v2 w2 ho2 hg2
  have HB2 := Lib.hid (HB1.out.grown hg2 HB1.out.size (fun k hk => own_blkL HO1.out hk))
  have HO2 := Lib.hid ho2
  have e1 := (HB2.out.cell (p := ⟨b, 1, none⟩) (block_lt_of_cell HC.out.2.1)).trans HC.out.2.1
  have J2 := Lib.hid (H2.out.below HB2.out)
  clear ho2 hg2 HB1 HO1 J1 d0 HD1
  go_wp2
  rw [rounds_succ]
  go_wp2_with (at_builtin; refine append_any rfl _ _ 22 rfl w.heap.size tyL i0 (.agg #[.int .u32 0, .int .i64 0, .int .u32 0, .int .i64 0]) 4 32 Tryd.underlying22 hi0 hz0 hz1 hz2 rfl (by decide) _ _ _ rfl HO2.out a2 n2 c2 (cellsL l2) rfl J2.out.zero HL2.out J2.out.cells (cellsL_one1 _) ?d1 ?d2 ?d3 ?_)
  case d1 => unfold maxLen; omega
  case d2 => omega
  case d3 => exact HB2.out.size
  intro v3 w3 ho3 hg3
  have HB3 := Lib.hid (HB2.out.grown hg3 HB2.out.size (fun k hk => own_blkL HO2.out hk))
  have HO3 := Lib.hid ho3
  have f1 := (HB3.out.cell (p := ⟨b, 2, none⟩) (block_lt_of_cell HC.out.2.2)).trans HC.out.2.2
  have J3 := Lib.hid (H3.out.below HB3.out)
  clear ho3 hg3 HB2 HO2 J2 e1
  go_wp2
  rw [rounds_succ]
  go_wp2_with (at_builtin; refine append_any rfl _ _ 22 rfl w.heap.size tyL i0 (.agg #[.int .u32 0, .int .i64 0, .int .u32 0, .int .i64 0]) 4 32 Tryd.underlying22 hi0 hz0 hz1 hz2 rfl (by decide) _ _ _ rfl HO3.out a3 n3 c3 (cellsL l3) rfl J3.out.zero HL3.out J3.out.cells (cellsL_one1 _) ?f1 ?f2 ?f3 ?_)
  case f1 => unfold maxLen; omega
  case f2 => omega
  case f3 => exact HB3.out.size
  intro v4 w4 ho4 hg4
  have HB4 := Lib.hid (HB3.out.grown hg4 HB3.out.size (fun k hk => own_blkL HO3.out hk))
  have HO4 : Hid (PkL w.heap.size w4 v4 (l1 ++ l2 ++ l3)) := Lib.hid (by
    unfold PkL
    rw [HLL.out, cellsL_app, cellsL_app, List.append_assoc]
    exact ho4)
  clear ho4 hg4 HB3 HO3 J3 f1
  go_wp2
  rw [rounds_succ]
  go_wp2
  go_ret
  exact ⟨⟨v4, rfl, HO4.out⟩, HB4.out⟩
end Go.Proofs.YtanajblldlgalaaDoor
