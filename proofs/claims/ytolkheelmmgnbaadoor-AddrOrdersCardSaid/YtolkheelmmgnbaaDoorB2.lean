/- The walk of AddrOrders: at any three flows the call returns true, and nothing that was there is turned. Condition: the library's variables lie as their text lays them. -/
import Derived.Test.YtolkheelmmgnbaaDoorB1
namespace Go.Proofs.YtolkheelmmgnbaaDoor
open Go Go.RowKit

set_option maxRecDepth 100000 in
set_option maxHeartbeats 400000 in
theorem orders_eq (f h : Fl) (w : World) (hg : Good w) :
    Calls Tryd.prog 8 #[f.val, f.val, h.val] w fun e w' => e = .returned (.bool true) ∧ Below w.heap.size w w' := by
  obtain ⟨W, hW, T⟩ := Three.start f f h w
  have i1 := less_irr f
  have en := err_nil f
  have eg := err_guard f
  have HW := Lib.hid hW
  have HT := Lib.hid T
  have G := Lib.hid hg
  clear hW T hg
  go_enter Tryd.func8, Tryd.ntmps8
  go_wp2_with fail
  rw [HW.out]
  refine (alive_any W (G.out.below HT.out.below G.out.size)).mono ?_
  rintro e W1 ⟨rfl, hb1⟩
  have HT1 := Lib.hid (HT.out.on hb1)
  clear hb1
  obtain ⟨⟨f0, f1, f2, f3, f4⟩, ⟨g0, g1, g2, g3, g4⟩, ⟨h0, h1, h2, h3, h4⟩, _, _⟩ := HT1.out
  go_wp2_with fail
  refine (less_any f f _).mono ?_
  rintro e W2 ⟨rfl, hb2⟩
  have HT2 := Lib.hid (HT1.out.on hb2)
  clear hb2 f0 f1 f2 f3 f4 g0 g1 g2 g3 g4 h0 h1 h2 h3 h4
  obtain ⟨⟨f0, f1, f2, f3, f4⟩, ⟨g0, g1, g2, g3, g4⟩, ⟨h0, h1, h2, h3, h4⟩, _, _⟩ := HT2.out
  go_wp2_with fail
  refine (less_any f f _).mono ?_
  rintro e W3 ⟨rfl, hb3⟩
  have HT3 := Lib.hid (HT2.out.on hb3)
  clear hb3 f0 f1 f2 f3 f4 g0 g1 g2 g3 g4 h0 h1 h2 h3 h4
  obtain ⟨⟨f0, f1, f2, f3, f4⟩, ⟨g0, g1, g2, g3, g4⟩, ⟨h0, h1, h2, h3, h4⟩, _, _⟩ := HT3.out
  go_wp2_with fail
  refine (less_any f f _).mono ?_
  rintro e W4 ⟨rfl, hb4⟩
  have HT4 := Lib.hid (HT3.out.on hb4)
  clear hb4 f0 f1 f2 f3 f4 g0 g1 g2 g3 g4 h0 h1 h2 h3 h4
  obtain ⟨⟨f0, f1, f2, f3, f4⟩, ⟨g0, g1, g2, g3, g4⟩, ⟨h0, h1, h2, h3, h4⟩, _, _⟩ := HT4.out
  go_wp2_with fail
  have hB := HT4.out.below
  clear HT HT4 G
  go_region_held3 (fun w' => w'.cell? ⟨w.heap.size, 0, none⟩ = some (.int .i64 f.p) ∧ w'.cell? ⟨w.heap.size, 1, none⟩ = some (.int .u32 f.s) ∧ w'.cell? ⟨w.heap.size, 2, none⟩ = some (.int .i64 f.sp) ∧ w'.cell? ⟨w.heap.size, 3, none⟩ = some (.int .u32 f.d) ∧ w'.cell? ⟨w.heap.size, 4, none⟩ = some (.int .i64 f.dp) ∧ Below w.heap.size w w') (first | exact ⟨f0, f1, f2, f3, f4, hB.drew⟩ | exact keep7 (by assumption) (by assumption) | go_keep)
    (first | (go_at_call 24; with_reducible refine (reverse_back f _).mono ?_; rintro e w' ⟨rfl, hb'⟩) | (go_at_call 24; with_reducible refine (reverse_any f _).mono ?_; rintro e w' ⟨rfl, hb'⟩) | (go_at_call 22; with_reducible refine (check_any f _).mono ?_; rintro e w' ⟨rfl, hb'⟩) | (go_at_call 22; with_reducible refine (check_rev f _).mono ?_; rintro e w' ⟨rfl, hb'⟩))
  go_wp2
  go_ret
  refine ⟨rfl, ?_⟩
  rename_i hS
  exact hS.2.2.2.2.2
set_option maxRecDepth 100000 in
set_option maxHeartbeats 400000 in
theorem orders_lt (f g h : Fl) (w : World) (hg : Good w) (hne : f ≠ g) (a1 : f.less g = true) (a2 : g.less h = false) :
    Calls Tryd.prog 8 #[f.val, g.val, h.val] w fun e w' => e = .returned (.bool true) ∧ Below w.heap.size w w' := by
  obtain ⟨W, hW, T⟩ := Three.start f g h w
  have i1 := less_irr f
  have en := err_nil f
  have eg := err_guard f
  have nq := neq_flow f g hne
  have i2 := less_asym a1
  clear hne
  have HW := Lib.hid hW
  have HT := Lib.hid T
  have G := Lib.hid hg
  clear hW T hg
  go_enter Tryd.func8, Tryd.ntmps8
  go_wp2_with fail
  rw [HW.out]
  refine (alive_any W (G.out.below HT.out.below G.out.size)).mono ?_
  rintro e W1 ⟨rfl, hb1⟩
  have HT1 := Lib.hid (HT.out.on hb1)
  clear hb1
  obtain ⟨⟨f0, f1, f2, f3, f4⟩, ⟨g0, g1, g2, g3, g4⟩, ⟨h0, h1, h2, h3, h4⟩, _, _⟩ := HT1.out
  go_wp2_with fail
  refine (less_any f f _).mono ?_
  rintro e W2 ⟨rfl, hb2⟩
  have HT2 := Lib.hid (HT1.out.on hb2)
  clear hb2 f0 f1 f2 f3 f4 g0 g1 g2 g3 g4 h0 h1 h2 h3 h4
  obtain ⟨⟨f0, f1, f2, f3, f4⟩, ⟨g0, g1, g2, g3, g4⟩, ⟨h0, h1, h2, h3, h4⟩, _, _⟩ := HT2.out
  go_wp2_with fail
  refine (less_any f g _).mono ?_
  rintro e W3 ⟨rfl, hb3⟩
  have HT3 := Lib.hid (HT2.out.on hb3)
  clear hb3 f0 f1 f2 f3 f4 g0 g1 g2 g3 g4 h0 h1 h2 h3 h4
  obtain ⟨⟨f0, f1, f2, f3, f4⟩, ⟨g0, g1, g2, g3, g4⟩, ⟨h0, h1, h2, h3, h4⟩, _, _⟩ := HT3.out
  go_wp2_with fail
  refine (less_any g f _).mono ?_
  rintro e W4 ⟨rfl, hb4⟩
  have HT4 := Lib.hid (HT3.out.on hb4)
  clear hb4 f0 f1 f2 f3 f4 g0 g1 g2 g3 g4 h0 h1 h2 h3 h4
  obtain ⟨⟨f0, f1, f2, f3, f4⟩, ⟨g0, g1, g2, g3, g4⟩, ⟨h0, h1, h2, h3, h4⟩, _, _⟩ := HT4.out
  go_wp2_with fail
  refine (less_any f g _).mono ?_
  rintro e W5 ⟨rfl, hb5⟩
  have HT5 := Lib.hid (HT4.out.on hb5)
  clear hb5 f0 f1 f2 f3 f4 g0 g1 g2 g3 g4 h0 h1 h2 h3 h4
  obtain ⟨⟨f0, f1, f2, f3, f4⟩, ⟨g0, g1, g2, g3, g4⟩, ⟨h0, h1, h2, h3, h4⟩, _, _⟩ := HT5.out
  go_wp2_with fail
  refine (less_any f g _).mono ?_
  rintro e W6 ⟨rfl, hb6⟩
  have HT6 := Lib.hid (HT5.out.on hb6)
  clear hb6 f0 f1 f2 f3 f4 g0 g1 g2 g3 g4 h0 h1 h2 h3 h4
  obtain ⟨⟨f0, f1, f2, f3, f4⟩, ⟨g0, g1, g2, g3, g4⟩, ⟨h0, h1, h2, h3, h4⟩, _, _⟩ := HT6.out
  go_wp2_with fail
  refine (less_any g h _).mono ?_
  rintro e W7 ⟨rfl, hb7⟩
  have HT7 := Lib.hid (HT6.out.on hb7)
  clear hb7 f0 f1 f2 f3 f4 g0 g1 g2 g3 g4 h0 h1 h2 h3 h4
  obtain ⟨⟨f0, f1, f2, f3, f4⟩, ⟨g0, g1, g2, g3, g4⟩, ⟨h0, h1, h2, h3, h4⟩, _, _⟩ := HT7.out
  go_wp2_with fail
  have hB := HT7.out.below
  clear HT HT7 G
  go_region_held3 (fun w' => w'.cell? ⟨w.heap.size, 0, none⟩ = some (.int .i64 f.p) ∧ w'.cell? ⟨w.heap.size, 1, none⟩ = some (.int .u32 f.s) ∧ w'.cell? ⟨w.heap.size, 2, none⟩ = some (.int .i64 f.sp) ∧ w'.cell? ⟨w.heap.size, 3, none⟩ = some (.int .u32 f.d) ∧ w'.cell? ⟨w.heap.size, 4, none⟩ = some (.int .i64 f.dp) ∧ Below w.heap.size w w') (first | exact ⟨f0, f1, f2, f3, f4, hB.drew⟩ | exact keep7 (by assumption) (by assumption) | go_keep)
    (first | (go_at_call 24; with_reducible refine (reverse_back f _).mono ?_; rintro e w' ⟨rfl, hb'⟩) | (go_at_call 24; with_reducible refine (reverse_any f _).mono ?_; rintro e w' ⟨rfl, hb'⟩) | (go_at_call 22; with_reducible refine (check_any f _).mono ?_; rintro e w' ⟨rfl, hb'⟩) | (go_at_call 22; with_reducible refine (check_rev f _).mono ?_; rintro e w' ⟨rfl, hb'⟩))
  go_wp2
  go_ret
  refine ⟨rfl, ?_⟩
  rename_i hS
  exact hS.2.2.2.2.2
set_option maxRecDepth 100000 in
set_option maxHeartbeats 400000 in
theorem orders_lt2 (f g h : Fl) (w : World) (hg : Good w) (hne : f ≠ g) (a1 : f.less g = true) (a2 : g.less h = true) :
    Calls Tryd.prog 8 #[f.val, g.val, h.val] w fun e w' => e = .returned (.bool true) ∧ Below w.heap.size w w' := by
  obtain ⟨W, hW, T⟩ := Three.start f g h w
  have i1 := less_irr f
  have en := err_nil f
  have eg := err_guard f
  have nq := neq_flow f g hne
  have i2 := less_asym a1
  have i3 := less_trans a1 a2
  clear hne
  have HW := Lib.hid hW
  have HT := Lib.hid T
  have G := Lib.hid hg
  clear hW T hg
  go_enter Tryd.func8, Tryd.ntmps8
  go_wp2_with fail
  rw [HW.out]
  refine (alive_any W (G.out.below HT.out.below G.out.size)).mono ?_
  rintro e W1 ⟨rfl, hb1⟩
  have HT1 := Lib.hid (HT.out.on hb1)
  clear hb1
  obtain ⟨⟨f0, f1, f2, f3, f4⟩, ⟨g0, g1, g2, g3, g4⟩, ⟨h0, h1, h2, h3, h4⟩, _, _⟩ := HT1.out
  go_wp2_with fail
  refine (less_any f f _).mono ?_
  rintro e W2 ⟨rfl, hb2⟩
  have HT2 := Lib.hid (HT1.out.on hb2)
  clear hb2 f0 f1 f2 f3 f4 g0 g1 g2 g3 g4 h0 h1 h2 h3 h4
  obtain ⟨⟨f0, f1, f2, f3, f4⟩, ⟨g0, g1, g2, g3, g4⟩, ⟨h0, h1, h2, h3, h4⟩, _, _⟩ := HT2.out
  go_wp2_with fail
  refine (less_any f g _).mono ?_
  rintro e W3 ⟨rfl, hb3⟩
  have HT3 := Lib.hid (HT2.out.on hb3)
  clear hb3 f0 f1 f2 f3 f4 g0 g1 g2 g3 g4 h0 h1 h2 h3 h4
  obtain ⟨⟨f0, f1, f2, f3, f4⟩, ⟨g0, g1, g2, g3, g4⟩, ⟨h0, h1, h2, h3, h4⟩, _, _⟩ := HT3.out
  go_wp2_with fail
  refine (less_any g f _).mono ?_
  rintro e W4 ⟨rfl, hb4⟩
  have HT4 := Lib.hid (HT3.out.on hb4)
  clear hb4 f0 f1 f2 f3 f4 g0 g1 g2 g3 g4 h0 h1 h2 h3 h4
  obtain ⟨⟨f0, f1, f2, f3, f4⟩, ⟨g0, g1, g2, g3, g4⟩, ⟨h0, h1, h2, h3, h4⟩, _, _⟩ := HT4.out
  go_wp2_with fail
  refine (less_any f g _).mono ?_
  rintro e W5 ⟨rfl, hb5⟩
  have HT5 := Lib.hid (HT4.out.on hb5)
  clear hb5 f0 f1 f2 f3 f4 g0 g1 g2 g3 g4 h0 h1 h2 h3 h4
  obtain ⟨⟨f0, f1, f2, f3, f4⟩, ⟨g0, g1, g2, g3, g4⟩, ⟨h0, h1, h2, h3, h4⟩, _, _⟩ := HT5.out
  go_wp2_with fail
  refine (less_any f g _).mono ?_
  rintro e W6 ⟨rfl, hb6⟩
  have HT6 := Lib.hid (HT5.out.on hb6)
  clear hb6 f0 f1 f2 f3 f4 g0 g1 g2 g3 g4 h0 h1 h2 h3 h4
  obtain ⟨⟨f0, f1, f2, f3, f4⟩, ⟨g0, g1, g2, g3, g4⟩, ⟨h0, h1, h2, h3, h4⟩, _, _⟩ := HT6.out
  go_wp2_with fail
  refine (less_any g h _).mono ?_
  rintro e W7 ⟨rfl, hb7⟩
  have HT7 := Lib.hid (HT6.out.on hb7)
  clear hb7 f0 f1 f2 f3 f4 g0 g1 g2 g3 g4 h0 h1 h2 h3 h4
  obtain ⟨⟨f0, f1, f2, f3, f4⟩, ⟨g0, g1, g2, g3, g4⟩, ⟨h0, h1, h2, h3, h4⟩, _, _⟩ := HT7.out
  go_wp2_with fail
  refine (less_any f h _).mono ?_
  rintro e W8 ⟨rfl, hb8⟩
  have HT8 := Lib.hid (HT7.out.on hb8)
  clear hb8 f0 f1 f2 f3 f4 g0 g1 g2 g3 g4 h0 h1 h2 h3 h4
  obtain ⟨⟨f0, f1, f2, f3, f4⟩, ⟨g0, g1, g2, g3, g4⟩, ⟨h0, h1, h2, h3, h4⟩, _, _⟩ := HT8.out
  go_wp2_with fail
  have hB := HT8.out.below
  clear HT HT8 G
  go_region_held3 (fun w' => w'.cell? ⟨w.heap.size, 0, none⟩ = some (.int .i64 f.p) ∧ w'.cell? ⟨w.heap.size, 1, none⟩ = some (.int .u32 f.s) ∧ w'.cell? ⟨w.heap.size, 2, none⟩ = some (.int .i64 f.sp) ∧ w'.cell? ⟨w.heap.size, 3, none⟩ = some (.int .u32 f.d) ∧ w'.cell? ⟨w.heap.size, 4, none⟩ = some (.int .i64 f.dp) ∧ Below w.heap.size w w') (first | exact ⟨f0, f1, f2, f3, f4, hB.drew⟩ | exact keep7 (by assumption) (by assumption) | go_keep)
    (first | (go_at_call 24; with_reducible refine (reverse_back f _).mono ?_; rintro e w' ⟨rfl, hb'⟩) | (go_at_call 24; with_reducible refine (reverse_any f _).mono ?_; rintro e w' ⟨rfl, hb'⟩) | (go_at_call 22; with_reducible refine (check_any f _).mono ?_; rintro e w' ⟨rfl, hb'⟩) | (go_at_call 22; with_reducible refine (check_rev f _).mono ?_; rintro e w' ⟨rfl, hb'⟩))
  go_wp2
  go_ret
  refine ⟨rfl, ?_⟩
  rename_i hS
  exact hS.2.2.2.2.2
set_option maxRecDepth 100000 in
set_option maxHeartbeats 400000 in
theorem orders_gt (f g h : Fl) (w : World) (hg : Good w) (hne : f ≠ g) (a1 : f.less g = false) (a2 : g.less f = true) :
    Calls Tryd.prog 8 #[f.val, g.val, h.val] w fun e w' => e = .returned (.bool true) ∧ Below w.heap.size w w' := by
  obtain ⟨W, hW, T⟩ := Three.start f g h w
  have i1 := less_irr f
  have en := err_nil f
  have eg := err_guard f
  have nq := neq_flow f g hne
  clear hne
  have HW := Lib.hid hW
  have HT := Lib.hid T
  have G := Lib.hid hg
  clear hW T hg
  go_enter Tryd.func8, Tryd.ntmps8
  go_wp2_with fail
  rw [HW.out]
  refine (alive_any W (G.out.below HT.out.below G.out.size)).mono ?_
  rintro e W1 ⟨rfl, hb1⟩
  have HT1 := Lib.hid (HT.out.on hb1)
  clear hb1
  obtain ⟨⟨f0, f1, f2, f3, f4⟩, ⟨g0, g1, g2, g3, g4⟩, ⟨h0, h1, h2, h3, h4⟩, _, _⟩ := HT1.out
  go_wp2_with fail
  refine (less_any f f _).mono ?_
  rintro e W2 ⟨rfl, hb2⟩
  have HT2 := Lib.hid (HT1.out.on hb2)
  clear hb2 f0 f1 f2 f3 f4 g0 g1 g2 g3 g4 h0 h1 h2 h3 h4
  obtain ⟨⟨f0, f1, f2, f3, f4⟩, ⟨g0, g1, g2, g3, g4⟩, ⟨h0, h1, h2, h3, h4⟩, _, _⟩ := HT2.out
  go_wp2_with fail
  refine (less_any f g _).mono ?_
  rintro e W3 ⟨rfl, hb3⟩
  have HT3 := Lib.hid (HT2.out.on hb3)
  clear hb3 f0 f1 f2 f3 f4 g0 g1 g2 g3 g4 h0 h1 h2 h3 h4
  obtain ⟨⟨f0, f1, f2, f3, f4⟩, ⟨g0, g1, g2, g3, g4⟩, ⟨h0, h1, h2, h3, h4⟩, _, _⟩ := HT3.out
  go_wp2_with fail
  refine (less_any f g _).mono ?_
  rintro e W4 ⟨rfl, hb4⟩
  have HT4 := Lib.hid (HT3.out.on hb4)
  clear hb4 f0 f1 f2 f3 f4 g0 g1 g2 g3 g4 h0 h1 h2 h3 h4
  obtain ⟨⟨f0, f1, f2, f3, f4⟩, ⟨g0, g1, g2, g3, g4⟩, ⟨h0, h1, h2, h3, h4⟩, _, _⟩ := HT4.out
  go_wp2_with fail
  refine (less_any g f _).mono ?_
  rintro e W5 ⟨rfl, hb5⟩
  have HT5 := Lib.hid (HT4.out.on hb5)
  clear hb5 f0 f1 f2 f3 f4 g0 g1 g2 g3 g4 h0 h1 h2 h3 h4
  obtain ⟨⟨f0, f1, f2, f3, f4⟩, ⟨g0, g1, g2, g3, g4⟩, ⟨h0, h1, h2, h3, h4⟩, _, _⟩ := HT5.out
  go_wp2_with fail
  refine (less_any f g _).mono ?_
  rintro e W6 ⟨rfl, hb6⟩
  have HT6 := Lib.hid (HT5.out.on hb6)
  clear hb6 f0 f1 f2 f3 f4 g0 g1 g2 g3 g4 h0 h1 h2 h3 h4
  obtain ⟨⟨f0, f1, f2, f3, f4⟩, ⟨g0, g1, g2, g3, g4⟩, ⟨h0, h1, h2, h3, h4⟩, _, _⟩ := HT6.out
  go_wp2_with fail
  have hB := HT6.out.below
  clear HT HT6 G
  go_region_held3 (fun w' => w'.cell? ⟨w.heap.size, 0, none⟩ = some (.int .i64 f.p) ∧ w'.cell? ⟨w.heap.size, 1, none⟩ = some (.int .u32 f.s) ∧ w'.cell? ⟨w.heap.size, 2, none⟩ = some (.int .i64 f.sp) ∧ w'.cell? ⟨w.heap.size, 3, none⟩ = some (.int .u32 f.d) ∧ w'.cell? ⟨w.heap.size, 4, none⟩ = some (.int .i64 f.dp) ∧ Below w.heap.size w w') (first | exact ⟨f0, f1, f2, f3, f4, hB.drew⟩ | exact keep7 (by assumption) (by assumption) | go_keep)
    (first | (go_at_call 24; with_reducible refine (reverse_back f _).mono ?_; rintro e w' ⟨rfl, hb'⟩) | (go_at_call 24; with_reducible refine (reverse_any f _).mono ?_; rintro e w' ⟨rfl, hb'⟩) | (go_at_call 22; with_reducible refine (check_any f _).mono ?_; rintro e w' ⟨rfl, hb'⟩) | (go_at_call 22; with_reducible refine (check_rev f _).mono ?_; rintro e w' ⟨rfl, hb'⟩))
  go_wp2
  go_ret
  refine ⟨rfl, ?_⟩
  rename_i hS
  exact hS.2.2.2.2.2
end Go.Proofs.YtolkheelmmgnbaaDoor
