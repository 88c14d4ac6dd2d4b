/- The walk of AddrFlows: at any seed and any two flows the call returns true, and nothing that was there is turned. Conditions: the addresses fit their kinds; the library's variables lie as their text lays them. -/
import Derived.Test.YtolkheelmmgnbaaDoorL1
import Derived.Test.YtolkheelmmgnbaaDoorL2
import Derived.Test.YtolkheelmmgnbaaDoorL6
namespace Go.Proofs.YtolkheelmmgnbaaDoor
open Go Go.RowKit

/-- Two flows lie in two new blocks. -/
structure Two (f g : Fl) (w : World) (W : World) : Prop where
  f : FlAt W w.heap.size f
  g : FlAt W (w.heap.size + 1) g
  below : Below w.heap.size w W
  size : w.heap.size + 2 ≤ W.heap.size
theorem Two.start (f g : Fl) (w : World) : ∃ W, (w.alloc f.obj).alloc g.obj = W ∧ Two f g w W :=
  ⟨_, rfl, flAt_below (flAt_new w f) (bl_al (Below.refl _ _) _) (by simp), by simpa using flAt_new (w.alloc f.obj) g, bl_al (bl_al (Below.refl _ _) _) _, by simp⟩
theorem Two.on {f g : Fl} {w W W' : World} (t : Two f g w W) (hb : Below W.heap.size W W') : Two f g w W' :=
  ⟨flAt_below t.f hb (by have := t.size; omega), flAt_below t.g hb (by have := t.size; omega), t.below.trans (hb.mono (by have := t.size; omega)), by have := t.size; have := hb.size; omega⟩
theorem Two.cells {f g : Fl} {w W : World} (t : Two f g w W) : W.cell? ⟨w.heap.size, 0, none⟩ = some (.int .i64 f.p) ∧ W.cell? ⟨w.heap.size, 1, none⟩ = some (.int .u32 f.s) ∧ W.cell? ⟨w.heap.size, 2, none⟩ = some (.int .i64 f.sp) ∧ W.cell? ⟨w.heap.size, 3, none⟩ = some (.int .u32 f.d) ∧ W.cell? ⟨w.heap.size, 4, none⟩ = some (.int .i64 f.dp) ∧ W.cell? ⟨w.heap.size + 1, 0, none⟩ = some (.int .i64 g.p) ∧ W.cell? ⟨w.heap.size + 1, 1, none⟩ = some (.int .u32 g.s) ∧ W.cell? ⟨w.heap.size + 1, 2, none⟩ = some (.int .i64 g.sp) ∧ W.cell? ⟨w.heap.size + 1, 3, none⟩ = some (.int .u32 g.d) ∧ W.cell? ⟨w.heap.size + 1, 4, none⟩ = some (.int .i64 g.dp) ∧ Two f g w W :=
  ⟨t.f.1, t.f.2.1, t.f.2.2.1, t.f.2.2.2.1, t.f.2.2.2.2, t.g.1, t.g.2.1, t.g.2.2.1, t.g.2.2.2.1, t.g.2.2.2.2, t⟩
theorem keep6 {f g : Fl} {w w1 w2 : World} (h : w1.cell? ⟨w.heap.size, 0, none⟩ = some (.int .i64 f.p) ∧ w1.cell? ⟨w.heap.size, 1, none⟩ = some (.int .u32 f.s) ∧ w1.cell? ⟨w.heap.size, 2, none⟩ = some (.int .i64 f.sp) ∧ w1.cell? ⟨w.heap.size, 3, none⟩ = some (.int .u32 f.d) ∧ w1.cell? ⟨w.heap.size, 4, none⟩ = some (.int .i64 f.dp) ∧ w1.cell? ⟨w.heap.size + 1, 0, none⟩ = some (.int .i64 g.p) ∧ w1.cell? ⟨w.heap.size + 1, 1, none⟩ = some (.int .u32 g.s) ∧ w1.cell? ⟨w.heap.size + 1, 2, none⟩ = some (.int .i64 g.sp) ∧ w1.cell? ⟨w.heap.size + 1, 3, none⟩ = some (.int .u32 g.d) ∧ w1.cell? ⟨w.heap.size + 1, 4, none⟩ = some (.int .i64 g.dp) ∧ Two f g w w1) (hb : Below w1.heap.size w1 w2) : w2.cell? ⟨w.heap.size, 0, none⟩ = some (.int .i64 f.p) ∧ w2.cell? ⟨w.heap.size, 1, none⟩ = some (.int .u32 f.s) ∧ w2.cell? ⟨w.heap.size, 2, none⟩ = some (.int .i64 f.sp) ∧ w2.cell? ⟨w.heap.size, 3, none⟩ = some (.int .u32 f.d) ∧ w2.cell? ⟨w.heap.size, 4, none⟩ = some (.int .i64 f.dp) ∧ w2.cell? ⟨w.heap.size + 1, 0, none⟩ = some (.int .i64 g.p) ∧ w2.cell? ⟨w.heap.size + 1, 1, none⟩ = some (.int .u32 g.s) ∧ w2.cell? ⟨w.heap.size + 1, 2, none⟩ = some (.int .i64 g.sp) ∧ w2.cell? ⟨w.heap.size + 1, 3, none⟩ = some (.int .u32 g.d) ∧ w2.cell? ⟨w.heap.size + 1, 4, none⟩ = some (.int .i64 g.dp) ∧ Two f g w w2 :=
  (h.2.2.2.2.2.2.2.2.2.2.on hb).cells
theorem Two.drew {f g : Fl} {w W : World} (t : Two f g w W) : Two f g w W.drew := ⟨t.f, t.g, t.below.drew, t.size⟩

theorem same_nine (w : World) : (binOp .neq 26 (errno 9) (.iface 40 (.int .i64 9))).run Tryd.prog w = .ok (.bool false) w := by kernel_rfl
set_option maxRecDepth 100000 in
set_option maxHeartbeats 1000000 in
theorem flows_yes (s : Int) (f g : Fl) (w : World) (hg : Good w) (f1 : 0 ≤ f.s ∧ f.s < 4294967296) (f3 : 0 ≤ f.d ∧ f.d < 4294967296) (g1 : 0 ≤ g.s ∧ g.s < 4294967296) (g3 : 0 ≤ g.d ∧ g.d < 4294967296) (hgood : f.good = true) :
    Calls Tryd.prog 6 #[.int .u64 s, f.val, g.val] w fun e w' => e = .returned (.bool true) ∧ Below w.heap.size w w' := by
  obtain ⟨W, hW, T⟩ := Two.start f g w
  have HW := Lib.hid hW
  have HT := Lib.hid T
  have G := Lib.hid hg
  have LA := fun (W : World) => less_any f g W
  have LR := fun (W : World) => refLess f g W f1 f3 g1 g3
  obtain ⟨b, hb⟩ : ∃ b, b = f.less g := ⟨_, rfl⟩
  rw [← hb] at LA LR
  have HA := fun (W : World) => hash_any s f W f1 f3
  have HR := fun (W : World) => refHash s f W f1 f3
  obtain ⟨x, hx⟩ : ∃ x, x = hashF s f := ⟨_, rfl⟩
  rw [← hx] at HA HR
  have CK := fun (W : World) => check_any f W
  have GD := fun (W : World) => refGood f W
  rw [Fl.err_yes hgood] at CK
  rw [hgood] at GD
  have LAH := Lib.hid LA
  have LRH := Lib.hid LR
  have HAH := Lib.hid HA
  have HRH := Lib.hid HR
  have CKH := Lib.hid CK
  have GDH := Lib.hid GD
  clear hW T hg LA LR hb HA HR hx CK GD f1 f3 g1 g3 hgood
  go_enter Tryd.func6, Tryd.ntmps6
  go_wp2_with fail
  rw [HW.out]
  refine (alive_any W (G.out.below HT.out.below G.out.size)).mono ?_
  rintro e W1 ⟨rfl, hb1⟩
  have HT1 := Lib.hid (HT.out.on hb1)
  clear hb1
  obtain ⟨⟨f0, f1, f2, f3, f4⟩, ⟨g0, g1, g2, g3, g4⟩, _, _⟩ := HT1.out
  go_wp2_with fail
  refine (CKH.out _).mono ?_
  rintro e W2 ⟨rfl, hb2⟩
  have HT2 := Lib.hid (HT1.out.on hb2)
  clear hb2 f0 f1 f2 f3 f4 g0 g1 g2 g3 g4
  obtain ⟨⟨f0, f1, f2, f3, f4⟩, ⟨g0, g1, g2, g3, g4⟩, _, _⟩ := HT2.out
  go_wp2_with fail
  refine (GDH.out _).mono ?_
  rintro e W3 ⟨rfl, hb3⟩
  have HT3 := Lib.hid (HT2.out.on hb3)
  clear hb3 f0 f1 f2 f3 f4 g0 g1 g2 g3 g4
  obtain ⟨⟨f0, f1, f2, f3, f4⟩, ⟨g0, g1, g2, g3, g4⟩, _, _⟩ := HT3.out
  go_wp2_with fail
  have hT := HT3.out.drew.cells
  clear HT HT1 HT2 HT3 G
  go_region_held3 (fun w' => w'.cell? ⟨w.heap.size, 0, none⟩ = some (.int .i64 f.p) ∧ w'.cell? ⟨w.heap.size, 1, none⟩ = some (.int .u32 f.s) ∧ w'.cell? ⟨w.heap.size, 2, none⟩ = some (.int .i64 f.sp) ∧ w'.cell? ⟨w.heap.size, 3, none⟩ = some (.int .u32 f.d) ∧ w'.cell? ⟨w.heap.size, 4, none⟩ = some (.int .i64 f.dp) ∧ w'.cell? ⟨w.heap.size + 1, 0, none⟩ = some (.int .i64 g.p) ∧ w'.cell? ⟨w.heap.size + 1, 1, none⟩ = some (.int .u32 g.s) ∧ w'.cell? ⟨w.heap.size + 1, 2, none⟩ = some (.int .i64 g.sp) ∧ w'.cell? ⟨w.heap.size + 1, 3, none⟩ = some (.int .u32 g.d) ∧ w'.cell? ⟨w.heap.size + 1, 4, none⟩ = some (.int .i64 g.dp) ∧ Two f g w w') (first | exact hT | exact keep6 (by assumption) (by assumption) | go_keep)
    (first | (go_at_call 24; with_reducible refine (reverse_any f _).mono ?_; rintro e w' ⟨rfl, hb'⟩) | (go_at_call 25; with_reducible refine (refReverse f _).mono ?_; rintro e w' ⟨rfl, hb'⟩) | (go_at_call 26; with_reducible refine (HAH.out _).mono ?_; rintro e w' ⟨rfl, hb'⟩) | (go_at_call 27; with_reducible refine (HRH.out _).mono ?_; rintro e w' ⟨rfl, hb'⟩) | (go_at_call 28; with_reducible refine (LAH.out _).mono ?_; rintro e w' ⟨rfl, hb'⟩) | (go_at_call 29; with_reducible refine (LRH.out _).mono ?_; rintro e w' ⟨rfl, hb'⟩))
  go_wp2
  go_ret
  refine ⟨rfl, ?_⟩
  rename_i hS
  exact hS.2.2.2.2.2.2.2.2.2.2.below
set_option maxRecDepth 100000 in
set_option maxHeartbeats 1000000 in
theorem flows_no (s : Int) (f g : Fl) (w : World) (hg : Good w) (f1 : 0 ≤ f.s ∧ f.s < 4294967296) (f3 : 0 ≤ f.d ∧ f.d < 4294967296) (g1 : 0 ≤ g.s ∧ g.s < 4294967296) (g3 : 0 ≤ g.d ∧ g.d < 4294967296) (hgood : ¬ f.good = true) :
    Calls Tryd.prog 6 #[.int .u64 s, f.val, g.val] w fun e w' => e = .returned (.bool true) ∧ Below w.heap.size w w' := by
  obtain ⟨W, hW, T⟩ := Two.start f g w
  have HW := Lib.hid hW
  have HT := Lib.hid T
  have G := Lib.hid hg
  have LA := fun (W : World) => less_any f g W
  have LR := fun (W : World) => refLess f g W f1 f3 g1 g3
  obtain ⟨b, hb⟩ : ∃ b, b = f.less g := ⟨_, rfl⟩
  rw [← hb] at LA LR
  have HA := fun (W : World) => hash_any s f W f1 f3
  have HR := fun (W : World) => refHash s f W f1 f3
  obtain ⟨x, hx⟩ : ∃ x, x = hashF s f := ⟨_, rfl⟩
  rw [← hx] at HA HR
  have CK := fun (W : World) => check_any f W
  have GD := fun (W : World) => refGood f W
  rw [Fl.err_no hgood] at CK
  rw [Bool.eq_false_iff.2 hgood] at GD
  have sn := same_nine
  have LAH := Lib.hid LA
  have LRH := Lib.hid LR
  have HAH := Lib.hid HA
  have HRH := Lib.hid HR
  have CKH := Lib.hid CK
  have GDH := Lib.hid GD
  clear hW T hg LA LR hb HA HR hx CK GD f1 f3 g1 g3 hgood
  go_enter Tryd.func6, Tryd.ntmps6
  go_wp2_with fail
  rw [HW.out]
  refine (alive_any W (G.out.below HT.out.below G.out.size)).mono ?_
  rintro e W1 ⟨rfl, hb1⟩
  have HT1 := Lib.hid (HT.out.on hb1)
  clear hb1
  obtain ⟨⟨f0, f1, f2, f3, f4⟩, ⟨g0, g1, g2, g3, g4⟩, _, _⟩ := HT1.out
  go_wp2_with fail
  refine (CKH.out _).mono ?_
  rintro e W2 ⟨rfl, hb2⟩
  have HT2 := Lib.hid (HT1.out.on hb2)
  clear hb2 f0 f1 f2 f3 f4 g0 g1 g2 g3 g4
  obtain ⟨⟨f0, f1, f2, f3, f4⟩, ⟨g0, g1, g2, g3, g4⟩, _, _⟩ := HT2.out
  go_wp2_with fail
  refine (GDH.out _).mono ?_
  rintro e W3 ⟨rfl, hb3⟩
  have HT3 := Lib.hid (HT2.out.on hb3)
  clear hb3 f0 f1 f2 f3 f4 g0 g1 g2 g3 g4
  obtain ⟨⟨f0, f1, f2, f3, f4⟩, ⟨g0, g1, g2, g3, g4⟩, _, _⟩ := HT3.out
  go_wp2_with fail
  refine (CKH.out _).mono ?_
  rintro e W4 ⟨rfl, hb4⟩
  have HT4 := Lib.hid (HT3.out.on hb4)
  clear hb4 f0 f1 f2 f3 f4 g0 g1 g2 g3 g4
  obtain ⟨⟨f0, f1, f2, f3, f4⟩, ⟨g0, g1, g2, g3, g4⟩, _, _⟩ := HT4.out
  go_wp2_with fail
  have hT := HT4.out.drew.cells
  clear HT HT1 HT2 HT3 HT4 G
  go_region_held3 (fun w' => w'.cell? ⟨w.heap.size, 0, none⟩ = some (.int .i64 f.p) ∧ w'.cell? ⟨w.heap.size, 1, none⟩ = some (.int .u32 f.s) ∧ w'.cell? ⟨w.heap.size, 2, none⟩ = some (.int .i64 f.sp) ∧ w'.cell? ⟨w.heap.size, 3, none⟩ = some (.int .u32 f.d) ∧ w'.cell? ⟨w.heap.size, 4, none⟩ = some (.int .i64 f.dp) ∧ w'.cell? ⟨w.heap.size + 1, 0, none⟩ = some (.int .i64 g.p) ∧ w'.cell? ⟨w.heap.size + 1, 1, none⟩ = some (.int .u32 g.s) ∧ w'.cell? ⟨w.heap.size + 1, 2, none⟩ = some (.int .i64 g.sp) ∧ w'.cell? ⟨w.heap.size + 1, 3, none⟩ = some (.int .u32 g.d) ∧ w'.cell? ⟨w.heap.size + 1, 4, none⟩ = some (.int .i64 g.dp) ∧ Two f g w w') (first | exact hT | exact keep6 (by assumption) (by assumption) | go_keep)
    (first | (go_at_call 24; with_reducible refine (reverse_any f _).mono ?_; rintro e w' ⟨rfl, hb'⟩) | (go_at_call 25; with_reducible refine (refReverse f _).mono ?_; rintro e w' ⟨rfl, hb'⟩) | (go_at_call 26; with_reducible refine (HAH.out _).mono ?_; rintro e w' ⟨rfl, hb'⟩) | (go_at_call 27; with_reducible refine (HRH.out _).mono ?_; rintro e w' ⟨rfl, hb'⟩) | (go_at_call 28; with_reducible refine (LAH.out _).mono ?_; rintro e w' ⟨rfl, hb'⟩) | (go_at_call 29; with_reducible refine (LRH.out _).mono ?_; rintro e w' ⟨rfl, hb'⟩))
  go_wp2
  go_ret
  refine ⟨rfl, ?_⟩
  rename_i hS
  exact hS.2.2.2.2.2.2.2.2.2.2.below

theorem flows_any (s : Int) (f g : Fl) (w : World) (hg : Good w) (f1 : 0 ≤ f.s ∧ f.s < 4294967296) (f3 : 0 ≤ f.d ∧ f.d < 4294967296) (g1 : 0 ≤ g.s ∧ g.s < 4294967296) (g3 : 0 ≤ g.d ∧ g.d < 4294967296) :
    Calls Tryd.prog 6 #[.int .u64 s, f.val, g.val] w fun e w' => e = .returned (.bool true) ∧ Below w.heap.size w w' := by
  by_cases h : f.good = true
  · exact flows_yes s f g w hg f1 f3 g1 g3 h
  · exact flows_no s f g w hg f1 f3 g1 g3 h
end Go.Proofs.YtolkheelmmgnbaaDoor
