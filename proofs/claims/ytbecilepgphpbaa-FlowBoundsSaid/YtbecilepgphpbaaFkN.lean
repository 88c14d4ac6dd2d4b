/- Contract of towpathlaw11.FlowNone: it returns true. Conditions: the flow's addresses fit their kinds. -/
import Derived.Test.YtbecilepgphpbaaFkB
import Derived.Test.YtbecilepgphpbaaFkA
namespace Go.Proofs.Ytbecilepgphpbaa
open Go Go.RowKit
set_option linter.unusedVariables false
set_option linter.unusedSimpArgs false

/-- An operation of the statements' scripts. -/
structure Op11 where
  kind : Int
  f : Fl
  dip : Int
  ep : Int
  flags : Int
  now : Int
abbrev tyO : TypeId := 41
abbrev Op11.cells (o : Op11) (a : Option Addr) (n c : Nat) : Array Value := #[.int .i64 o.kind, .int .i64 o.f.p, .int .u32 o.f.s, .int .i64 o.f.sp, .int .u32 o.f.d, .int .i64 o.f.dp, .slice a n c, .int .u32 o.dip, .int .i64 o.ep, .int .i64 o.flags, .int .i64 o.now]
abbrev Op11.val (o : Op11) (a : Option Addr) (n c : Nat) : Value := .agg (o.cells a n c)
structure FitO (o : Op11) : Prop where
  kind : InN o.kind
  f : FitF o.f
  dip : In32 o.dip
  ep : InN o.ep
  flags : InN o.flags
  now : InN o.now
/-- It lies in a box. -/
def BxO (w : World) (q : Nat) (o : Op11) (a : Option Addr) (n c : Nat) : Prop := w.heap[q]? = some (.cells (o.cells a n c) tyO (0, 0))
theorem BxO.new (w : World) (o : Op11) (a : Option Addr) (n c : Nat) : BxO (w.alloc (.cells (o.cells a n c) tyO)) w.heap.size o a n c := (MapKept.heap_alloc w _).1
theorem BxO.below {w w' : World} {q : Nat} {o : Op11} {a : Option Addr} {n c : Nat} (h : BxO w q o a n c) (hb : Below w.heap.size w w') : BxO w' q o a n c := (hb.block q (lt_of_block h)).trans h
theorem BxO.kept {K : Nat → Prop} {w w' : World} {q : Nat} {o : Op11} {a : Option Addr} {n c : Nat} (h : BxO w q o a n c) (hk : Kpt K w w') (hq : K q) : BxO w' q o a n c := (hk q hq).trans h
theorem BxO.cs {w : World} {q : Nat} {o : Op11} {a : Option Addr} {n c : Nat} (h : BxO w q o a n c) : w.cell? ⟨q, 0, none⟩ = some (.int .i64 o.kind) ∧ w.cell? ⟨q, 1, none⟩ = some (.int .i64 o.f.p) ∧ w.cell? ⟨q, 2, none⟩ = some (.int .u32 o.f.s) ∧ w.cell? ⟨q, 3, none⟩ = some (.int .i64 o.f.sp) ∧ w.cell? ⟨q, 4, none⟩ = some (.int .u32 o.f.d) ∧ w.cell? ⟨q, 5, none⟩ = some (.int .i64 o.f.dp) ∧ w.cell? ⟨q, 6, none⟩ = some (.slice a n c) ∧ w.cell? ⟨q, 7, none⟩ = some (.int .u32 o.dip) ∧ w.cell? ⟨q, 8, none⟩ = some (.int .i64 o.ep) ∧ w.cell? ⟨q, 9, none⟩ = some (.int .i64 o.flags) ∧ w.cell? ⟨q, 10, none⟩ = some (.int .i64 o.now) := by
  have hc : ∀ i, w.cell? ⟨q, i, none⟩ = (o.cells a n c)[i]? := fun i => cell_of_row w q i _ _ _ h
  exact ⟨hc 0, hc 1, hc 2, hc 3, hc 4, hc 5, hc 6, hc 7, hc 8, hc 9, hc 10⟩
theorem errEq (k : Int) (hk : k = 4 ∨ k = 5 ∨ k = 9) (w : World) : (binOp .eql 26 (errnoF k) (errnoF k)).run Try.prog w = .ok (.bool true) w := by
  rcases hk with rfl | rfl | rfl <;> kernel_rfl
theorem one_rowF (w : World) (f : Fl) : InF (w.alloc (.cells (csF f).toArray tyF)) (some ⟨w.heap.size, 0, none⟩) 1 [f] := by
  refine ⟨rfl, .inr ⟨w.heap.size, 0, rfl, fun j hj => ?_⟩⟩
  have h0 : j = 0 := by simpa using hj
  subst h0
  refine flIn_of (fun i hi => ?_)
  have := cells_new w (csF f) tyF (0, 0) i ((csF f)[i]'hi) (List.getElem?_eq_getElem hi)
  rw [Nat.zero_mul, Nat.zero_add, show ([f] : List Fl).getD 0 fl0 = f from rfl]
  rw [Nat.zero_add] at this
  rw [this, List.getElem?_eq_getElem hi]
set_option maxRecDepth 100000 in
set_option maxHeartbeats 8000000 in
theorem flowNone_t (o : Op11) (a : Option Addr) (n c : Nat) (w : World) (ho : FitO o) :
    Calls Try.prog 8 #[o.val a n c] w fun e w' => e = .returned (.bool true) ∧ Below w.heap.size w w' := by
  obtain ⟨W, hW⟩ : ∃ W, W = w.alloc (.cells (o.cells a n c) tyO) := ⟨_, rfl⟩
  have hb0 : Below w.heap.size w W := by rw [hW]; exact bl_al (Below.refl _ _) _
  have hx : BxO W w.heap.size o a n c := by rw [hW]; exact BxO.new w o a n c
  obtain ⟨q, hq⟩ : ∃ q, q = w.heap.size := ⟨_, rfl⟩
  rw [← hq] at hx
  have CA := Lib.hid (alive11_any W)
  have HW := Lib.hid (And.intro hW hq)
  have HO := Lib.hid ho
  have HB0 := Lib.hid hb0
  have HX0 := Lib.hid hx
  clear ho hW hq hb0 hx
  go_enter Try.func8, Try.ntmps8
  go_upto_region 1 with fail
  rw [← HW.out.1, ← HW.out.2]
  go_wp2_with fail
  refine CA.out.mono ?_
  rintro e w1 ⟨rfl, hb⟩
  have HB1 := Lib.hid (HB0.out.trans (hb.mono HB0.out.size))
  have hx1 := HX0.out.below hb
  have HX1 := Lib.hid hx1
  have CP := Lib.hid (tputN_t o.f o.dip o.ep o.now w1 HO.out.f)
  obtain ⟨x0, x1, x2, x3, x4, x5, x6, x7, x8, x9, x10⟩ := hx1.cs
  clear CA hb hx1 HB0 HX0
  go_wp2_with fail
  refine CP.out.mono ?_
  rintro e w2 ⟨rfl, hb⟩
  have HB2 := Lib.hid (HB1.out.trans (hb.mono HB1.out.size))
  have hx2 := HX1.out.below hb
  obtain ⟨Y, hY⟩ : ∃ Y, Y = w2.alloc en0.obj := ⟨_, rfl⟩
  have hbY : Below w2.heap.size w2 Y := by rw [hY]; exact bl_al (Below.refl _ _) _
  have hxY := hx2.below hbY
  have HBY := Lib.hid (HB2.out.trans (hbY.mono HB2.out.size))
  have HXY := Lib.hid hxY
  have HY := Lib.hid hY
  have CG := Lib.hid (tgetN_t o.f Y HO.out.f)
  clear CP hb hbY hx2 hY HB1 HX1 x0 x1 x2 x3 x4 x5 x6 x7 x8 x9 x10
  go_upto_region 5 with fail
  rw [← HY.out]
  clear HY
  obtain ⟨x0, x1, x2, x3, x4, x5, x6, x7, x8, x9, x10⟩ := hxY.cs
  clear hxY
  go_wp2_with fail
  refine CG.out.mono ?_
  rintro e w3 ⟨rfl, hb⟩
  rw [show getR none = .tuple #[en0.val, .bool false] from rfl]
  have HB3 := Lib.hid (HBY.out.trans (hb.mono HBY.out.size))
  have hx3 := HXY.out.below hb
  obtain ⟨Z, hZ⟩ : ∃ Z, Z = w3.alloc en0.obj := ⟨_, rfl⟩
  have hbZ : Below w3.heap.size w3 Z := by rw [hZ]; exact bl_al (Below.refl _ _) _
  have hxZ := hx3.below hbZ
  have HBZ := Lib.hid (HB3.out.trans (hbZ.mono HB3.out.size))
  have HXZ := Lib.hid hxZ
  have HZ := Lib.hid hZ
  have CL := Lib.hid (tlenN_t Z)
  clear CG hb hbZ hx3 hZ HBY HXY x0 x1 x2 x3 x4 x5 x6 x7 x8 x9 x10 hxZ
  go_upto_region 6 with fail
  rw [← HZ.out]
  clear HZ
  go_wp2_with fail
  refine CL.out.mono ?_
  rintro e w4 ⟨rfl, hb⟩
  have HB4 := Lib.hid (HBZ.out.trans (hb.mono HBZ.out.size))
  have hx4 := HXZ.out.below hb
  have HX4 := Lib.hid hx4
  have CGo := Lib.hid (refGood_c o.f w4)
  have CT := Lib.hid (fun (V : World) => ttouchN_t o.f o.flags o.now V HO.out.f HO.out.flags HO.out.now)
  have CR := Lib.hid (fun (V : World) => tremN_t [o.f] (some ⟨V.heap.size, 0, none⟩) 1 1 (V.alloc (.cells (csF o.f).toArray tyF)) (one_rowF V o.f) (fun g hg => by rw [List.mem_singleton.1 hg]; exact HO.out.f) (by omega))
  have CX := Lib.hid (fun (V : World) => texpN_t o.now V HO.out.now)
  have CAl := Lib.hid tallN_t
  obtain ⟨x0, x1, x2, x3, x4, x5, x6, x7, x8, x9, x10⟩ := hx4.cs
  clear CL hb hx4 HBZ HXZ
  by_cases hg : GoodF o.f
  · have hgd : decide (GoodF o.f) = true := decide_eq_true hg
    rw [hgd] at CGo
    by_cases n0 : o.now < 0
    · have hc : codeN o.f o.now = 4 := by unfold codeN; rw [if_neg (fun h => h hg), if_pos (by unfold OkN; omega)]
      rw [hc]
      have eq := errEq 4 (by omega)
      clear hg hgd hc
      go_wp2_with fail
      refine CGo.out.mono ?_
      rintro e w5 ⟨rfl, hb⟩
      have HB5 := Lib.hid (HB4.out.trans (hb.mono HB4.out.size))
      have hx5 := HX4.out.below hb
      have HX5 := Lib.hid hx5
      clear CGo hb x0 x1 x2 x3 x4 x5 x6 x7 x8 x9 x10
      obtain ⟨x0, x1, x2, x3, x4, x5, x6, x7, x8, x9, x10⟩ := hx5.cs
      clear hx5
      go_wp2_with fail
      refine (CT.out w5).mono ?_
      rintro e w6 ⟨rfl, hb⟩
      have HB6 := Lib.hid (HB5.out.trans (hb.mono HB5.out.size))
      have hx6 := HX5.out.below hb
      have HX6 := Lib.hid hx6
      clear hb x0 x1 x2 x3 x4 x5 x6 x7 x8 x9 x10
      obtain ⟨x0, x1, x2, x3, x4, x5, x6, x7, x8, x9, x10⟩ := hx6.cs
      clear hx6
      go_wp2_with fail
      refine (CR.out w6).mono ?_
      rintro e w7 ⟨rfl, hb⟩
      have hb7 : Below w6.heap.size w6 w7 := bl_tr (bl_al (Below.refl w6.heap.size w6) _) hb
      have HB7 := Lib.hid (HB6.out.trans (hb7.mono HB6.out.size))
      have hx7 := HX6.out.below hb7
      have HX7 := Lib.hid hx7
      clear hb hb7 x0 x1 x2 x3 x4 x5 x6 x7 x8 x9 x10
      obtain ⟨x0, x1, x2, x3, x4, x5, x6, x7, x8, x9, x10⟩ := hx7.cs
      clear hx7
      go_wp2_with fail
      refine (CX.out w7).mono ?_
      rintro e w8 ⟨a8, c8, rfl, hb⟩
      have HB8 := Lib.hid (HB7.out.trans (hb.mono HB7.out.size))
      clear hb x0 x1 x2 x3 x4 x5 x6 x7 x8 x9 x10
      go_wp2_with fail
      refine (CAl.out w8).mono ?_
      rintro e w9 ⟨a9, c9, rfl, hb⟩
      have HB9 := Lib.hid (HB8.out.trans (hb.mono HB8.out.size))
      clear hb
      go_wp2
      go_ret
      exact ⟨rfl, HB9.out⟩
    · by_cases n1 : 1099511627776 < o.now
      · have hc : codeN o.f o.now = 4 := by unfold codeN; rw [if_neg (fun h => h hg), if_pos (by unfold OkN; omega)]
        rw [hc]
        have eq := errEq 4 (by omega)
        clear hg hgd hc
        go_wp2_with fail
        refine CGo.out.mono ?_
        rintro e w5 ⟨rfl, hb⟩
        have HB5 := Lib.hid (HB4.out.trans (hb.mono HB4.out.size))
        have hx5 := HX4.out.below hb
        have HX5 := Lib.hid hx5
        clear CGo hb x0 x1 x2 x3 x4 x5 x6 x7 x8 x9 x10
        obtain ⟨x0, x1, x2, x3, x4, x5, x6, x7, x8, x9, x10⟩ := hx5.cs
        clear hx5
        go_wp2_with fail
        refine (CT.out w5).mono ?_
        rintro e w6 ⟨rfl, hb⟩
        have HB6 := Lib.hid (HB5.out.trans (hb.mono HB5.out.size))
        have hx6 := HX5.out.below hb
        have HX6 := Lib.hid hx6
        clear hb x0 x1 x2 x3 x4 x5 x6 x7 x8 x9 x10
        obtain ⟨x0, x1, x2, x3, x4, x5, x6, x7, x8, x9, x10⟩ := hx6.cs
        clear hx6
        go_wp2_with fail
        refine (CR.out w6).mono ?_
        rintro e w7 ⟨rfl, hb⟩
        have hb7 : Below w6.heap.size w6 w7 := bl_tr (bl_al (Below.refl w6.heap.size w6) _) hb
        have HB7 := Lib.hid (HB6.out.trans (hb7.mono HB6.out.size))
        have hx7 := HX6.out.below hb7
        have HX7 := Lib.hid hx7
        clear hb hb7 x0 x1 x2 x3 x4 x5 x6 x7 x8 x9 x10
        obtain ⟨x0, x1, x2, x3, x4, x5, x6, x7, x8, x9, x10⟩ := hx7.cs
        clear hx7
        go_wp2_with fail
        refine (CX.out w7).mono ?_
        rintro e w8 ⟨a8, c8, rfl, hb⟩
        have HB8 := Lib.hid (HB7.out.trans (hb.mono HB7.out.size))
        clear hb x0 x1 x2 x3 x4 x5 x6 x7 x8 x9 x10
        go_wp2_with fail
        refine (CAl.out w8).mono ?_
        rintro e w9 ⟨a9, c9, rfl, hb⟩
        have HB9 := Lib.hid (HB8.out.trans (hb.mono HB8.out.size))
        clear hb
        go_wp2
        go_ret
        exact ⟨rfl, HB9.out⟩
      · have hc : codeN o.f o.now = 5 := by unfold codeN; rw [if_neg (fun h => h hg), if_neg (fun h => h ⟨by omega, by omega⟩)]
        rw [hc]
        have eq := errEq 5 (by omega)
        clear hg hgd hc
        go_wp2_with fail
        refine CGo.out.mono ?_
        rintro e w5 ⟨rfl, hb⟩
        have HB5 := Lib.hid (HB4.out.trans (hb.mono HB4.out.size))
        have hx5 := HX4.out.below hb
        have HX5 := Lib.hid hx5
        clear CGo hb x0 x1 x2 x3 x4 x5 x6 x7 x8 x9 x10
        obtain ⟨x0, x1, x2, x3, x4, x5, x6, x7, x8, x9, x10⟩ := hx5.cs
        clear hx5
        go_wp2_with fail
        refine (CT.out w5).mono ?_
        rintro e w6 ⟨rfl, hb⟩
        have HB6 := Lib.hid (HB5.out.trans (hb.mono HB5.out.size))
        have hx6 := HX5.out.below hb
        have HX6 := Lib.hid hx6
        clear hb x0 x1 x2 x3 x4 x5 x6 x7 x8 x9 x10
        obtain ⟨x0, x1, x2, x3, x4, x5, x6, x7, x8, x9, x10⟩ := hx6.cs
        clear hx6
        go_wp2_with fail
        refine (CR.out w6).mono ?_
        rintro e w7 ⟨rfl, hb⟩
        have hb7 : Below w6.heap.size w6 w7 := bl_tr (bl_al (Below.refl w6.heap.size w6) _) hb
        have HB7 := Lib.hid (HB6.out.trans (hb7.mono HB6.out.size))
        have hx7 := HX6.out.below hb7
        have HX7 := Lib.hid hx7
        clear hb hb7 x0 x1 x2 x3 x4 x5 x6 x7 x8 x9 x10
        obtain ⟨x0, x1, x2, x3, x4, x5, x6, x7, x8, x9, x10⟩ := hx7.cs
        clear hx7
        go_wp2_with fail
        refine (CX.out w7).mono ?_
        rintro e w8 ⟨a8, c8, rfl, hb⟩
        have HB8 := Lib.hid (HB7.out.trans (hb.mono HB7.out.size))
        clear hb x0 x1 x2 x3 x4 x5 x6 x7 x8 x9 x10
        go_wp2_with fail
        refine (CAl.out w8).mono ?_
        rintro e w9 ⟨a9, c9, rfl, hb⟩
        have HB9 := Lib.hid (HB8.out.trans (hb.mono HB8.out.size))
        clear hb
        go_wp2
        go_ret
        exact ⟨rfl, HB9.out⟩
  · have hgd : decide (GoodF o.f) = false := decide_eq_false hg
    rw [hgd] at CGo
    have hc : codeN o.f o.now = 9 := if_pos hg
    by_cases n0 : o.now < 0
    · rw [hc]
      have eq := errEq 9 (by omega)
      clear hg hgd hc
      go_wp2_with fail
      refine CGo.out.mono ?_
      rintro e w5 ⟨rfl, hb⟩
      have HB5 := Lib.hid (HB4.out.trans (hb.mono HB4.out.size))
      have hx5 := HX4.out.below hb
      have HX5 := Lib.hid hx5
      clear CGo hb x0 x1 x2 x3 x4 x5 x6 x7 x8 x9 x10
      obtain ⟨x0, x1, x2, x3, x4, x5, x6, x7, x8, x9, x10⟩ := hx5.cs
      clear hx5
      go_wp2_with fail
      refine (CT.out w5).mono ?_
      rintro e w6 ⟨rfl, hb⟩
      have HB6 := Lib.hid (HB5.out.trans (hb.mono HB5.out.size))
      have hx6 := HX5.out.below hb
      have HX6 := Lib.hid hx6
      clear hb x0 x1 x2 x3 x4 x5 x6 x7 x8 x9 x10
      obtain ⟨x0, x1, x2, x3, x4, x5, x6, x7, x8, x9, x10⟩ := hx6.cs
      clear hx6
      go_wp2_with fail
      refine (CR.out w6).mono ?_
      rintro e w7 ⟨rfl, hb⟩
      have hb7 : Below w6.heap.size w6 w7 := bl_tr (bl_al (Below.refl w6.heap.size w6) _) hb
      have HB7 := Lib.hid (HB6.out.trans (hb7.mono HB6.out.size))
      have hx7 := HX6.out.below hb7
      have HX7 := Lib.hid hx7
      clear hb hb7 x0 x1 x2 x3 x4 x5 x6 x7 x8 x9 x10
      obtain ⟨x0, x1, x2, x3, x4, x5, x6, x7, x8, x9, x10⟩ := hx7.cs
      clear hx7
      go_wp2_with fail
      refine (CX.out w7).mono ?_
      rintro e w8 ⟨a8, c8, rfl, hb⟩
      have HB8 := Lib.hid (HB7.out.trans (hb.mono HB7.out.size))
      clear hb x0 x1 x2 x3 x4 x5 x6 x7 x8 x9 x10
      go_wp2_with fail
      refine (CAl.out w8).mono ?_
      rintro e w9 ⟨a9, c9, rfl, hb⟩
      have HB9 := Lib.hid (HB8.out.trans (hb.mono HB8.out.size))
      clear hb
      go_wp2
      go_ret
      exact ⟨rfl, HB9.out⟩
    · by_cases n1 : 1099511627776 < o.now
      · rw [hc]
        have eq := errEq 9 (by omega)
        clear hg hgd hc
        go_wp2_with fail
        refine CGo.out.mono ?_
        rintro e w5 ⟨rfl, hb⟩
        have HB5 := Lib.hid (HB4.out.trans (hb.mono HB4.out.size))
        have hx5 := HX4.out.below hb
        have HX5 := Lib.hid hx5
        clear CGo hb x0 x1 x2 x3 x4 x5 x6 x7 x8 x9 x10
        obtain ⟨x0, x1, x2, x3, x4, x5, x6, x7, x8, x9, x10⟩ := hx5.cs
        clear hx5
        go_wp2_with fail
        refine (CT.out w5).mono ?_
        rintro e w6 ⟨rfl, hb⟩
        have HB6 := Lib.hid (HB5.out.trans (hb.mono HB5.out.size))
        have hx6 := HX5.out.below hb
        have HX6 := Lib.hid hx6
        clear hb x0 x1 x2 x3 x4 x5 x6 x7 x8 x9 x10
        obtain ⟨x0, x1, x2, x3, x4, x5, x6, x7, x8, x9, x10⟩ := hx6.cs
        clear hx6
        go_wp2_with fail
        refine (CR.out w6).mono ?_
        rintro e w7 ⟨rfl, hb⟩
        have hb7 : Below w6.heap.size w6 w7 := bl_tr (bl_al (Below.refl w6.heap.size w6) _) hb
        have HB7 := Lib.hid (HB6.out.trans (hb7.mono HB6.out.size))
        have hx7 := HX6.out.below hb7
        have HX7 := Lib.hid hx7
        clear hb hb7 x0 x1 x2 x3 x4 x5 x6 x7 x8 x9 x10
        obtain ⟨x0, x1, x2, x3, x4, x5, x6, x7, x8, x9, x10⟩ := hx7.cs
        clear hx7
        go_wp2_with fail
        refine (CX.out w7).mono ?_
        rintro e w8 ⟨a8, c8, rfl, hb⟩
        have HB8 := Lib.hid (HB7.out.trans (hb.mono HB7.out.size))
        clear hb x0 x1 x2 x3 x4 x5 x6 x7 x8 x9 x10
        go_wp2_with fail
        refine (CAl.out w8).mono ?_
        rintro e w9 ⟨a9, c9, rfl, hb⟩
        have HB9 := Lib.hid (HB8.out.trans (hb.mono HB8.out.size))
        clear hb
        go_wp2
        go_ret
        exact ⟨rfl, HB9.out⟩
      · rw [hc]
        have eq := errEq 9 (by omega)
        clear hg hgd hc
        go_wp2_with fail
        refine CGo.out.mono ?_
        rintro e w5 ⟨rfl, hb⟩
        have HB5 := Lib.hid (HB4.out.trans (hb.mono HB4.out.size))
        have hx5 := HX4.out.below hb
        have HX5 := Lib.hid hx5
        clear CGo hb x0 x1 x2 x3 x4 x5 x6 x7 x8 x9 x10
        obtain ⟨x0, x1, x2, x3, x4, x5, x6, x7, x8, x9, x10⟩ := hx5.cs
        clear hx5
        go_wp2_with fail
        refine (CT.out w5).mono ?_
        rintro e w6 ⟨rfl, hb⟩
        have HB6 := Lib.hid (HB5.out.trans (hb.mono HB5.out.size))
        have hx6 := HX5.out.below hb
        have HX6 := Lib.hid hx6
        clear hb x0 x1 x2 x3 x4 x5 x6 x7 x8 x9 x10
        obtain ⟨x0, x1, x2, x3, x4, x5, x6, x7, x8, x9, x10⟩ := hx6.cs
        clear hx6
        go_wp2_with fail
        refine (CR.out w6).mono ?_
        rintro e w7 ⟨rfl, hb⟩
        have hb7 : Below w6.heap.size w6 w7 := bl_tr (bl_al (Below.refl w6.heap.size w6) _) hb
        have HB7 := Lib.hid (HB6.out.trans (hb7.mono HB6.out.size))
        have hx7 := HX6.out.below hb7
        have HX7 := Lib.hid hx7
        clear hb hb7 x0 x1 x2 x3 x4 x5 x6 x7 x8 x9 x10
        obtain ⟨x0, x1, x2, x3, x4, x5, x6, x7, x8, x9, x10⟩ := hx7.cs
        clear hx7
        go_wp2_with fail
        refine (CX.out w7).mono ?_
        rintro e w8 ⟨a8, c8, rfl, hb⟩
        have HB8 := Lib.hid (HB7.out.trans (hb.mono HB7.out.size))
        clear hb x0 x1 x2 x3 x4 x5 x6 x7 x8 x9 x10
        go_wp2_with fail
        refine (CAl.out w8).mono ?_
        rintro e w9 ⟨a9, c9, rfl, hb⟩
        have HB9 := Lib.hid (HB8.out.trans (hb.mono HB8.out.size))
        clear hb
        go_wp2
        go_ret
        exact ⟨rfl, HB9.out⟩
end Go.Proofs.Ytbecilepgphpbaa
