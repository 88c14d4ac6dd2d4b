/- Facts for RewriteSums: making a pair of words minds no draw. No conditions. -/
import Derived.Test.YtfgajgdbojapcaaSumsW
import Derived.Test.YtfgajgdbojapcaaQFirst
namespace Go.Proofs.Ytfgajgdbojapcaa
open Go Go.RowKit
set_option linter.unusedVariables false
set_option linter.unusedSimpArgs false

theorem pair_run (o : Oper) (h : o.op = .alloc 66) (a : Act) (w : World) : (execOp a.eval o).run Try.prog w = .ok (.value (.pointer (some ⟨w.heap.size, 0, none⟩))) (w.alloc (.cells #[.int .u16 0, .int .u16 0] 66)) := by
  obtain ⟨d, op, ty, pos, af, g⟩ := o
  obtain rfl : op = .alloc 66 := h
  kernel_rfl
theorem pair_deaf (o : Oper) (h : o.op = .alloc 66) (hg : o.guard = none) : Deaf Try.prog o := by
  refine ⟨hg, ?_, fun a w => ⟨?_, .pointer (some ⟨w.heap.size, 0, none⟩), w.alloc (.cells #[.int .u16 0, .int .u16 0] 66), fun k => pair_run o h a (w.drewN k)⟩⟩
  · intro cs b e
    rw [h] at e
    cases e
  rintro ⟨h1, _⟩
  have e : (execOp a.eval o).runT Try.prog w #[] = (.ok (.value (.pointer (some ⟨w.heap.size, 0, none⟩))) (w.alloc (.cells #[.int .u16 0, .int .u16 0] 66)), #[]) := by
    obtain ⟨d, op, ty, pos, af, g⟩ := o
    obtain rfl : op = .alloc 66 := h
    kernel_rfl
  rw [e] at h1
  simp at h1
/-- A pair of words lies there, and may be written. -/
structure Pair (w : World) (x : Nat) (u v : Int) : Prop where
  c0 : w.cell? ⟨x, 0, none⟩ = some (.int .u16 u)
  c1 : w.cell? ⟨x, 1, none⟩ = some (.int .u16 v)
  f0 : w.frozen? ⟨x, 0, none⟩ = false
  f1 : w.frozen? ⟨x, 1, none⟩ = false
theorem Pair.lt {w : World} {x : Nat} {u v : Int} (h : Pair w x u v) : x < w.heap.size := World.block_lt_of_cell? _ _ h.c0
theorem Pair.new (w : World) : Pair (w.alloc (.cells #[.int .u16 0, .int .u16 0] 66)) w.heap.size 0 0 :=
  ⟨cells_new w [.int .u16 0, .int .u16 0] _ (0, 0) 0 _ rfl, cells_new w [.int .u16 0, .int .u16 0] _ (0, 0) 1 _ rfl, World.frozen?_alloc_new _ _ _ _, World.frozen?_alloc_new _ _ _ _⟩
theorem Pair.alloc {w : World} {x : Nat} {u v : Int} (h : Pair w x u v) (o : Obj) : Pair (w.alloc o) x u v := by
  have hn : x ≠ w.heap.size := Nat.ne_of_lt h.lt
  exact ⟨(World.cell?_alloc_lt _ _ _ h.lt).trans h.c0, (World.cell?_alloc_lt _ _ _ h.lt).trans h.c1, (World.frozen?_alloc_old _ _ _ hn).trans h.f0, (World.frozen?_alloc_old _ _ _ hn).trans h.f1⟩
/-- The pair behind the writing of both words. -/
def put2 (w : World) (x : Nat) (u v : Int) : World := (w.setCell ⟨x, 0, none⟩ (.int .u16 u)).setCell ⟨x, 1, none⟩ (.int .u16 v)
theorem Pair.set {w : World} {x : Nat} {u v : Int} (h : Pair w x u v) (r s : Int) : Pair (put2 w x r s) x r s := by
  have h1 : (⟨x, 0, none⟩ : Addr) ≠ ⟨x, 1, none⟩ := by intro e; cases e
  have c1 : (w.setCell ⟨x, 0, none⟩ (.int .u16 r)).cell? ⟨x, 1, none⟩ = some (.int .u16 v) := (World.cell?_setCell_other _ _ _ _ h1).trans h.c1
  refine ⟨(World.cell?_setCell_other _ _ _ _ h1.symm).trans (World.cell?_setCell_same _ _ _ h.c0), World.cell?_setCell_same _ _ _ c1, ?_, ?_⟩
  · unfold put2; rw [World.frozen?_setCell, World.frozen?_setCell]; exact h.f0
  · unfold put2; rw [World.frozen?_setCell, World.frozen?_setCell]; exact h.f1
theorem Pair.far {w : World} {x y : Nat} {u v : Int} (h : Pair w x u v) (r s : Int) (hxy : y ≠ x) : Pair (put2 w y r s) x u v := by
  have h1 : ∀ i j, (⟨y, i, none⟩ : Addr) ≠ ⟨x, j, none⟩ := by intro i j e; exact hxy (congrArg Addr.block e)
  refine ⟨(World.cell?_setCell_other _ _ _ _ (h1 _ _)).trans ((World.cell?_setCell_other _ _ _ _ (h1 _ _)).trans h.c0), (World.cell?_setCell_other _ _ _ _ (h1 _ _)).trans ((World.cell?_setCell_other _ _ _ _ (h1 _ _)).trans h.c1), ?_, ?_⟩
  · unfold put2; rw [World.frozen?_setCell, World.frozen?_setCell]; exact h.f0
  · unfold put2; rw [World.frozen?_setCell, World.frozen?_setCell]; exact h.f1
theorem pair_store (o : Oper) (p v : Operand) (h : o.op = .store 66 p v) (a : Act) (w : World) {x : Nat} {u u' r s : Int} (hp : a.eval p = .pointer (some ⟨x, 0, none⟩)) (hv : a.eval v = .agg #[.int .u16 r, .int .u16 s]) (hw : Pair w x u u') : (execOp a.eval o).run Try.prog w = .ok .skip (put2 w x r s) := by
  obtain ⟨d, op, ty, pos, af, g⟩ := o
  obtain rfl : op = .store 66 p v := h
  obtain ⟨c0, c1, f0, f1⟩ := hw
  have c1' : (w.setCell ⟨x, 0, none⟩ (.int .u16 r)).cell? ⟨x, 1, none⟩ = some (.int .u16 u') := (World.cell?_setCell_other _ _ _ _ (by intro e; cases e)).trans c1
  have f1' : (w.setCell ⟨x, 0, none⟩ (.int .u16 r)).frozen? ⟨x, 1, none⟩ = false := by rw [World.frozen?_setCell]; exact f1
  unfold put2
  have e : execOp a.eval ⟨d, .store 66 p v, ty, pos, af, g⟩ = execOp a.eval ⟨d, .store 66 (.const (.pointer (some ⟨x, 0, none⟩))) (.const (.agg #[.int .u16 r, .int .u16 s])), ty, pos, af, g⟩ := by
    simp only [execOp, hp, hv]
    rfl
  rw [e]
  clear e hp hv
  go_simp
/-- Three pairs made behind one another: all the world has changed by. -/
structure Room3 (w Z : World) (x y z : Nat) : Prop where
  below : Below w.heap.size w Z
  px : Pair Z x 0 0
  py : Pair Z y 0 0
  pz : Pair Z z 0 0
  gx : w.heap.size ≤ x
  gy : w.heap.size ≤ y
  gz : w.heap.size ≤ z
  xy : x ≠ y
  xz : x ≠ z
  yz : y ≠ z
theorem Room3.new {w Y : World} (h : Below w.heap.size w Y) (Y1 Y2 Z : World) (h1 : Y1 = Y.alloc (.cells #[.int .u16 0, .int .u16 0] 66)) (h2 : Y2 = Y1.alloc (.cells #[.int .u16 0, .int .u16 0] 66)) (h3 : Z = Y2.alloc (.cells #[.int .u16 0, .int .u16 0] 66)) : Room3 w Z Y.heap.size Y1.heap.size Y2.heap.size := by
  have s := h.size
  have s1 : Y1.heap.size = Y.heap.size + 1 := by rw [h1]; simp
  have s2 : Y2.heap.size = Y1.heap.size + 1 := by rw [h2]; simp
  have p1 : Pair Y1 Y.heap.size 0 0 := by rw [h1]; exact Pair.new _
  have p2 : Pair Y2 Y1.heap.size 0 0 := by rw [h2]; exact Pair.new _
  have p3 : Pair Z Y2.heap.size 0 0 := by rw [h3]; exact Pair.new _
  have q1 : Pair Z Y.heap.size 0 0 := by rw [h3, h2]; exact (p1.alloc _).alloc _
  have q2 : Pair Z Y1.heap.size 0 0 := by rw [h3]; exact p2.alloc _
  exact ⟨by rw [h3, h2, h1]; exact bl_al (bl_al (bl_al h _) _) _, q1, q2, p3, s, by omega, by omega, by omega, by omega, by omega⟩
theorem Room3.swap12 {w Z : World} {x y z : Nat} (h : Room3 w Z x y z) : Room3 w Z y x z := ⟨h.below, h.py, h.px, h.pz, h.gy, h.gx, h.gz, h.xy.symm, h.yz, h.xz⟩
theorem Room3.swap23 {w Z : World} {x y z : Nat} (h : Room3 w Z x y z) : Room3 w Z x z y := ⟨h.below, h.px, h.pz, h.py, h.gx, h.gz, h.gy, h.xz, h.xy, h.yz.symm⟩
theorem put2_below {B : Nat} {w Z : World} (h : Below B w Z) {x : Nat} (hx : B ≤ x) (u v : Int) : Below B w (put2 Z x u v) := (h.setCell (p := ⟨x, 0, none⟩) hx _).setCell (p := ⟨x, 1, none⟩) hx _
/-- The three pairs, each in its block. -/
structure Trio (w : World) (d1 A1 d2 A2 dp P : Int) (x y z : Nat) (wx : World) : Prop where
  below : Below w.heap.size w wx
  px : Pair wx x d1 A1
  py : Pair wx y d2 A2
  pz : Pair wx z dp P
theorem Trio.of {w Z : World} {x y z : Nat} (h : Room3 w Z x y z) (d1 A1 d2 A2 dp P : Int) : Trio w d1 A1 d2 A2 dp P x y z (put2 (put2 (put2 Z x d1 A1) y d2 A2) z dp P) :=
  ⟨put2_below (put2_below (put2_below h.below h.gx _ _) h.gy _ _) h.gz _ _, ((h.px.set _ _).far _ _ h.xy.symm).far _ _ h.xz.symm, ((h.py.far _ _ h.xy).set _ _).far _ _ h.yz.symm, ((h.pz.far _ _ h.xz).far _ _ h.yz).set _ _⟩
end Go.Proofs.Ytfgajgdbojapcaa
