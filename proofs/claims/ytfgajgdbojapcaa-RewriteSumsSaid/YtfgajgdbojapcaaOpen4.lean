/- From the guide's word for arguments to the Rewritten of layer 4; its box. No conditions. -/
import Derived.Test.YtfgajgdbojapcaaOpen
import Derived.Test.YtfgajgdbojapcaaPkB
namespace Go.Proofs.Ytfgajgdbojapcaa
open Go Go.RowKit Go.ChangeShapes Go.WideShapes
set_option linter.unusedVariables false
set_option linter.unusedSimpArgs false

abbrev xcs (a : Option Addr) (n c : Nat) (A P : Int) (g : Pk) : Array Value := #[.slice a n c, .int .u32 A, .int .i64 P, .int .i64 g.proto, .int .u32 g.src, .int .i64 g.sp, .int .u32 g.dst, .int .i64 g.dp]
abbrev xval (a : Option Addr) (n c : Nat) (A P : Int) (g : Pk) : Value := .agg (xcs a n c A P g)
abbrev xobj (a : Option Addr) (n c : Nat) (A P : Int) (g : Pk) : Obj := .cells (xcs a n c A P g) 58
structure XAt (w : World) (b : Nat) (a : Option Addr) (n c : Nat) (A P : Int) (g : Pk) : Prop where
  c0 : w.cell? ⟨b, 0, none⟩ = some (.slice a n c)
  c1 : w.cell? ⟨b, 1, none⟩ = some (.int .u32 A)
  c2 : w.cell? ⟨b, 2, none⟩ = some (.int .i64 P)
  c3 : w.cell? ⟨b, 3, none⟩ = some (.int .i64 g.proto)
  c4 : w.cell? ⟨b, 4, none⟩ = some (.int .u32 g.src)
  c5 : w.cell? ⟨b, 5, none⟩ = some (.int .i64 g.sp)
  c6 : w.cell? ⟨b, 6, none⟩ = some (.int .u32 g.dst)
  c7 : w.cell? ⟨b, 7, none⟩ = some (.int .i64 g.dp)
theorem XAt.new (w : World) (a : Option Addr) (n c : Nat) (A P : Int) (g : Pk) : XAt (w.alloc (xobj a n c A P g)) w.heap.size a n c A P g := by
  constructor <;> simp [go_sem]
theorem XAt.lt {w : World} {b : Nat} {a : Option Addr} {n c : Nat} {A P : Int} {g : Pk} (h : XAt w b a n c A P g) : b < w.heap.size := World.block_lt_of_cell? _ _ h.c0
theorem XAt.below {w w' : World} {b B : Nat} {a : Option Addr} {n c : Nat} {A P : Int} {g : Pk} (h : XAt w b a n c A P g) (hB : Below B w w') (hb : b < B) : XAt w' b a n c A P g :=
  ⟨(hB.cell (p := ⟨b, 0, none⟩) hb).trans h.c0, (hB.cell (p := ⟨b, 1, none⟩) hb).trans h.c1, (hB.cell (p := ⟨b, 2, none⟩) hb).trans h.c2, (hB.cell (p := ⟨b, 3, none⟩) hb).trans h.c3, (hB.cell (p := ⟨b, 4, none⟩) hb).trans h.c4, (hB.cell (p := ⟨b, 5, none⟩) hb).trans h.c5, (hB.cell (p := ⟨b, 6, none⟩) hb).trans h.c6, (hB.cell (p := ⟨b, 7, none⟩) hb).trans h.c7⟩
/-- The box, and that nothing old has turned. -/
structure XBox (w : World) (a : Option Addr) (n c : Nat) (A P : Int) (g : Pk) (wx : World) : Prop where
  here : XAt wx w.heap.size a n c A P g
  below : Below w.heap.size w wx
theorem XBox.start (w : World) (a : Option Addr) (n c : Nat) (A P : Int) (g : Pk) : ∃ W, w.alloc (xobj a n c A P g) = W ∧ XBox w a n c A P g W := ⟨_, rfl, XAt.new _ _ _ _ _ _ _, bl_al (Below.refl _ _) _⟩
theorem XBox.next {w : World} {a : Option Addr} {n c : Nat} {A P : Int} {g : Pk} {wx wy : World} (h : XBox w a n c A P g wx) (hb : Below wx.heap.size wx wy) : XBox w a n c A P g wy := ⟨h.here.below hb h.here.lt, bl_tr h.below hb⟩

theorem cells58 : Try.prog.cellsOf 58 = 8 := by kernel_rfl
set_option maxRecDepth 100000 in
/-- A Rewritten by value. -/
theorem open_rw {H : Type} {enc : TypeId × Value → H} {W : World} {r : Reach} {b0 : Nat} {v : Value} {d : DataW H} {ps : List MemPlace}
    (hv : Value.okWide Try.prog W r b0 58 v) (h : DataW.Trod enc Try.prog W 0 (fun _ => true) true 58 v d ps) (hw : (d.weights Try.prog 58).all (· ≤ reachBytes) = true) :
    ∃ (a : Option Addr) (n c : Nat) (l : List Int) (A P : Int) (g : Pk), v = xval a n c A P g ∧ In W a n c l ∧ (0 ≤ A ∧ A < 4294967296) ∧ (0 ≤ g.src ∧ g.src < 4294967296) ∧ (0 ≤ g.dst ∧ g.dst < 4294967296) ∧ n ≤ 140737488351232 := by
  obtain ⟨⟨l⟩, rfl, hsz⟩ := okWide_struct Try.underlying58 hv
  rw [cells58] at hsz
  obtain ⟨fuel, hf⟩ := h
  obtain ⟨xs, n, _, hx, _, hlen, hg⟩ := DataW.trod_struct Try.underlying58 hf
  match l, hsz with
  | [c0, c1, c2, c3, c4, c5, c6, c7], _ =>
    match xs, hlen with
    | [y0, y1, y2, y3], _ =>
      have g0 : DataW.trod enc Try.prog W 0 (fun _ => true) true n 26 [c0] = some y0 := by simpa [Value.cells, cells26] using hg 0 _ rfl
      have g1 : DataW.trod enc Try.prog W 0 (fun _ => true) true n 23 [c1] = some y1 := by simpa [Value.cells, cells23] using hg 1 _ rfl
      have g2 : DataW.trod enc Try.prog W 0 (fun _ => true) true n 3 [c2] = some y2 := by simpa [Value.cells, cells3] using hg 2 _ rfl
      have g3 : DataW.trod enc Try.prog W 0 (fun _ => true) true n 25 [c3, c4, c5, c6, c7] = some y3 := by simpa [Value.cells, cells25] using hg 3 _ rfl
      obtain ⟨z1, e1, _, w1⟩ := DataW.trod_int Try.underlying23 g1
      obtain ⟨z2, e2, _, w2⟩ := DataW.trod_int Try.underlying3 g2
      obtain ⟨us, m, _, _, _, hlen2, hg2⟩ := DataW.trod_struct Try.underlying25 g3
      match us, hlen2 with
      | [u0, u1, u2, u3, u4], _ =>
        have k0 : DataW.trod enc Try.prog W 0 (fun _ => true) true m 3 [c3] = some u0 := by simpa [Value.cells, cells3] using hg2 0 _ rfl
        have k1 : DataW.trod enc Try.prog W 0 (fun _ => true) true m 23 [c4] = some u1 := by simpa [Value.cells, cells23] using hg2 1 _ rfl
        have k2 : DataW.trod enc Try.prog W 0 (fun _ => true) true m 3 [c5] = some u2 := by simpa [Value.cells, cells3] using hg2 2 _ rfl
        have k3 : DataW.trod enc Try.prog W 0 (fun _ => true) true m 23 [c6] = some u3 := by simpa [Value.cells, cells23] using hg2 3 _ rfl
        have k4 : DataW.trod enc Try.prog W 0 (fun _ => true) true m 3 [c7] = some u4 := by simpa [Value.cells, cells3] using hg2 4 _ rfl
        obtain ⟨z3, e3, _, w3⟩ := DataW.trod_int Try.underlying3 k0
        obtain ⟨z4, e4, _, w4⟩ := DataW.trod_int Try.underlying23 k1
        obtain ⟨z5, e5, _, w5⟩ := DataW.trod_int Try.underlying3 k2
        obtain ⟨z6, e6, _, w6⟩ := DataW.trod_int Try.underlying23 k3
        obtain ⟨z7, e7, _, w7⟩ := DataW.trod_int Try.underlying3 k4
        simp only [List.cons.injEq, and_true] at e1 e2 e3 e4 e5 e6 e7
        subst e1 e2 e3 e4 e5 e6 e7
        have hd : d = .agg ([y0, y1, y2, y3].map (·.1)) := by
          simp only [Prod.mk.injEq] at hx
          exact hx.1
        rw [hd] at hw
        have hw0 := weights_at (j := 0) (t := 26) (d := y0.1) (by
          have := hw
          simp only [DataW.weights, Try.underlying58] at this
          exact this) rfl rfl
        obtain ⟨a, k, c, dl, rfl, hI, hk⟩ := open_row1 g0 hw0
        exact ⟨a, k, c, dl, z1, z2, ⟨0, 0, 0, z3, z4, z5, z6, z7, 0, 0, 0, 0, []⟩, rfl, hI, u32_of w1, u32_of w4, u32_of w6, hk⟩
end Go.Proofs.Ytfgajgdbojapcaa
