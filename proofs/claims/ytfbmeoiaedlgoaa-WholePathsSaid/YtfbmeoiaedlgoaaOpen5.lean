/- From the guide's word for arguments to the Slip of layer 5 and the Path of the whole; the Path's box. No conditions. -/
import Derived.Test.YtfbmeoiaedlgoaaOpen
import Derived.Test.YtfbmeoiaedlgoaaPkB
namespace Go.Proofs.Ytfbmeoiaedlgoaa
open Go Go.RowKit Go.ChangeShapes Go.WideShapes
set_option linter.unusedVariables false
set_option linter.unusedSimpArgs false

set_option maxRecDepth 100000 in
/-- A packet's cells. -/
theorem open_pkc {H : Type} {enc : TypeId × Value → H} {W : World} {fuel : Nat} {c0 c1 c2 c3 c4 c5 c6 c7 c8 c9 c10 c11 c12 : Value} {x : DataW H × List MemPlace}
    (hf : DataW.trod enc Try.prog W 0 (fun _ => true) true fuel 49 [c0, c1, c2, c3, c4, c5, c6, c7, c8, c9, c10, c11, c12] = some x) (hw : (x.1.weights Try.prog 49).all (· ≤ reachBytes) = true) :
    ∃ (q : Pk) (a : Option Addr) (n c : Nat), [c0, c1, c2, c3, c4, c5, c6, c7, c8, c9, c10, c11, c12] = (q.cs a n c).toList ∧ In W a n c q.data ∧ Typed q ∧ n ≤ 140737488351232 := by
  obtain ⟨xs, n, _, hx, _, hlen, hg⟩ := DataW.trod_struct Try.underlying49 hf
  match xs, hlen with
  | [y0, y1, y2, y3, y4, y5, y6, y7, y8], _ =>
    have g0 : DataW.trod enc Try.prog W 0 (fun _ => true) true n 3 [c0] = some y0 := by simpa [Value.cells, cells3] using hg 0 _ rfl
    have g1 : DataW.trod enc Try.prog W 0 (fun _ => true) true n 3 [c1] = some y1 := by simpa [Value.cells, cells3] using hg 1 _ rfl
    have g2 : DataW.trod enc Try.prog W 0 (fun _ => true) true n 3 [c2] = some y2 := by simpa [Value.cells, cells3] using hg 2 _ rfl
    have g3 : DataW.trod enc Try.prog W 0 (fun _ => true) true n 44 [c3, c4, c5, c6, c7] = some y3 := by simpa [Value.cells, cells25] using hg 3 _ rfl
    have g4 : DataW.trod enc Try.prog W 0 (fun _ => true) true n 22 [c8] = some y4 := by simpa [Value.cells, cells22] using hg 4 _ rfl
    have g5 : DataW.trod enc Try.prog W 0 (fun _ => true) true n 22 [c9] = some y5 := by simpa [Value.cells, cells22] using hg 5 _ rfl
    have g6 : DataW.trod enc Try.prog W 0 (fun _ => true) true n 3 [c10] = some y6 := by simpa [Value.cells, cells3] using hg 6 _ rfl
    have g7 : DataW.trod enc Try.prog W 0 (fun _ => true) true n 3 [c11] = some y7 := by simpa [Value.cells, cells3] using hg 7 _ rfl
    have g8 : DataW.trod enc Try.prog W 0 (fun _ => true) true n 24 [c12] = some y8 := by simpa [Value.cells, cells26] using hg 8 _ rfl
    obtain ⟨z0, e0, _, w0⟩ := DataW.trod_int Try.underlying3 g0
    obtain ⟨z1, e1, _, w1⟩ := DataW.trod_int Try.underlying3 g1
    obtain ⟨z2, e2, _, w2⟩ := DataW.trod_int Try.underlying3 g2
    obtain ⟨z8, e8, _, w8⟩ := DataW.trod_int Try.underlying22 g4
    obtain ⟨z9, e9, _, w9⟩ := DataW.trod_int Try.underlying22 g5
    obtain ⟨z10, e10, _, w10⟩ := DataW.trod_int Try.underlying3 g6
    obtain ⟨z11, e11, _, w11⟩ := DataW.trod_int Try.underlying3 g7
    obtain ⟨us, m, _, _, _, hlen2, hg2⟩ := DataW.trod_struct Try.underlying44 g3
    match us, hlen2 with
    | [u0, u1, u2, u3, u4], _ =>
      have k0 : DataW.trod enc Try.prog W 0 (fun _ => true) true m 3 [c3] = some u0 := by simpa [Value.cells, cells3] using hg2 0 _ rfl
      have k1 : DataW.trod enc Try.prog W 0 (fun _ => true) true m 23 [c4] = some u1 := by simpa [Value.cells, cells23] using hg2 1 _ rfl
      have k2 : DataW.trod enc Try.prog W 0 (fun _ => true) true m 3 [c5] = some u2 := by simpa [Value.cells, cells3] using hg2 2 _ rfl
      have k3 : DataW.trod enc Try.prog W 0 (fun _ => true) true m 23 [c6] = some u3 := by simpa [Value.cells, cells23] using hg2 3 _ rfl
      have k4 : DataW.trod enc Try.prog W 0 (fun _ => true) true m 3 [c7] = some u4 := by simpa [Value.cells, cells3] using hg2 4 _ rfl
      obtain ⟨z3, e3, _, w3⟩ := DataW.trod_int Try.underlying3 k0
      obtain ⟨z4, e4, _, w4⟩ := DataW.trod_int Try.underlying23 k1
      obtain ⟨z5, e5, _, w5⟩ := DataW.trod_int Try.underlying3 k2
      obtain ⟨z6, e6, _, w6⟩ := DataW.trod_int Try.underlying23 k3
      obtain ⟨z7, e7, _, w7⟩ := DataW.trod_int Try.underlying3 k4
      simp only [List.cons.injEq, and_true] at e0 e1 e2 e3 e4 e5 e6 e7 e8 e9 e10 e11
      subst e0 e1 e2 e3 e4 e5 e6 e7 e8 e9 e10 e11
      have hd : x.1 = .agg ([y0, y1, y2, y3, y4, y5, y6, y7, y8].map (·.1)) := by rw [hx]
      rw [hd] at hw
      have hw8 := weights_at (j := 8) (t := 24) (d := y8.1) (by
        have := hw
        simp only [DataW.weights, Try.underlying49] at this
        exact this) rfl rfl
      obtain ⟨a, k, c, dl, rfl, hI, hk⟩ := open_row1 g8 hw8
      exact ⟨⟨z0, z1, z2, z3, z4, z5, z6, z7, z8, z9, z10, z11, dl⟩, a, k, c, rfl, hI, ⟨u32_of w4, u32_of w6, u32_of w8, u32_of w9, hI.fit⟩, hk⟩
abbrev slipcs (s d : Int) (p : Pk) (a : Option Addr) (n c : Nat) (i : Int) : Array Value := #[.int .u32 s, .int .u32 d, .int .i64 p.tos, .int .i64 p.id, .int .i64 p.ttl, .int .i64 p.proto, .int .u32 p.src, .int .i64 p.sp, .int .u32 p.dst, .int .i64 p.dp, .int .u32 p.seq, .int .u32 p.ack, .int .i64 p.flags, .int .i64 p.win, .slice a n c, .int .i64 i]
abbrev slipval (s d : Int) (p : Pk) (a : Option Addr) (n c : Nat) (i : Int) : Value := .agg (slipcs s d p a n c i)
abbrev pathcs (p : Pk) (a : Option Addr) (n c : Nat) (V vp D dp A B : Int) : Array Value := #[.int .i64 p.tos, .int .i64 p.id, .int .i64 p.ttl, .int .i64 p.proto, .int .u32 p.src, .int .i64 p.sp, .int .u32 p.dst, .int .i64 p.dp, .int .u32 p.seq, .int .u32 p.ack, .int .i64 p.flags, .int .i64 p.win, .slice a n c, .int .u32 V, .int .i64 vp, .int .u32 D, .int .i64 dp, .int .u32 A, .int .u32 B]
abbrev pathval (p : Pk) (a : Option Addr) (n c : Nat) (V vp D dp A B : Int) : Value := .agg (pathcs p a n c V vp D dp A B)
theorem cells_slip : Try.prog.cellsOf 51 = 16 := by kernel_rfl
set_option maxRecDepth 100000 in
theorem open_slip {H : Type} {enc : TypeId × Value → H} {W : World} {r : Reach} {b0 : Nat} {v : Value} {d : DataW H} {ps : List MemPlace}
    (hv : Value.okWide Try.prog W r b0 51 v) (h : DataW.Trod enc Try.prog W 0 (fun _ => true) true 51 v d ps) (hw : (d.weights Try.prog 51).all (· ≤ reachBytes) = true) :
    ∃ (s d : Int) (p : Pk) (a : Option Addr) (n c : Nat) (i : Int), v = slipval s d p a n c i ∧ In W a n c p.data ∧ Typed p ∧ (0 ≤ s ∧ s < 4294967296) ∧ (0 ≤ d ∧ d < 4294967296) ∧ True ∧ n ≤ 140737488351232 := by
  obtain ⟨⟨l⟩, rfl, hsz⟩ := okWide_struct Try.underlying51 hv
  rw [cells_slip] at hsz
  obtain ⟨fuel, hf⟩ := h
  obtain ⟨xs, n, _, hx, _, hlen, hg⟩ := DataW.trod_struct Try.underlying51 hf
  match l, hsz with
  | [c0, c1, c2, c3, c4, c5, c6, c7, c8, c9, c10, c11, c12, c13, c14, c15], _ =>
    match xs, hlen with
    | [y0, y1, y2, y3], _ =>
      have g0 : DataW.trod enc Try.prog W 0 (fun _ => true) true n 23 [c0] = some y0 := by simpa [Value.cells, cells28, cells3, cells23] using hg 0 _ rfl
      have g1 : DataW.trod enc Try.prog W 0 (fun _ => true) true n 23 [c1] = some y1 := by simpa [Value.cells, cells28, cells3, cells23] using hg 1 _ rfl
      have g2 : DataW.trod enc Try.prog W 0 (fun _ => true) true n 49 [c2, c3, c4, c5, c6, c7, c8, c9, c10, c11, c12, c13, c14] = some y2 := by simpa [Value.cells, cells28, cells3, cells23] using hg 2 _ rfl
      have g3 : DataW.trod enc Try.prog W 0 (fun _ => true) true n 3 [c15] = some y3 := by simpa [Value.cells, cells28, cells3, cells23] using hg 3 _ rfl
      obtain ⟨z0, e0, _, w0⟩ := DataW.trod_int Try.underlying23 g0
      obtain ⟨z1, e1, _, w1⟩ := DataW.trod_int Try.underlying23 g1
      obtain ⟨z3, e3, _, w3⟩ := DataW.trod_int Try.underlying3 g3
      simp only [List.cons.injEq, and_true] at e0 e1 e3
      subst e0 e1 e3
      have hd : d = .agg ([y0, y1, y2, y3].map (·.1)) := by
        simp only [Prod.mk.injEq] at hx
        exact hx.1
      rw [hd] at hw
      have hwp := weights_at (j := 2) (t := 49) (d := y2.1) (by
        have := hw
        simp only [DataW.weights, Try.underlying51] at this
        exact this) rfl rfl
      obtain ⟨q, a, k, c, hc, hI, ht, hk⟩ := open_pkc g2 hwp
      simp only [List.cons.injEq, and_true] at hc
      obtain ⟨rfl, rfl, rfl, rfl, rfl, rfl, rfl, rfl, rfl, rfl, rfl, rfl, rfl⟩ := hc
      exact ⟨z0, z1, q, a, k, c, z3, rfl, hI, ht, u32_of w0, u32_of w1, trivial, hk⟩
theorem cells_path : Try.prog.cellsOf 58 = 19 := by kernel_rfl
set_option maxRecDepth 100000 in
theorem open_path {H : Type} {enc : TypeId × Value → H} {W : World} {r : Reach} {b0 : Nat} {v : Value} {d : DataW H} {ps : List MemPlace}
    (hv : Value.okWide Try.prog W r b0 58 v) (h : DataW.Trod enc Try.prog W 0 (fun _ => true) true 58 v d ps) (hw : (d.weights Try.prog 58).all (· ≤ reachBytes) = true) :
    ∃ (p : Pk) (a : Option Addr) (n c : Nat) (V vp D dp A B : Int), v = pathval p a n c V vp D dp A B ∧ In W a n c p.data ∧ Typed p ∧ (0 ≤ V ∧ V < 4294967296) ∧ (0 ≤ D ∧ D < 4294967296) ∧ (0 ≤ A ∧ A < 4294967296) ∧ (0 ≤ B ∧ B < 4294967296) ∧ n ≤ 140737488351232 := by
  obtain ⟨⟨l⟩, rfl, hsz⟩ := okWide_struct Try.underlying58 hv
  rw [cells_path] at hsz
  obtain ⟨fuel, hf⟩ := h
  obtain ⟨xs, n, _, hx, _, hlen, hg⟩ := DataW.trod_struct Try.underlying58 hf
  match l, hsz with
  | [c0, c1, c2, c3, c4, c5, c6, c7, c8, c9, c10, c11, c12, c13, c14, c15, c16, c17, c18], _ =>
    match xs, hlen with
    | [y0, y1, y2, y3, y4, y5, y6], _ =>
      have g0 : DataW.trod enc Try.prog W 0 (fun _ => true) true n 49 [c0, c1, c2, c3, c4, c5, c6, c7, c8, c9, c10, c11, c12] = some y0 := by simpa [Value.cells, cells28, cells3, cells23] using hg 0 _ rfl
      have g1 : DataW.trod enc Try.prog W 0 (fun _ => true) true n 23 [c13] = some y1 := by simpa [Value.cells, cells28, cells3, cells23] using hg 1 _ rfl
      have g2 : DataW.trod enc Try.prog W 0 (fun _ => true) true n 3 [c14] = some y2 := by simpa [Value.cells, cells28, cells3, cells23] using hg 2 _ rfl
      have g3 : DataW.trod enc Try.prog W 0 (fun _ => true) true n 23 [c15] = some y3 := by simpa [Value.cells, cells28, cells3, cells23] using hg 3 _ rfl
      have g4 : DataW.trod enc Try.prog W 0 (fun _ => true) true n 3 [c16] = some y4 := by simpa [Value.cells, cells28, cells3, cells23] using hg 4 _ rfl
      have g5 : DataW.trod enc Try.prog W 0 (fun _ => true) true n 23 [c17] = some y5 := by simpa [Value.cells, cells28, cells3, cells23] using hg 5 _ rfl
      have g6 : DataW.trod enc Try.prog W 0 (fun _ => true) true n 23 [c18] = some y6 := by simpa [Value.cells, cells28, cells3, cells23] using hg 6 _ rfl
      obtain ⟨z1, e1, _, w1⟩ := DataW.trod_int Try.underlying23 g1
      obtain ⟨z2, e2, _, w2⟩ := DataW.trod_int Try.underlying3 g2
      obtain ⟨z3, e3, _, w3⟩ := DataW.trod_int Try.underlying23 g3
      obtain ⟨z4, e4, _, w4⟩ := DataW.trod_int Try.underlying3 g4
      obtain ⟨z5, e5, _, w5⟩ := DataW.trod_int Try.underlying23 g5
      obtain ⟨z6, e6, _, w6⟩ := DataW.trod_int Try.underlying23 g6
      simp only [List.cons.injEq, and_true] at e1 e2 e3 e4 e5 e6
      subst e1 e2 e3 e4 e5 e6
      have hd : d = .agg ([y0, y1, y2, y3, y4, y5, y6].map (·.1)) := by
        simp only [Prod.mk.injEq] at hx
        exact hx.1
      rw [hd] at hw
      have hwp := weights_at (j := 0) (t := 49) (d := y0.1) (by
        have := hw
        simp only [DataW.weights, Try.underlying58] at this
        exact this) rfl rfl
      obtain ⟨q, a, k, c, hc, hI, ht, hk⟩ := open_pkc g0 hwp
      simp only [List.cons.injEq, and_true] at hc
      obtain ⟨rfl, rfl, rfl, rfl, rfl, rfl, rfl, rfl, rfl, rfl, rfl, rfl, rfl⟩ := hc
      exact ⟨q, a, k, c, z1, z2, z3, z4, z5, z6, rfl, hI, ht, u32_of w1, u32_of w3, u32_of w5, u32_of w6, hk⟩
structure QAt (w : World) (b : Nat) (p : Pk) (a : Option Addr) (n c : Nat) (V vp D dp A B : Int) : Prop where
  c0 : w.cell? ⟨b, 0, none⟩ = some (.int .i64 p.tos)
  c1 : w.cell? ⟨b, 1, none⟩ = some (.int .i64 p.id)
  c2 : w.cell? ⟨b, 2, none⟩ = some (.int .i64 p.ttl)
  c3 : w.cell? ⟨b, 3, none⟩ = some (.int .i64 p.proto)
  c4 : w.cell? ⟨b, 4, none⟩ = some (.int .u32 p.src)
  c5 : w.cell? ⟨b, 5, none⟩ = some (.int .i64 p.sp)
  c6 : w.cell? ⟨b, 6, none⟩ = some (.int .u32 p.dst)
  c7 : w.cell? ⟨b, 7, none⟩ = some (.int .i64 p.dp)
  c8 : w.cell? ⟨b, 8, none⟩ = some (.int .u32 p.seq)
  c9 : w.cell? ⟨b, 9, none⟩ = some (.int .u32 p.ack)
  c10 : w.cell? ⟨b, 10, none⟩ = some (.int .i64 p.flags)
  c11 : w.cell? ⟨b, 11, none⟩ = some (.int .i64 p.win)
  c12 : w.cell? ⟨b, 12, none⟩ = some (.slice a n c)
  c13 : w.cell? ⟨b, 13, none⟩ = some (.int .u32 V)
  c14 : w.cell? ⟨b, 14, none⟩ = some (.int .i64 vp)
  c15 : w.cell? ⟨b, 15, none⟩ = some (.int .u32 D)
  c16 : w.cell? ⟨b, 16, none⟩ = some (.int .i64 dp)
  c17 : w.cell? ⟨b, 17, none⟩ = some (.int .u32 A)
  c18 : w.cell? ⟨b, 18, none⟩ = some (.int .u32 B)
abbrev pathobj (p : Pk) (a : Option Addr) (n c : Nat) (V vp D dp A B : Int) : Obj := .cells (pathcs p a n c V vp D dp A B) 58
theorem QAt.new (w : World) (p : Pk) (a : Option Addr) (n c : Nat) (V vp D dp A B : Int) : QAt (w.alloc (pathobj p a n c V vp D dp A B)) w.heap.size p a n c V vp D dp A B := by
  constructor <;> simp [go_sem]
theorem QAt.lt {w : World} {b : Nat} {p : Pk} {a : Option Addr} {n c : Nat} {V vp D dp A B : Int} (h : QAt w b p a n c V vp D dp A B) : b < w.heap.size := World.block_lt_of_cell? _ _ h.c0
theorem QAt.below {w w' : World} {b S : Nat} {p : Pk} {a : Option Addr} {n c : Nat} {V vp D dp A B : Int} (h : QAt w b p a n c V vp D dp A B) (hB : Below S w w') (hb : b < S) : QAt w' b p a n c V vp D dp A B :=
  ⟨(hB.cell (p := ⟨b, 0, none⟩) hb).trans h.c0, (hB.cell (p := ⟨b, 1, none⟩) hb).trans h.c1, (hB.cell (p := ⟨b, 2, none⟩) hb).trans h.c2, (hB.cell (p := ⟨b, 3, none⟩) hb).trans h.c3, (hB.cell (p := ⟨b, 4, none⟩) hb).trans h.c4, (hB.cell (p := ⟨b, 5, none⟩) hb).trans h.c5, (hB.cell (p := ⟨b, 6, none⟩) hb).trans h.c6, (hB.cell (p := ⟨b, 7, none⟩) hb).trans h.c7, (hB.cell (p := ⟨b, 8, none⟩) hb).trans h.c8, (hB.cell (p := ⟨b, 9, none⟩) hb).trans h.c9, (hB.cell (p := ⟨b, 10, none⟩) hb).trans h.c10, (hB.cell (p := ⟨b, 11, none⟩) hb).trans h.c11, (hB.cell (p := ⟨b, 12, none⟩) hb).trans h.c12, (hB.cell (p := ⟨b, 13, none⟩) hb).trans h.c13, (hB.cell (p := ⟨b, 14, none⟩) hb).trans h.c14, (hB.cell (p := ⟨b, 15, none⟩) hb).trans h.c15, (hB.cell (p := ⟨b, 16, none⟩) hb).trans h.c16, (hB.cell (p := ⟨b, 17, none⟩) hb).trans h.c17, (hB.cell (p := ⟨b, 18, none⟩) hb).trans h.c18⟩
/-- The box, and that nothing old has turned. -/
structure QBox (w : World) (p : Pk) (a : Option Addr) (n c : Nat) (V vp D dp A B : Int) (wx : World) : Prop where
  here : QAt wx w.heap.size p a n c V vp D dp A B
  below : Below w.heap.size w wx
theorem QBox.start (w : World) (p : Pk) (a : Option Addr) (n c : Nat) (V vp D dp A B : Int) : ∃ W, w.alloc (pathobj p a n c V vp D dp A B) = W ∧ QBox w p a n c V vp D dp A B W := ⟨_, rfl, QAt.new _ _ _ _ _ _ _ _ _ _ _, bl_al (Below.refl _ _) _⟩
theorem QBox.next {w : World} {p : Pk} {a : Option Addr} {n c : Nat} {V vp D dp A B : Int} {wx wy : World} (h : QBox w p a n c V vp D dp A B wx) (hb : Below wx.heap.size wx wy) : QBox w p a n c V vp D dp A B wy := ⟨h.here.below hb h.here.lt, bl_tr h.below hb⟩
end Go.Proofs.Ytfbmeoiaedlgoaa
