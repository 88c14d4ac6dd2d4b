/- How a flow by value, an address and a number that come in read, and are read again where nothing old has turned. No conditions. -/
import Derived.Test.YtolkheelmmgnbaaDoorC1
import Derived.Test.YtolkheelmmgnbaaDoorA3
import Derived.Lib.SmallJoins
namespace Go.Proofs.YtolkheelmmgnbaaDoor
open Go Go.ChangeShapes Go.WideShapes Go.ChangeAt Go.RowKit

theorem laidOut : laidOutB Tryd.prog = true := by kernel_rfl
theorem cells47 : Tryd.prog.cellsOf 47 = 5 := by kernel_rfl
theorem cells3 : Tryd.prog.cellsOf 3 = 1 := by kernel_rfl
theorem cells23 : Tryd.prog.cellsOf 23 = 1 := by kernel_rfl
def Fl.data {H : Type} (f : Fl) : DataW H := .agg [.lit (.int .i64 f.p), .lit (.int .u32 f.s), .lit (.int .i64 f.sp), .lit (.int .u32 f.d), .lit (.int .i64 f.dp)]

set_option maxRecDepth 100000 in
/-- A flow by value: five numbers, each of its kind. -/
theorem open_flow {H : Type} {enc : TypeId × Value → H} {w : World} {r : Reach} {b0 base : Nat} {sp : Nat → Bool} {held : Bool} {v : Value} {d : DataW H} {p : List MemPlace}
    (hv : Value.okWide Tryd.prog w r b0 47 v) (h : DataW.Trod enc Tryd.prog w base sp held 47 v d p) :
    ∃ f : Fl, v = f.val ∧ d = f.data ∧ p = [] ∧ (Lit.int .i64 f.p).wf = true ∧ (Lit.int .u32 f.s).wf = true ∧ (Lit.int .i64 f.sp).wf = true ∧ (Lit.int .u32 f.d).wf = true ∧ (Lit.int .i64 f.dp).wf = true := by
  obtain ⟨⟨l⟩, rfl, hsz⟩ := okWide_struct Tryd.underlying47 hv
  rw [cells47] at hsz
  obtain ⟨fuel, hf⟩ := h
  obtain ⟨xs, n, _, hx, _, hlen, hg⟩ := DataW.trod_struct Tryd.underlying47 hf
  match l, hsz with
  | [c0, c1, c2, c3, c4], _ =>
    match xs, hlen with
    | [y0, y1, y2, y3, y4], _ =>
      have g0 : DataW.trod enc Tryd.prog w base sp held n 3 [c0] = some y0 := by simpa [Value.cells, cells3] using hg 0 _ rfl
      have g1 : DataW.trod enc Tryd.prog w base sp held n 23 [c1] = some y1 := by simpa [Value.cells, cells23] using hg 1 _ rfl
      have g2 : DataW.trod enc Tryd.prog w base sp held n 3 [c2] = some y2 := by simpa [Value.cells, cells3] using hg 2 _ rfl
      have g3 : DataW.trod enc Tryd.prog w base sp held n 23 [c3] = some y3 := by simpa [Value.cells, cells23] using hg 3 _ rfl
      have g4 : DataW.trod enc Tryd.prog w base sp held n 3 [c4] = some y4 := by simpa [Value.cells, cells3] using hg 4 _ rfl
      obtain ⟨z0, e0, q0, w0⟩ := DataW.trod_int Tryd.underlying3 g0
      obtain ⟨z1, e1, q1, w1⟩ := DataW.trod_int Tryd.underlying23 g1
      obtain ⟨z2, e2, q2, w2⟩ := DataW.trod_int Tryd.underlying3 g2
      obtain ⟨z3, e3, q3, w3⟩ := DataW.trod_int Tryd.underlying23 g3
      obtain ⟨z4, e4, q4, w4⟩ := DataW.trod_int Tryd.underlying3 g4
      simp only [List.cons.injEq, and_true] at e0 e1 e2 e3 e4
      subst e0 e1 e2 e3 e4 q0 q1 q2 q3 q4
      simp only [List.map_cons, List.map_nil, List.flatMap_cons, List.flatMap_nil, List.append_nil, Prod.mk.injEq] at hx
      exact ⟨⟨z0, z1, z2, z3, z4⟩, rfl, hx.1, hx.2, w0, w1, w2, w3, w4⟩

/-- What read with no place of memory reads so again. -/
theorem again {H : Type} {enc : TypeId × Value → H} {W W' : World} {t : TypeId} {v : Value} {d : DataW H} (hr : Tryd.prog.readableRec t = true) (ht : t < Tryd.prog.types.size)
    (h : DataW.Trod enc Tryd.prog W 0 (fun _ => true) true t v d []) (hb : Below W.heap.size W W') : DataW.Trod enc Tryd.prog W' 0 (fun b => decide (b < W.heap.size)) true t v d [] :=
  Below.trod laidOut hr ht h hb (fun x hx => by cases hx)
theorem read47 : Tryd.prog.readableRec 47 = true := by kernel_rfl
theorem lt47 : 47 < Tryd.prog.types.size := of_decide_eq_true (by kernel_rfl)
end Go.Proofs.YtolkheelmmgnbaaDoor
