/- How a Place by value, a number, an address and a string that come in read. No conditions. -/
import Derived.Test.YtolkheelmmgnbaaDoorC2
namespace Go.Proofs.YtolkheelmmgnbaaDoor
open Go Go.ChangeShapes Go.WideShapes Go.ChangeAt Go.RowKit

/-- A kind, a place, a node, an address. -/
structure Pl where
  k : Int
  p : Int
  n : Int
  a : Int
abbrev Pl.val (x : Pl) : Value := .agg #[.int .i64 x.k, .int .i64 x.p, .int .i64 x.n, .int .u32 x.a]
abbrev Pl.obj (x : Pl) : Obj := .cells #[.int .i64 x.k, .int .i64 x.p, .int .i64 x.n, .int .u32 x.a] 35
def Pl.data {H : Type} (x : Pl) : DataW H := .agg [.lit (.int .i64 x.k), .lit (.int .i64 x.p), .lit (.int .i64 x.n), .lit (.int .u32 x.a)]
theorem cells35 : Tryd.prog.cellsOf 35 = 4 := by kernel_rfl

theorem bnd_i64 {x : Int} (h : (Lit.int .i64 x).wf = true) : -9223372036854775808 ≤ x ∧ x ≤ 9223372036854775807 := by
  simp [Lit.wf, IntKind.min, IntKind.max, IntKind.signed, IntKind.bits] at h
  omega
theorem bnd_u32 {x : Int} (h : (Lit.int .u32 x).wf = true) : 0 ≤ x ∧ x < 4294967296 := by
  simp [Lit.wf, IntKind.min, IntKind.max, IntKind.signed, IntKind.bits] at h
  omega
theorem bnd_u64 {x : Int} (h : (Lit.int .u64 x).wf = true) : 0 ≤ x ∧ x < 18446744073709551616 := by
  simp [Lit.wf, IntKind.min, IntKind.max, IntKind.signed, IntKind.bits] at h
  omega

set_option maxRecDepth 100000 in
/-- A Place by value: four numbers, each of its kind. -/
theorem open_place {H : Type} {enc : TypeId × Value → H} {w : World} {r : Reach} {b0 base : Nat} {sp : Nat → Bool} {held : Bool} {v : Value} {d : DataW H} {p : List MemPlace}
    (hv : Value.okWide Tryd.prog w r b0 35 v) (h : DataW.Trod enc Tryd.prog w base sp held 35 v d p) :
    ∃ x : Pl, v = x.val ∧ d = x.data ∧ p = [] ∧ (Lit.int .i64 x.k).wf = true ∧ (Lit.int .i64 x.p).wf = true ∧ (Lit.int .i64 x.n).wf = true ∧ (Lit.int .u32 x.a).wf = true := by
  obtain ⟨⟨l⟩, rfl, hsz⟩ := okWide_struct Tryd.underlying35 hv
  rw [cells35] at hsz
  obtain ⟨fuel, hf⟩ := h
  obtain ⟨xs, n, _, hx, _, hlen, hg⟩ := DataW.trod_struct Tryd.underlying35 hf
  match l, hsz with
  | [c0, c1, c2, c3], _ =>
    match xs, hlen with
    | [y0, y1, y2, y3], _ =>
      have g0 : DataW.trod enc Tryd.prog w base sp held n 3 [c0] = some y0 := by simpa [Value.cells, cells3] using hg 0 _ rfl
      have g1 : DataW.trod enc Tryd.prog w base sp held n 3 [c1] = some y1 := by simpa [Value.cells, cells3] using hg 1 _ rfl
      have g2 : DataW.trod enc Tryd.prog w base sp held n 3 [c2] = some y2 := by simpa [Value.cells, cells3] using hg 2 _ rfl
      have g3 : DataW.trod enc Tryd.prog w base sp held n 23 [c3] = some y3 := by simpa [Value.cells, cells23] using hg 3 _ rfl
      obtain ⟨z0, e0, q0, w0⟩ := DataW.trod_int Tryd.underlying3 g0
      obtain ⟨z1, e1, q1, w1⟩ := DataW.trod_int Tryd.underlying3 g1
      obtain ⟨z2, e2, q2, w2⟩ := DataW.trod_int Tryd.underlying3 g2
      obtain ⟨z3, e3, q3, w3⟩ := DataW.trod_int Tryd.underlying23 g3
      simp only [List.cons.injEq, and_true] at e0 e1 e2 e3
      subst e0 e1 e2 e3 q0 q1 q2 q3
      simp only [List.map_cons, List.map_nil, List.flatMap_cons, List.flatMap_nil, List.append_nil, Prod.mk.injEq] at hx
      exact ⟨⟨z0, z1, z2, z3⟩, rfl, hx.1, hx.2, w0, w1, w2, w3⟩
theorem read35 : Tryd.prog.readableRec 35 = true := by kernel_rfl
theorem lt35 : 35 < Tryd.prog.types.size := of_decide_eq_true (by kernel_rfl)
theorem read3 : Tryd.prog.readableRec 3 = true := by kernel_rfl
theorem lt3 : 3 < Tryd.prog.types.size := of_decide_eq_true (by kernel_rfl)
theorem read23 : Tryd.prog.readableRec 23 = true := by kernel_rfl
theorem lt23 : 23 < Tryd.prog.types.size := of_decide_eq_true (by kernel_rfl)
theorem read45 : Tryd.prog.readableRec 45 = true := by kernel_rfl
theorem lt45 : 45 < Tryd.prog.types.size := of_decide_eq_true (by kernel_rfl)
theorem read9 : Tryd.prog.readableRec 9 = true := by kernel_rfl
theorem lt9 : 9 < Tryd.prog.types.size := of_decide_eq_true (by kernel_rfl)
end Go.Proofs.YtolkheelmmgnbaaDoor
