/- From the guide's word for an argument of VoteTight to numbers, ballots and a log in memory. No conditions. -/
import Derived.Test.YtnhnpfhfcbmmlaaO14
namespace Go.Proofs.Ytnhnpfhfcbmmlaa
open Go Go.RowKit Go.ChangeShapes Go.WideShapes Go.Deep
set_option linter.unusedVariables false
set_option linter.unusedSimpArgs false

theorem cellsTi : Try.prog.cellsOf 89 = 6 := by kernel_rfl
theorem cellsLg : Try.prog.cellsOf 22 = 1 := by kernel_rfl
/-- A ballot's cells. -/
theorem open_bl2 {H : Type} {enc : TypeId × Value → H} {W : World} {n : Nat} {c0 c1 : Value} {x : DataW H × List MemPlace} (h2 : DataW.trod enc Try.prog W 0 (fun _ => true) true n 61 [c0, c1] = some x) :
    ∃ b : Bl, c0 = .int .i64 b.n ∧ c1 = .int .i64 b.node ∧ TyB b := by
  obtain ⟨xs, n', _, hx, _, hxl, hg⟩ := DataW.trod_struct Try.underlying61 h2
  match xs, hxl with
  | [y0, y1], _ =>
    have g0 : DataW.trod enc Try.prog W 0 (fun _ => true) true n' 3 [c0] = some y0 := by simpa [Value.cells, cells3] using hg 0 _ rfl
    have g1 : DataW.trod enc Try.prog W 0 (fun _ => true) true n' 3 [c1] = some y1 := by simpa [Value.cells, cells3] using hg 1 _ rfl
    obtain ⟨z0, e0, _, w0⟩ := DataW.trod_int Try.underlying3 g0
    obtain ⟨z1, e1, _, w1⟩ := DataW.trod_int Try.underlying3 g1
    simp only [List.cons.injEq, and_true] at e0 e1
    exact ⟨⟨z0, z1⟩, e0, e1, i64c_of w0, i64c_of w1⟩
set_option maxRecDepth 100000 in
theorem open_tight {H : Type} {enc : TypeId × Value → H} {W : World} {r : Reach} {b0 : Nat} {v : Value} {d : DataW H} {ps : List MemPlace}
    (hv : Value.okWide Try.prog W r b0 89 v) (h : DataW.Trod enc Try.prog W 0 (fun _ => true) true 89 v d ps) (hw : (d.weights Try.prog 89).all (· ≤ reachBytes) = true) :
    ∃ (z : Int) (b c : Bl) (a : Option Addr) (n cc : Nat) (ls : List Cm) (vs : List Value), v = .agg #[.int .i64 z, .int .i64 b.n, .int .i64 b.node, .int .i64 c.n, .int .i64 c.node, .slice a n cc] ∧ TyB b ∧ TyB c ∧ InC W a n cc ls vs ∧ n ≤ 1152921504606846976 := by
  obtain ⟨⟨l⟩, rfl, hsz⟩ := okWide_struct Try.underlying89 hv
  rw [cellsTi] at hsz
  obtain ⟨fuel, hf⟩ := h
  obtain ⟨xs, n, _, hx, _, hlen, hg⟩ := DataW.trod_struct Try.underlying89 hf
  match l, hsz with
  | [c0, c1, c2, c3, c4, c5], _ =>
    match xs, hlen with
    | [y0, y1, y2, y3], _ =>
      have g0 : DataW.trod enc Try.prog W 0 (fun _ => true) true n 3 [c0] = some y0 := by simpa [Value.cells, cells3, cellsBl, cellsLg] using hg 0 _ rfl
      have g1 : DataW.trod enc Try.prog W 0 (fun _ => true) true n 61 [c1, c2] = some y1 := by simpa [Value.cells, cells3, cellsBl, cellsLg] using hg 1 _ rfl
      have g2 : DataW.trod enc Try.prog W 0 (fun _ => true) true n 61 [c3, c4] = some y2 := by simpa [Value.cells, cells3, cellsBl, cellsLg] using hg 2 _ rfl
      have g3 : DataW.trod enc Try.prog W 0 (fun _ => true) true n 22 [c5] = some y3 := by simpa [Value.cells, cells3, cellsBl, cellsLg] using hg 3 _ rfl
      obtain ⟨z0, e0, _, w0⟩ := DataW.trod_int Try.underlying3 g0
      obtain ⟨b, e1, e2, t1⟩ := open_bl2 g1
      obtain ⟨c, e3, e4, t2⟩ := open_bl2 g2
      simp only [List.cons.injEq, and_true] at e0
      subst e0 e1 e2 e3 e4
      have hd : d = .agg ([y0, y1, y2, y3].map (·.1)) := by
        simp only [Prod.mk.injEq] at hx
        exact hx.1
      rw [hd] at hw
      have hw' := hw
      simp only [DataW.weights, Try.underlying89] at hw'
      have hw3 := weights_at (j := 3) (t := 22) (d := y3.1) hw' rfl rfl
      obtain ⟨a, k, cc, ls, vs, rfl, hI, hk⟩ := open_log1 g3 hw3
      exact ⟨z0, b, c, a, k, cc, ls, vs, rfl, t1, t2, hI, hk⟩
end Go.Proofs.Ytnhnpfhfcbmmlaa
