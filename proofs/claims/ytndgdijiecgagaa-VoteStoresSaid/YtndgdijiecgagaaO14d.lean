/- From the guide's word for an argument of VoteStores to two rows of bytes and two bools. No conditions. -/
import Derived.Test.YtndgdijiecgagaaO14
namespace Go.Proofs.Ytndgdijiecgagaa
open Go Go.RowKit Go.ChangeShapes Go.WideShapes Go.Deep
set_option linter.unusedVariables false
set_option linter.unusedSimpArgs false

theorem cellsStd : Try.prog.cellsOf 93 = 4 := by kernel_rfl
theorem cellsBy : Try.prog.cellsOf 26 = 1 := by kernel_rfl
theorem cellsBoo : Try.prog.cellsOf 4 = 1 := by kernel_rfl
set_option maxRecDepth 100000 in
theorem open_stored {H : Type} {enc : TypeId × Value → H} {W : World} {r : Reach} {b0 : Nat} {v : Value} {d : DataW H} {ps : List MemPlace}
    (hv : Value.okWide Try.prog W r b0 93 v) (h : DataW.Trod enc Try.prog W 0 (fun _ => true) true 93 v d ps) (hw : (d.weights Try.prog 93).all (· ≤ reachBytes) = true) :
    ∃ (a : Option Addr) (n c : Nat) (P : List Int) (a2 : Option Addr) (n2 c2 : Nat) (V : List Int) (h g : Bool), v = .agg #[.slice a n c, .slice a2 n2 c2, .bool h, .bool g] ∧ In W a n c P ∧ In W a2 n2 c2 V ∧ n ≤ 140737488351232 ∧ n2 ≤ 140737488351232 := by
  obtain ⟨⟨l⟩, rfl, hsz⟩ := okWide_struct Try.underlying93 hv
  rw [cellsStd] at hsz
  obtain ⟨fuel, hf⟩ := h
  obtain ⟨xs, n, _, hx, _, hlen, hg⟩ := DataW.trod_struct Try.underlying93 hf
  match l, hsz with
  | [c0, c1, c2, c3], _ =>
    match xs, hlen with
    | [y0, y1, y2, y3], _ =>
      have g0 : DataW.trod enc Try.prog W 0 (fun _ => true) true n 26 [c0] = some y0 := by simpa [Value.cells, cellsBy, cellsBoo] using hg 0 _ rfl
      have g1 : DataW.trod enc Try.prog W 0 (fun _ => true) true n 26 [c1] = some y1 := by simpa [Value.cells, cellsBy, cellsBoo] using hg 1 _ rfl
      have g2 : DataW.trod enc Try.prog W 0 (fun _ => true) true n 4 [c2] = some y2 := by simpa [Value.cells, cellsBy, cellsBoo] using hg 2 _ rfl
      have g3 : DataW.trod enc Try.prog W 0 (fun _ => true) true n 4 [c3] = some y3 := by simpa [Value.cells, cellsBy, cellsBoo] using hg 3 _ rfl
      obtain ⟨z2, e2, _⟩ := DataW.trod_bool Try.underlying4 g2
      obtain ⟨z3, e3, _⟩ := DataW.trod_bool Try.underlying4 g3
      simp only [List.cons.injEq, and_true] at e2 e3
      subst e2 e3
      have hd : d = .agg ([y0, y1, y2, y3].map (·.1)) := by
        simp only [Prod.mk.injEq] at hx
        exact hx.1
      rw [hd] at hw
      have hw' := hw
      simp only [DataW.weights, Try.underlying93] at hw'
      have hw0 := weights_at (j := 0) (t := 26) (d := y0.1) hw' rfl rfl
      have hw1 := weights_at (j := 1) (t := 26) (d := y1.1) hw' rfl rfl
      obtain ⟨a, k, cc, P, rfl, hI, hk⟩ := open_row1 g0 hw0
      obtain ⟨a2, k2, cc2, V, rfl, hI2, hk2⟩ := open_row1 g1 hw1
      exact ⟨a, k, cc, P, a2, k2, cc2, V, z2, z3, rfl, hI, hI2, hk, hk2⟩
end Go.Proofs.Ytndgdijiecgagaa
