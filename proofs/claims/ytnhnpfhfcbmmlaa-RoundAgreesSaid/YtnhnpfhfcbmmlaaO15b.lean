/- From the guide's word for an argument of RoundAgrees to proposers' doings in memory. No conditions. -/
import Derived.Test.YtnhnpfhfcbmmlaaO14b
import Derived.Test.YtnhnpfhfcbmmlaaO14c
import Derived.Test.YtnhnpfhfcbmmlaaO15
import Derived.Test.YtnhnpfhfcbmmlaaRoR
namespace Go.Proofs.Ytnhnpfhfcbmmlaa
open Go Go.RowKit Go.ChangeShapes Go.WideShapes Go.Deep
set_option linter.unusedVariables false
set_option linter.unusedSimpArgs false

theorem cellsAs : Try.prog.cellsOf 106 = 4 := by kernel_rfl
theorem cellsRa : Try.prog.cellsOf 97 = 1 := by kernel_rfl
theorem cellsRi : Try.prog.cellsOf 98 = 1 := by kernel_rfl
theorem cellsMa : Try.prog.cellsOf 100 = 3 := by kernel_rfl
instance : Inhabited AskV := ⟨ask0⟩
set_option maxRecDepth 100000 in
theorem open_askc {H : Type} {enc : TypeId × Value → H} {W : World} {n : Nat} {c0 c1 c2 c3 : Value} {x : DataW H × List MemPlace} (h2 : DataW.trod enc Try.prog W 0 (fun _ => true) true n 106 [c0, c1, c2, c3] = some x) : ∃ o : AskV, [c0, c1, c2, c3] = o.cs ∧ AskT o := by
  obtain ⟨xs, n', _, hx, _, hxl, hg⟩ := DataW.trod_struct Try.underlying106 h2
  match xs, hxl with
  | [y0, y1, y2, y3], _ =>
    have g0 : DataW.trod enc Try.prog W 0 (fun _ => true) true n' 3 [c0] = some y0 := by simpa [Value.cells, cells3] using hg 0 _ rfl
    have g1 : DataW.trod enc Try.prog W 0 (fun _ => true) true n' 3 [c1] = some y1 := by simpa [Value.cells, cells3] using hg 1 _ rfl
    have g2 : DataW.trod enc Try.prog W 0 (fun _ => true) true n' 3 [c2] = some y2 := by simpa [Value.cells, cells3] using hg 2 _ rfl
    have g3 : DataW.trod enc Try.prog W 0 (fun _ => true) true n' 3 [c3] = some y3 := by simpa [Value.cells, cells3] using hg 3 _ rfl
    obtain ⟨z0, e0, _, w0⟩ := DataW.trod_int Try.underlying3 g0
    obtain ⟨z1, e1, _, w1⟩ := DataW.trod_int Try.underlying3 g1
    obtain ⟨z2, e2, _, w2⟩ := DataW.trod_int Try.underlying3 g2
    obtain ⟨z3, e3, _, w3⟩ := DataW.trod_int Try.underlying3 g3
    simp only [List.cons.injEq, and_true] at e0 e1 e2 e3
    subst e0 e1 e2 e3
    exact ⟨⟨z0, z1, z2, z3⟩, rfl, i64c_of w0, i64c_of w1, i64c_of w2, i64c_of w3⟩
set_option maxRecDepth 100000 in
theorem open_ask {H : Type} {enc : TypeId × Value → H} {W : World} {p : Addr} {cs : List Value} {n : Nat} {x : DataW H × List MemPlace} (h1 : W.cells? 0 p 4 = some cs) (h2 : DataW.trod enc Try.prog W 0 (fun _ => true) true n 106 cs = some x) :
    ∃ o : AskV, (∀ k, k < 4 → W.cell? (p.add k) = (o.cs)[k]?) ∧ AskT o := by
  obtain ⟨_, hlen, hc⟩ := World.cells?_some h1
  match cs, hlen with
  | [c0, c1, c2, c3], _ =>
    obtain ⟨o, ho, hO⟩ := open_askc h2
    refine ⟨o, fun i hi => ?_, hO⟩
    rw [hc i (by simpa using hi), ← ho]
set_option maxRecDepth 100000 in
theorem open_asks1 {H : Type} {enc : TypeId × Value → H} {W : World} {v : Value} {fuel : Nat} {x : DataW H × List MemPlace} (hf : DataW.trod enc Try.prog W 0 (fun _ => true) true fuel 97 [v] = some x) :
    ∃ a n cap os, v = .slice a n cap ∧ InA W a n cap os := by
  rcases open_slice Try.underlying97 hf with ⟨hcs, hx⟩ | ⟨a, len, cap, m, n, D, Pl, hcs, _, hl, hm, hmm, hx, hi⟩
  · simp only [List.cons.injEq, and_true] at hcs
    subst hcs
    exact ⟨none, 0, 0, [], rfl, ⟨rfl, Nat.le_refl _, .inl rfl, fun j hj => absurd hj (by omega)⟩⟩
  · simp only [List.cons.injEq, and_true] at hcs
    subst hcs
    simp only [if_true] at hmm
    subst hmm
    rw [cellsAs] at hi
    obtain ⟨L, hL⟩ := choose_lt (n := len) (α := AskV) (p := fun i o => (∀ k, k < 4 → W.cell? ((a.add (i * 4)).add k) = (o.cs)[k]?) ∧ AskT o) (fun i hil => by
      obtain ⟨cs', k1, k2⟩ := hi i (by omega)
      exact open_ask k1 k2)
    have hg : ∀ j, j < len → ((List.range len).map L).getD j ask0 = L j := fun j hj => getD_range L ask0 hj
    refine ⟨some a, len, m, (List.range len).map L, rfl, ⟨by simp, hl, ?_, fun j hj => by rw [hg j hj]; exact (hL j hj).2⟩⟩
    rcases Nat.eq_zero_or_pos len with h0 | h0
    · exact .inl h0
    · have hz := (hL 0 h0).1 0 (by omega)
      have ha0 : a.add (0 * 4) = a := by simp [Addr.add]
      rw [ha0] at hz
      have hz2 : W.cell? (a.add 0) = some (.int .i64 (L 0).n) := hz
      have ha := plain_of hz2
      refine .inr ⟨a.block, a.off, by rw [← ha], fun j hj i hi2 => ?_⟩
      have hc := (hL j hj).1 i hi2
      rw [ha, Go.WideShapes.add_plain, Go.WideShapes.add_plain] at hc
      rw [hg j hj]
      exact hc
set_option maxRecDepth 100000 in
theorem open_many {H : Type} {enc : TypeId × Value → H} {W : World} {r : Reach} {b0 : Nat} {v : Value} {d : DataW H} {ps : List MemPlace}
    (hv : Value.okWide Try.prog W r b0 100 v) (h : DataW.Trod enc Try.prog W 0 (fun _ => true) true 100 v d ps) (hw : (d.weights Try.prog 100).all (· ≤ reachBytes) = true) :
    ∃ (z : Int) (aa : Option Addr) (an ac : Nat) (aq : List AskV) (la : Option Addr) (ln lc : Nat) (lq : List Int), v = .agg #[.int .i64 z, .slice aa an ac, .slice la ln lc] ∧ i64c z ∧ InA W aa an ac aq ∧ InI W la ln lc lq := by
  obtain ⟨⟨l⟩, rfl, hsz⟩ := okWide_struct Try.underlying100 hv
  rw [cellsMa] at hsz
  obtain ⟨fuel, hf⟩ := h
  obtain ⟨xs, n, _, hx, _, hlen, hg⟩ := DataW.trod_struct Try.underlying100 hf
  match l, hsz with
  | [c0, c1, c2], _ =>
    match xs, hlen with
    | [y0, y1, y2], _ =>
      have g0 : DataW.trod enc Try.prog W 0 (fun _ => true) true n 3 [c0] = some y0 := by simpa [Value.cells, cells3, cellsRa, cellsRi] using hg 0 _ rfl
      have g1 : DataW.trod enc Try.prog W 0 (fun _ => true) true n 97 [c1] = some y1 := by simpa [Value.cells, cells3, cellsRa, cellsRi] using hg 1 _ rfl
      have g2 : DataW.trod enc Try.prog W 0 (fun _ => true) true n 98 [c2] = some y2 := by simpa [Value.cells, cells3, cellsRa, cellsRi] using hg 2 _ rfl
      obtain ⟨z0, e0, _, w0⟩ := DataW.trod_int Try.underlying3 g0
      simp only [List.cons.injEq, and_true] at e0
      subst e0
      have hd : d = .agg ([y0, y1, y2].map (·.1)) := by
        simp only [Prod.mk.injEq] at hx
        exact hx.1
      rw [hd] at hw
      have hw' := hw
      simp only [DataW.weights, Try.underlying100] at hw'
      have hw2 := weights_at (j := 2) (t := 98) (d := y2.1) hw' rfl rfl
      obtain ⟨aa, an, ac, aq, rfl, hA⟩ := open_asks1 g1
      obtain ⟨la, ln, lc, lq, rfl, hL, _⟩ := open_row1I g2 hw2
      exact ⟨z0, aa, an, ac, aq, la, ln, lc, lq, rfl, i64c_of w0, hA, hL⟩
end Go.Proofs.Ytnhnpfhfcbmmlaa
