/- From the guide's word for an argument of VotePlays to a script in memory. No conditions. -/
import Derived.Test.YtnhnpfhfcbmmlaaO14b
import Derived.Test.YtnhnpfhfcbmmlaaO14c
import Derived.Test.YtnhnpfhfcbmmlaaScV
namespace Go.Proofs.Ytnhnpfhfcbmmlaa
open Go Go.RowKit Go.ChangeShapes Go.WideShapes Go.Deep
set_option linter.unusedVariables false
set_option linter.unusedSimpArgs false

theorem cellsOv : Try.prog.cellsOf 66 = 5 := by kernel_rfl
theorem bytesOv : Try.prog.bytesOf 66 = 72 := by kernel_rfl
theorem cellsLb : Try.prog.cellsOf 64 = 1 := by kernel_rfl
set_option maxRecDepth 100000 in
theorem open_bls1 {H : Type} {enc : TypeId × Value → H} {W : World} {v : Value} {fuel : Nat} {x : DataW H × List MemPlace} (hf : DataW.trod enc Try.prog W 0 (fun _ => true) true fuel 64 [v] = some x) (hw : (x.1.weights Try.prog 64).all (· ≤ reachBytes) = true) :
    ∃ a n cap bs, v = .slice a n cap ∧ InBl W a n cap bs ∧ n ≤ 1152921504606846976 ∧ (a = none → n = 0 ∧ cap = 0) := by
  rcases open_slice Try.underlying64 hf with ⟨hcs, hx⟩ | ⟨a, len, cap, m, n, D, Pl, hcs, _, hl, hm, hmm, hx, hi⟩
  · simp only [List.cons.injEq, and_true] at hcs
    rw [hcs]
    exact ⟨none, 0, 0, [], rfl, ⟨rfl, Nat.le_refl _, .inl rfl, fun x hx => (by cases hx)⟩, Nat.zero_le _, fun _ => ⟨rfl, rfl⟩⟩
  · simp only [List.cons.injEq, and_true] at hcs
    rw [hcs]
    simp only [if_true] at hmm
    subst hmm
    rw [hx] at hw
    simp only [DataW.weights, Try.underlying64, List.all_cons, List.all_append, Bool.and_eq_true] at hw
    have h1 := of_decide_eq_true hw.1
    rw [bytesBl, List.length_map, List.length_range] at h1
    rw [cellsBl] at hi
    obtain ⟨L, hL⟩ := choose_lt (n := len) (α := Bl) (p := fun i b => (W.cell? ((a.add (i * 2)).add 0) = some (.int .i64 b.n) ∧ W.cell? ((a.add (i * 2)).add 1) = some (.int .i64 b.node)) ∧ TyB b) (fun i hil => by
      obtain ⟨cs', k1, k2⟩ := hi i (by omega)
      exact open_blc k1 k2)
    have hg : ∀ j, j < len → ((List.range len).map L).getD j bl0 = L j := fun j hj => getD_range L bl0 hj
    refine ⟨some a, len, m, (List.range len).map L, rfl, ⟨by simp, hl, ?_, fun x hx => ?_⟩, ?_, fun e => (by cases e)⟩
    · rcases Nat.eq_zero_or_pos len with h0 | h0
      · exact .inl h0
      · have hz := (hL 0 h0).1.1
        have ha0 : a.add (0 * 2) = a := by simp [Addr.add]
        rw [ha0] at hz
        have ha := plain_of hz
        refine .inr ⟨a.block, a.off, by rw [← ha], fun j hj => ?_⟩
        obtain ⟨c0, c1⟩ := (hL j hj).1
        rw [ha, Go.WideShapes.add_plain, Go.WideShapes.add_plain] at c0 c1
        rw [hg j hj]
        exact ⟨c0, c1⟩
    · obtain ⟨i, hil, rfl⟩ := List.mem_map.1 hx
      exact (hL i (List.mem_range.1 hil)).2
    · unfold reachBytes at h1
      omega
set_option maxRecDepth 100000 in
theorem open_ovc {H : Type} {enc : TypeId × Value → H} {W : World} {n : Nat} {c0 c1 c2 c3 c4 : Value} {d : DataW H} {pl : List MemPlace} (h2 : DataW.trod enc Try.prog W 0 (fun _ => true) true n 66 [c0, c1, c2, c3, c4] = some (d, pl)) (hw : (d.weights Try.prog 66).all (· ≤ reachBytes) = true) : ∃ o : OpV, [c0, c1, c2, c3, c4] = o.cs ∧ OvIn W o := by
  obtain ⟨xs, n', _, hx, _, hxl, hg⟩ := DataW.trod_struct Try.underlying66 h2
  match xs, hxl with
  | [y0, y1, y2, y3], _ =>
    have g0 : DataW.trod enc Try.prog W 0 (fun _ => true) true n' 3 [c0] = some y0 := by simpa [Value.cells, cells3, cellsBl, cellsLg, cellsLb] using hg 0 _ rfl
    have g1 : DataW.trod enc Try.prog W 0 (fun _ => true) true n' 61 [c1, c2] = some y1 := by simpa [Value.cells, cells3, cellsBl, cellsLg, cellsLb] using hg 1 _ rfl
    have g2 : DataW.trod enc Try.prog W 0 (fun _ => true) true n' 22 [c3] = some y2 := by simpa [Value.cells, cells3, cellsBl, cellsLg, cellsLb] using hg 2 _ rfl
    have g3 : DataW.trod enc Try.prog W 0 (fun _ => true) true n' 64 [c4] = some y3 := by simpa [Value.cells, cells3, cellsBl, cellsLg, cellsLb] using hg 3 _ rfl
    have hd : d = .agg ([y0, y1, y2, y3].map (·.1)) := by
      simp only [Prod.mk.injEq] at hx
      exact hx.1
    rw [hd] at hw
    simp only [DataW.weights, Try.underlying66] at hw
    have hw2 := weights_at (j := 2) (t := 22) (d := y2.1) hw rfl rfl
    have hw3 := weights_at (j := 3) (t := 64) (d := y3.1) hw rfl rfl
    obtain ⟨z0, e0, _, w0⟩ := DataW.trod_int Try.underlying3 g0
    obtain ⟨b, e1, e2, t1⟩ := open_bl2 g1
    obtain ⟨la, ln, lc, lg, us, e3, hL, hln⟩ := open_log1 g2 hw2
    obtain ⟨aa, an, ac, ab, e4, hA, han, hna⟩ := open_bls1 g3 hw3
    simp only [List.cons.injEq, and_true] at e0
    subst e0 e1 e2 e3 e4
    exact ⟨⟨z0, b, la, ln, lc, lg, us, aa, an, ac, ab⟩, rfl, t1, hL, hln, hA, han, hna⟩
set_option maxRecDepth 100000 in
theorem open_ov {H : Type} {enc : TypeId × Value → H} {W : World} {p : Addr} {cs : List Value} {n : Nat} {d : DataW H} {pl : List MemPlace} (h1 : W.cells? 0 p 5 = some cs) (h2 : DataW.trod enc Try.prog W 0 (fun _ => true) true n 66 cs = some (d, pl)) (hw : (d.weights Try.prog 66).all (· ≤ reachBytes) = true) :
    ∃ o : OpV, (∀ k, k < 5 → W.cell? (p.add k) = (o.cs)[k]?) ∧ OvIn W o := by
  obtain ⟨_, hlen, hc⟩ := World.cells?_some h1
  match cs, hlen with
  | [c0, c1, c2, c3, c4], _ =>
    obtain ⟨o, ho, hO⟩ := open_ovc h2 hw
    refine ⟨o, fun i hi => ?_, hO⟩
    rw [hc i (by simpa using hi), ← ho]
set_option maxRecDepth 100000 in
theorem open_script1 {H : Type} {enc : TypeId × Value → H} {W : World} {v : Value} {fuel : Nat} {x : DataW H × List MemPlace} (hf : DataW.trod enc Try.prog W 0 (fun _ => true) true fuel 53 [v] = some x) (hw : (x.1.weights Try.prog 53).all (· ≤ reachBytes) = true) :
    ∃ a n cap os, v = .slice a n cap ∧ SvIn W a n cap os ∧ n ≤ 1152921504606846976 := by
  rcases open_slice Try.underlying53 hf with ⟨hcs, hx⟩ | ⟨a, len, cap, m, n, D, Pl, hcs, _, hl, hm, hmm, hx, hi⟩
  · simp only [List.cons.injEq, and_true] at hcs
    subst hcs
    exact ⟨none, 0, 0, [], rfl, ⟨rfl, Nat.le_refl _, .inl rfl, fun j hj => absurd hj (by omega)⟩, Nat.zero_le _⟩
  · simp only [List.cons.injEq, and_true] at hcs
    subst hcs
    simp only [if_true] at hmm
    subst hmm
    rw [hx] at hw
    simp only [DataW.weights, Try.underlying53, List.all_cons, List.all_append, Bool.and_eq_true] at hw
    have h1 := of_decide_eq_true hw.1
    rw [bytesOv, List.length_map, List.length_range] at h1
    have hD := weightsAll_at hw.2.1
    rw [cellsOv] at hi
    obtain ⟨L, hL⟩ := choose_lt (n := len) (α := OpV) (p := fun i o => (∀ k, k < 5 → W.cell? ((a.add (i * 5)).add k) = (o.cs)[k]?) ∧ OvIn W o) (fun i hil => by
      obtain ⟨cs', k1, k2⟩ := hi i (by omega)
      exact open_ov k1 k2 (hD (D i) (List.mem_map.2 ⟨i, List.mem_range.2 hil, rfl⟩)))
    have hg : ∀ j, j < len → ((List.range len).map L).getD j opV = L j := fun j hj => getD_range L opV hj
    refine ⟨some a, len, m, (List.range len).map L, rfl, ⟨by simp, hl, ?_, fun j hj => by rw [hg j hj]; exact (hL j hj).2⟩, ?_⟩
    · rcases Nat.eq_zero_or_pos len with h0 | h0
      · exact .inl h0
      · have hz := (hL 0 h0).1 0 (by omega)
        have ha0 : a.add (0 * 5) = a := by simp [Addr.add]
        rw [ha0] at hz
        have hz2 : W.cell? (a.add 0) = some (.int .i64 (L 0).kind) := hz
        have ha := plain_of hz2
        refine .inr ⟨a.block, a.off, by rw [← ha], fun j hj i hi2 => ?_⟩
        have hc := (hL j hj).1 i hi2
        rw [ha, Go.WideShapes.add_plain, Go.WideShapes.add_plain] at hc
        rw [hg j hj]
        exact hc
    · unfold reachBytes at h1
      omega
set_option maxRecDepth 100000 in
theorem open_script {H : Type} {enc : TypeId × Value → H} {W : World} {v : Value} {d : DataW H} {p : List MemPlace} {r : Reach} {b0 : Nat}
    (hv : Value.okWide Try.prog W r b0 53 v) (h : DataW.Trod enc Try.prog W 0 (fun _ => true) true 53 v d p) (hw : (d.weights Try.prog 53).all (· ≤ reachBytes) = true) :
    ∃ a n cap os, v = .slice a n cap ∧ SvIn W a n cap os ∧ n ≤ 1152921504606846976 := by
  obtain ⟨a, n, cap, rfl⟩ := okWide_slice Try.underlying53 hv
  obtain ⟨fuel, hf⟩ := h
  exact open_script1 (x := (d, p)) (by simpa [Value.cells] using hf) hw
end Go.Proofs.Ytnhnpfhfcbmmlaa
