/- From the guide's word for arguments to rows of ballots and of bools in memory. No conditions. -/
import Derived.Test.YtnhnpfhfcbmmlaaO14
import Derived.Test.YtnhnpfhfcbmmlaaVhF
namespace Go.Proofs.Ytnhnpfhfcbmmlaa
open Go Go.RowKit Go.ChangeShapes Go.WideShapes Go.Deep
set_option linter.unusedVariables false
set_option linter.unusedSimpArgs false

theorem bytesBo : Try.prog.bytesOf 4 = 1 := by kernel_rfl
theorem bytesBl : Try.prog.bytesOf 61 = 16 := by kernel_rfl
theorem open_bools1 {H : Type} {enc : TypeId × Value → H} {W : World} {v : Value} {fuel : Nat} {x : DataW H × List MemPlace} (hf : DataW.trod enc Try.prog W 0 (fun _ => true) true fuel 84 [v] = some x) (hw : (x.1.weights Try.prog 84).all (· ≤ reachBytes) = true) :
    ∃ a n cap bs, v = .slice a n cap ∧ InBo W a n cap bs ∧ n ≤ 140737488351232 := by
  rcases open_slice1 Try.underlying84 cellsBo hf with ⟨hcs, hx⟩ | ⟨a, len, cap, m, n, V, D, Pl, hcs, _, hl, hm, hmm, hx, hi⟩
  · simp only [List.cons.injEq, and_true] at hcs
    subst hcs
    exact ⟨none, 0, 0, [], rfl, ⟨rfl, Nat.le_refl _, .inl rfl⟩, Nat.zero_le _⟩
  · simp only [List.cons.injEq, and_true] at hcs
    subst hcs
    simp only [if_true] at hmm
    subst hmm
    rw [hx] at hw
    simp only [DataW.weights, Try.underlying84, List.all_cons, List.all_append, Bool.and_eq_true] at hw
    have h1 := of_decide_eq_true hw.1
    rw [bytesBo, List.length_map, List.length_range] at h1
    obtain ⟨L, hL⟩ := choose_lt (n := len) (α := Bool) (p := fun i l => V i = .bool l) (fun i hil => by
      obtain ⟨b, e, _⟩ := DataW.trod_bool Try.underlying4 (hi i (by omega)).2
      exact ⟨b, by simpa using e⟩)
    refine ⟨some a, len, m, (List.range len).map L, rfl, ⟨by simp, hl, ?_⟩, ?_⟩
    · rcases Nat.eq_zero_or_pos len with h0 | h0
      · exact .inl h0
      · have ha := plain_of (hi 0 (by omega)).1
        refine .inr ⟨a.block, a.off, by rw [← ha], fun j hj => ?_⟩
        have hc := (hi j (by omega)).1
        rw [ha, Go.WideShapes.add_plain] at hc
        rw [hc, getD_range L false hj, hL j hj]
    · unfold reachBytes at h1
      omega
set_option maxRecDepth 100000 in
theorem open_bools {H : Type} {enc : TypeId × Value → H} {W : World} {v : Value} {d : DataW H} {p : List MemPlace} {r : Reach} {b0 : Nat}
    (hv : Value.okWide Try.prog W r b0 84 v) (h : DataW.Trod enc Try.prog W 0 (fun _ => true) true 84 v d p) (hw : (d.weights Try.prog 84).all (· ≤ reachBytes) = true) :
    ∃ a n cap bs, v = .slice a n cap ∧ InBo W a n cap bs ∧ n ≤ 140737488351232 := by
  obtain ⟨a, n, cap, rfl⟩ := okWide_slice Try.underlying84 hv
  obtain ⟨fuel, hf⟩ := h
  exact open_bools1 (x := (d, p)) (by simpa [Value.cells] using hf) hw
set_option maxRecDepth 100000 in
theorem open_blc {H : Type} {enc : TypeId × Value → H} {W : World} {p : Addr} {cs : List Value} {n : Nat} {d : DataW H} {pl : List MemPlace} (h1 : W.cells? 0 p 2 = some cs) (h2 : DataW.trod enc Try.prog W 0 (fun _ => true) true n 61 cs = some (d, pl)) :
    ∃ b : Bl, (W.cell? (p.add 0) = some (.int .i64 b.n) ∧ W.cell? (p.add 1) = some (.int .i64 b.node)) ∧ TyB b := by
  obtain ⟨_, hlen, hc⟩ := World.cells?_some h1
  obtain ⟨xs, n', _, hx, _, hxl, hg⟩ := DataW.trod_struct Try.underlying61 h2
  match cs, hlen with
  | [c0, c1], _ =>
    match xs, hxl with
    | [y0, y1], _ =>
      have g0 : DataW.trod enc Try.prog W 0 (fun _ => true) true n' 3 [c0] = some y0 := by simpa [Value.cells, cells3] using hg 0 _ rfl
      have g1 : DataW.trod enc Try.prog W 0 (fun _ => true) true n' 3 [c1] = some y1 := by simpa [Value.cells, cells3] using hg 1 _ rfl
      obtain ⟨z0, e0, _, w0⟩ := DataW.trod_int Try.underlying3 g0
      obtain ⟨z1, e1, _, w1⟩ := DataW.trod_int Try.underlying3 g1
      simp only [List.cons.injEq, and_true] at e0 e1
      subst e0 e1
      exact ⟨⟨z0, z1⟩, ⟨by rw [hc 0 (by simp)]; rfl, by rw [hc 1 (by simp)]; rfl⟩, i64c_of w0, i64c_of w1⟩
set_option maxRecDepth 100000 in
theorem open_bls {H : Type} {enc : TypeId × Value → H} {W : World} {v : Value} {d : DataW H} {p : List MemPlace} {r : Reach} {b0 : Nat}
    (hv : Value.okWide Try.prog W r b0 64 v) (h : DataW.Trod enc Try.prog W 0 (fun _ => true) true 64 v d p) (hw : (d.weights Try.prog 64).all (· ≤ reachBytes) = true) :
    ∃ a n cap bs, v = .slice a n cap ∧ InBl W a n cap bs ∧ n ≤ 1152921504606846976 := by
  obtain ⟨a0, n0, cap0, rfl⟩ := okWide_slice Try.underlying64 hv
  obtain ⟨fuel, hf0⟩ := h
  have hf : DataW.trod enc Try.prog W 0 (fun _ => true) true fuel 64 [.slice a0 n0 cap0] = some (d, p) := by simpa [Value.cells] using hf0
  rcases open_slice Try.underlying64 hf with ⟨hcs, hx⟩ | ⟨a, len, cap, m, n, D, Pl, hcs, _, hl, hm, hmm, hx, hi⟩
  · simp only [List.cons.injEq, and_true] at hcs
    rw [hcs]
    exact ⟨none, 0, 0, [], rfl, ⟨rfl, Nat.le_refl _, .inl rfl, fun x hx => by cases hx⟩, Nat.zero_le _⟩
  · simp only [List.cons.injEq, and_true] at hcs
    rw [hcs]
    simp only [if_true] at hmm
    subst hmm
    have hd : d = _ := congrArg Prod.fst hx
    rw [hd] at hw
    simp only [DataW.weights, Try.underlying64, List.all_cons, List.all_append, Bool.and_eq_true] at hw
    have h1 := of_decide_eq_true hw.1
    rw [bytesBl, List.length_map, List.length_range] at h1
    rw [cellsBl] at hi
    obtain ⟨L, hL⟩ := choose_lt (n := len) (α := Bl) (p := fun i b => (W.cell? ((a.add (i * 2)).add 0) = some (.int .i64 b.n) ∧ W.cell? ((a.add (i * 2)).add 1) = some (.int .i64 b.node)) ∧ TyB b) (fun i hil => by
      obtain ⟨cs', k1, k2⟩ := hi i (by omega)
      exact open_blc k1 k2)
    have hg : ∀ j, j < len → ((List.range len).map L).getD j bl0 = L j := fun j hj => getD_range L bl0 hj
    refine ⟨some a, len, m, (List.range len).map L, rfl, ⟨by simp, hl, ?_, fun x hx => ?_⟩, ?_⟩
    · rcases Nat.eq_zero_or_pos len with h0 | h0
      · exact .inl h0
      · have hz := (hL 0 h0).1.1
        have ha0 : a.add (0 * 2) = a := by simp [Addr.add]
        rw [ha0] at hz
        have ha := plain_of hz
        refine .inr ⟨a.block, a.off, by rw [← ha], fun j hj => ?_⟩
        obtain ⟨c0, c1⟩ := (hL j hj).1
        rw [ha, Go.WideShapes.add_plain, Go.WideShapes.add_plain] at c0 c1
        rw [hg j hj]
        exact ⟨c0, c1⟩
    · obtain ⟨i, hil, rfl⟩ := List.mem_map.1 hx
      exact (hL i (List.mem_range.1 hil)).2
    · unfold reachBytes at h1
      omega
end Go.Proofs.Ytnhnpfhfcbmmlaa
