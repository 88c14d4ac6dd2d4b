/- From the guide's word for arguments to scripts of leases in memory. No conditions. -/
import Derived.Test.YtanajblldlgalaaDoorO12
import Derived.Test.YtanajblldlgalaaDoorLoA
namespace Go.Proofs.YtanajblldlgalaaDoor
open Go Go.RowKit Go.ChangeShapes Go.WideShapes Go.ChangeAt Go.Deep
set_option linter.unusedVariables false
set_option linter.unusedSimpArgs false

instance : Inhabited Opn := ⟨opn0⟩
theorem cellsOp : Tryd.prog.cellsOf 50 = 5 := by kernel_rfl
theorem bytesOp : Tryd.prog.bytesOf 50 = 32 := by kernel_rfl
set_option maxRecDepth 100000 in
theorem open_op {H : Type} {enc : TypeId × Value → H} {W : World} {p : Addr} {cs : List Value} {n : Nat} {d : DataW H} {pl : List MemPlace} (h1 : W.cells? 0 p 5 = some cs) (h2 : DataW.trod enc Tryd.prog W 0 (fun _ => true) true n 50 cs = some (d, pl)) :
    ∃ e : Opn, ((W.cell? (p.add 0) = some (.int .i64 e.kind) ∧ W.cell? (p.add 1) = some (.int .u32 e.vip) ∧ W.cell? (p.add 2) = some (.int .u32 e.dip) ∧ W.cell? (p.add 3) = some (.int .i64 e.nth) ∧ W.cell? (p.add 4) = some (.int .i64 e.wait)) ∧ TyO e) := by
  obtain ⟨_, hlen, hc⟩ := World.cells?_some h1
  obtain ⟨xs, n', _, hx, _, hxl, hg⟩ := DataW.trod_struct Tryd.underlying50 h2
  match cs, hlen with
  | [c0, c1, c2, c3, c4], _ =>
    match xs, hxl with
    | [y0, y1, y2, y3, y4], _ =>
      have g0 : DataW.trod enc Tryd.prog W 0 (fun _ => true) true n' 3 [c0] = some y0 := by simpa [Value.cells, cellsI, cellsA] using hg 0 _ rfl
      have g1 : DataW.trod enc Tryd.prog W 0 (fun _ => true) true n' 24 [c1] = some y1 := by simpa [Value.cells, cellsI, cellsA] using hg 1 _ rfl
      have g2 : DataW.trod enc Tryd.prog W 0 (fun _ => true) true n' 24 [c2] = some y2 := by simpa [Value.cells, cellsI, cellsA] using hg 2 _ rfl
      have g3 : DataW.trod enc Tryd.prog W 0 (fun _ => true) true n' 3 [c3] = some y3 := by simpa [Value.cells, cellsI, cellsA] using hg 3 _ rfl
      have g4 : DataW.trod enc Tryd.prog W 0 (fun _ => true) true n' 3 [c4] = some y4 := by simpa [Value.cells, cellsI, cellsA] using hg 4 _ rfl
      obtain ⟨z0, e0, _, w0⟩ := DataW.trod_int Tryd.underlying3 g0
      obtain ⟨z1, e1, _, w1⟩ := DataW.trod_int Tryd.underlying24 g1
      obtain ⟨z2, e2, _, w2⟩ := DataW.trod_int Tryd.underlying24 g2
      obtain ⟨z3, e3, _, w3⟩ := DataW.trod_int Tryd.underlying3 g3
      obtain ⟨z4, e4, _, w4⟩ := DataW.trod_int Tryd.underlying3 g4
      simp only [List.cons.injEq, and_true] at e0 e1 e2 e3 e4
      subst e0 e1 e2 e3 e4
      exact ⟨⟨z0, z1, z2, z3, z4⟩, ⟨(hc 0 (by omega)).trans rfl, (hc 1 (by omega)).trans rfl, (hc 2 (by omega)).trans rfl, (hc 3 (by omega)).trans rfl, (hc 4 (by omega)).trans rfl⟩, i64b_of w0, u32_of w1, u32_of w2, i64b_of w3, i64b_of w4⟩
theorem open_script1 {H : Type} {enc : TypeId × Value → H} {W : World} {v : Value} {fuel : Nat} {x : DataW H × List MemPlace} (hf : DataW.trod enc Tryd.prog W 0 (fun _ => true) true fuel 48 [v] = some x) (hw : (x.1.weights Tryd.prog 48).all (· ≤ reachBytes) = true) :
    ∃ a n cap f, v = .slice a n cap ∧ InO W a n cap f ∧ n ≤ 4611686018427387904 := by
  rcases open_slice Tryd.underlying48 hf with ⟨hcs, hx⟩ | ⟨a, len, cap, m, n, D, Pl, hcs, _, hl, hm, hmm, hx, hi⟩
  · simp only [List.cons.injEq, and_true] at hcs
    subst hcs
    exact ⟨none, 0, 0, fun _ => opn0, rfl, ⟨Nat.le_refl _, .inl rfl⟩, Nat.zero_le _⟩
  · simp only [List.cons.injEq, and_true] at hcs
    subst hcs
    simp only [if_true] at hmm
    subst hmm
    rw [hx] at hw
    simp only [DataW.weights, Tryd.underlying48, List.all_cons, List.all_append, Bool.and_eq_true] at hw
    have h1 := of_decide_eq_true hw.1
    rw [bytesOp, List.length_map, List.length_range] at h1
    rw [cellsOp] at hi
    obtain ⟨L, hL⟩ := choose_lt (n := len) (α := Opn) (p := fun i e => (W.cell? ((a.add (i * 5)).add 0) = some (.int .i64 e.kind) ∧ W.cell? ((a.add (i * 5)).add 1) = some (.int .u32 e.vip) ∧ W.cell? ((a.add (i * 5)).add 2) = some (.int .u32 e.dip) ∧ W.cell? ((a.add (i * 5)).add 3) = some (.int .i64 e.nth) ∧ W.cell? ((a.add (i * 5)).add 4) = some (.int .i64 e.wait)) ∧ TyO e) (fun i hil => by
      obtain ⟨cs', k1, k2⟩ := hi i (by omega)
      exact open_op k1 k2)
    refine ⟨some a, len, m, L, rfl, ⟨hl, ?_⟩, ?_⟩
    · rcases Nat.eq_zero_or_pos len with h0 | h0
      · exact .inl h0
      · have hz := (hL 0 h0).1.1
        have ha0 : a.add (0 * 5) = a := by simp [Addr.add]
        rw [ha0] at hz
        have ha := plain_of hz
        refine .inr ⟨a.block, a.off, by rw [← ha], fun j hj => ?_⟩
        obtain ⟨⟨q0, q1, q2, q3, q4⟩, ht⟩ := hL j hj
        rw [ha, Go.WideShapes.add_plain, Go.WideShapes.add_plain] at q0 q1 q2 q3 q4
        exact ⟨⟨q0, q1, q2, q3, q4⟩, ht⟩
    · unfold reachBytes at h1
      omega
theorem open_script {H : Type} {enc : TypeId × Value → H} {W : World} {r : Reach} {b0 : Nat} {v : Value} {d : DataW H} {ps : List MemPlace}
    (hv : Value.okWide Tryd.prog W r b0 48 v) (h : DataW.Trod enc Tryd.prog W 0 (fun _ => true) true 48 v d ps) (hw : (d.weights Tryd.prog 48).all (· ≤ reachBytes) = true) :
    ∃ a n cap f, v = .slice a n cap ∧ InO W a n cap f ∧ n ≤ 4611686018427387904 := by
  obtain ⟨a, n, cap, rfl⟩ := okWide_slice Tryd.underlying48 hv
  obtain ⟨fuel, hf⟩ := h
  exact open_script1 (x := (d, ps)) (by simpa [Value.cells] using hf) hw
end Go.Proofs.YtanajblldlgalaaDoor
