/- From the guide's word for arguments to scripts in memory. No conditions. -/
import Derived.Test.YtpbgccidhpfmgaaO13
import Derived.Test.YtpbgccidhpfmgaaScS
namespace Go.Proofs.Ytpbgccidhpfmgaa
open Go Go.RowKit Go.ChangeShapes Go.WideShapes Go.Deep
set_option linter.unusedVariables false
set_option linter.unusedSimpArgs false

theorem cells3 : Try.prog.cellsOf 3 = 1 := by kernel_rfl
theorem cells73 : Try.prog.cellsOf 73 = 1 := by kernel_rfl
theorem bytes9 : Try.prog.bytesOf 9 = 16 := by kernel_rfl
theorem cellsO : Try.prog.cellsOf 76 = 5 := by kernel_rfl
theorem bytesO : Try.prog.bytesOf 76 = 80 := by kernel_rfl
theorem sv_data (s : ByteArray) : Value.string s = sv s.data.toList := by simp [sv]
set_option maxRecDepth 100000 in
theorem open_strs1 {H : Type} {enc : TypeId × Value → H} {W : World} {v : Value} {fuel : Nat} {x : DataW H × List MemPlace} (hf : DataW.trod enc Try.prog W 0 (fun _ => true) true fuel 73 [v] = some x) (hw : (x.1.weights Try.prog 73).all (· ≤ reachBytes) = true) :
    ∃ a n c ks, v = .slice a n c ∧ MsIn W a n c ks ∧ n ≤ 140737488355328 := by
  rcases open_strs Try.underlying73 Try.underlying9 cells9 hf with ⟨hcs, hx⟩ | ⟨a, len, cap, m, Sx, hcs, _, hl, hm, hmm, hx, hi⟩
  · simp only [List.cons.injEq, and_true] at hcs
    subst hcs
    exact ⟨none, 0, 0, [], rfl, ⟨rfl, Nat.le_refl _, fun _ => ⟨rfl, rfl⟩, .inl rfl, fun k hk => by cases hk⟩, Nat.zero_le _⟩
  · simp only [List.cons.injEq, and_true] at hcs
    subst hcs
    simp only [if_true] at hmm
    subst hmm
    rw [hx] at hw
    simp only [DataW.weights, Try.underlying73, List.all_cons, List.all_append, Bool.and_eq_true] at hw
    have h1 := of_decide_eq_true hw.1
    rw [bytes9, List.length_map, List.length_range] at h1
    have hg : ∀ j, j < len → ((List.range len).map (fun i => (Sx i).data.toList)).getD j [] = (Sx j).data.toList := fun j hj => getD_range (fun i => (Sx i).data.toList) [] hj
    refine ⟨some a, len, m, (List.range len).map (fun i => (Sx i).data.toList), rfl, ⟨by simp, hl, (fun e => by cases e), ?_, fun k hk => ?_⟩, ?_⟩
    · rcases Nat.eq_zero_or_pos len with h0 | h0
      · exact .inl h0
      · have ha := plain_of (hi 0 (by omega)).1
        refine .inr ⟨a.block, a.off, by rw [← ha], fun j hj => ?_⟩
        have hc := (hi j (by omega)).1
        rw [ha, Go.WideShapes.add_plain] at hc
        rw [hg j hj, ← sv_data]
        exact hc
    · obtain ⟨i, hil, rfl⟩ := List.mem_map.1 hk
      have := (hi i (by have := List.mem_range.1 hil; omega)).2
      show (Sx i).data.toList.length ≤ maxLen
      rw [Array.length_toList]
      exact this
    · unfold reachBytes at h1
      omega
set_option maxRecDepth 100000 in
theorem open_opc {H : Type} {enc : TypeId × Value → H} {W : World} {n : Nat} {c0 c1 c2 c3 c4 : Value} {d : DataW H} {pl : List MemPlace} (h2 : DataW.trod enc Try.prog W 0 (fun _ => true) true n 76 [c0, c1, c2, c3, c4] = some (d, pl)) (hw : (d.weights Try.prog 76).all (· ≤ reachBytes) = true) : ∃ o : OpS, [c0, c1, c2, c3, c4] = o.cs ∧ OpIn W o := by
  obtain ⟨xs, n', _, hx, _, hxl, hg⟩ := DataW.trod_struct Try.underlying76 h2
  match xs, hxl with
  | [y0, y1, y2, y3, y4], _ =>
    have g0 : DataW.trod enc Try.prog W 0 (fun _ => true) true n' 3 [c0] = some y0 := by simpa [Value.cells, cells3, cells9, cells73, cells74] using hg 0 _ rfl
    have g1 : DataW.trod enc Try.prog W 0 (fun _ => true) true n' 9 [c1] = some y1 := by simpa [Value.cells, cells3, cells9, cells73, cells74] using hg 1 _ rfl
    have g2 : DataW.trod enc Try.prog W 0 (fun _ => true) true n' 73 [c2] = some y2 := by simpa [Value.cells, cells3, cells9, cells73, cells74] using hg 2 _ rfl
    have g3 : DataW.trod enc Try.prog W 0 (fun _ => true) true n' 74 [c3] = some y3 := by simpa [Value.cells, cells3, cells9, cells73, cells74] using hg 3 _ rfl
    have g4 : DataW.trod enc Try.prog W 0 (fun _ => true) true n' 3 [c4] = some y4 := by simpa [Value.cells, cells3, cells9, cells73, cells74] using hg 4 _ rfl
    have hd : d = .agg ([y0, y1, y2, y3, y4].map (·.1)) := by
      simp only [Prod.mk.injEq] at hx
      exact hx.1
    rw [hd] at hw
    simp only [DataW.weights, Try.underlying76] at hw
    have hw2 := weights_at (j := 2) (t := 73) (d := y2.1) hw rfl rfl
    have hw3 := weights_at (j := 3) (t := 74) (d := y3.1) hw rfl rfl
    obtain ⟨z0, e0, _, w0⟩ := DataW.trod_int Try.underlying3 g0
    obtain ⟨s1, e1, _, b1⟩ := DataW.trod_string Try.underlying9 g1
    obtain ⟨ma, mn, mc, ms, e2, hM, hmn⟩ := open_strs1 g2 hw2
    obtain ⟨ra, rn, rc, r, e3, hR, hrn⟩ := open_row1 g3 hw3
    obtain ⟨z4, e4, _, w4⟩ := DataW.trod_int Try.underlying3 g4
    obtain ⟨k, ek, hk⟩ := sv_of s1 b1
    simp only [List.cons.injEq, and_true] at e0 e1 e4
    subst e0 e1 e2 e3 e4
    rw [ek]
    exact ⟨⟨z0, k, ma, mn, mc, ms, ra, rn, rc, r, z4⟩, rfl, hR, hM, hk, ⟨i64_of w0, i64_of w4⟩, Nat.le_trans hrn (by decide), hmn⟩
set_option maxRecDepth 100000 in
theorem open_op {H : Type} {enc : TypeId × Value → H} {W : World} {p : Addr} {cs : List Value} {n : Nat} {d : DataW H} {pl : List MemPlace} (h1 : W.cells? 0 p 5 = some cs) (h2 : DataW.trod enc Try.prog W 0 (fun _ => true) true n 76 cs = some (d, pl)) (hw : (d.weights Try.prog 76).all (· ≤ reachBytes) = true) :
    ∃ o : OpS, (∀ k, k < 5 → W.cell? (p.add k) = (o.cs)[k]?) ∧ OpIn W o := by
  obtain ⟨_, hlen, hc⟩ := World.cells?_some h1
  match cs, hlen with
  | [c0, c1, c2, c3, c4], _ =>
    obtain ⟨o, ho, hO⟩ := open_opc h2 hw
    refine ⟨o, fun i hi => ?_, hO⟩
    rw [hc i (by simpa using hi), ← ho]
set_option maxRecDepth 100000 in
theorem open_script1 {H : Type} {enc : TypeId × Value → H} {W : World} {v : Value} {fuel : Nat} {x : DataW H × List MemPlace} (hf : DataW.trod enc Try.prog W 0 (fun _ => true) true fuel 64 [v] = some x) (hw : (x.1.weights Try.prog 64).all (· ≤ reachBytes) = true) :
    ∃ a n cap os, v = .slice a n cap ∧ SIn W a n cap os ∧ n ≤ 1152921504606846976 := by
  rcases open_slice Try.underlying64 hf with ⟨hcs, hx⟩ | ⟨a, len, cap, m, n, D, Pl, hcs, _, hl, hm, hmm, hx, hi⟩
  · simp only [List.cons.injEq, and_true] at hcs
    subst hcs
    exact ⟨none, 0, 0, [], rfl, ⟨rfl, Nat.le_refl _, .inl rfl, fun j hj => absurd hj (by omega)⟩, Nat.zero_le _⟩
  · simp only [List.cons.injEq, and_true] at hcs
    subst hcs
    simp only [if_true] at hmm
    subst hmm
    rw [hx] at hw
    simp only [DataW.weights, Try.underlying64, List.all_cons, List.all_append, Bool.and_eq_true] at hw
    have h1 := of_decide_eq_true hw.1
    rw [bytesO, List.length_map, List.length_range] at h1
    have hD := weightsAll_at hw.2.1
    rw [cellsO] at hi
    obtain ⟨L, hL⟩ := choose_lt (n := len) (α := OpS) (p := fun i o => (∀ k, k < 5 → W.cell? ((a.add (i * 5)).add k) = (o.cs)[k]?) ∧ OpIn W o) (fun i hil => by
      obtain ⟨cs', k1, k2⟩ := hi i (by omega)
      exact open_op k1 k2 (hD (D i) (List.mem_map.2 ⟨i, List.mem_range.2 hil, rfl⟩)))
    have hg : ∀ j, j < len → ((List.range len).map L).getD j opS = L j := fun j hj => getD_range L opS hj
    refine ⟨some a, len, m, (List.range len).map L, rfl, ⟨by simp, hl, ?_, fun j hj => by rw [hg j hj]; exact (hL j hj).2⟩, ?_⟩
    · rcases Nat.eq_zero_or_pos len with h0 | h0
      · exact .inl h0
      · have hz := (hL 0 h0).1 0 (by omega)
        have ha0 : a.add (0 * 5) = a := by simp [Addr.add]
        rw [ha0] at hz
        have hz2 : W.cell? (a.add 0) = some (.int .i64 (L 0).kind) := hz
        have ha := plain_of hz2
        refine .inr ⟨a.block, a.off, by rw [← ha], fun j hj i hi2 => ?_⟩
        have hc := (hL j hj).1 i hi2
        rw [ha, Go.WideShapes.add_plain, Go.WideShapes.add_plain] at hc
        rw [hg j hj]
        exact hc
    · unfold reachBytes at h1
      omega
set_option maxRecDepth 100000 in
theorem open_script {H : Type} {enc : TypeId × Value → H} {W : World} {v : Value} {d : DataW H} {p : List MemPlace} {r : Reach} {b0 : Nat}
    (hv : Value.okWide Try.prog W r b0 64 v) (h : DataW.Trod enc Try.prog W 0 (fun _ => true) true 64 v d p) (hw : (d.weights Try.prog 64).all (· ≤ reachBytes) = true) :
    ∃ a n cap os, v = .slice a n cap ∧ SIn W a n cap os ∧ n ≤ 1152921504606846976 := by
  obtain ⟨a, n, cap, rfl⟩ := okWide_slice Try.underlying64 hv
  obtain ⟨fuel, hf⟩ := h
  exact open_script1 (x := (d, p)) (by simpa [Value.cells] using hf) hw
end Go.Proofs.Ytpbgccidhpfmgaa
