/- From the guide's word for arguments to scripts of operations in memory. No conditions. -/
import Derived.Test.YtlmkmbpikhagiaaO18
import Derived.Deep.Slices
import Derived.Deep.Grids
namespace Go.Proofs.Ytlmkmbpikhagiaa
open Go Go.RowKit Go.ChangeShapes Go.WideShapes Go.Deep
set_option linter.unusedVariables false
set_option linter.unusedSimpArgs false

theorem weightsAll_at {H : Type} {P : Program} {e : TypeId} : ∀ {ds : List (DataW H)}, (DataW.weightsAll P e ds).all (· ≤ reachBytes) = true → ∀ d ∈ ds, (d.weights P e).all (· ≤ reachBytes) = true
  | [], _, d, hd => by cases hd
  | d0 :: ds, h, d, hd => by
    rw [DataW.weightsAll, List.all_append, Bool.and_eq_true] at h
    rcases List.mem_cons.1 hd with rfl | hd
    · exact h.1
    · exact weightsAll_at h.2 d hd
theorem plain_of {w : World} {a : Addr} {v : Value} (h : w.cell? (a.add 0) = some v) : a = ⟨a.block, a.off, none⟩ := by
  obtain ⟨b, off, spot⟩ := a
  have hspot : spot = none := by simpa [Addr.add] using World.cell?_spot h
  subst hspot
  rfl
theorem getD_range {α : Type} (f : Nat → α) (d : α) {n j : Nat} (hj : j < n) : ((List.range n).map f).getD j d = f j := by
  rw [List.getD_eq_getElem?_getD, List.getElem?_map, List.getElem?_range hj]
  rfl
theorem bytesOp : Try.prog.bytesOf 42 = 104 := by kernel_rfl
def opR : OpR := ⟨0, none, 0, 0, [], 0, ⟨0, [], []⟩, none, 0, 0, none, 0, 0, 0⟩
instance : Inhabited OpR := ⟨opR⟩
/-- A script in memory. -/
structure SOIn (w : World) (ao : Option Addr) (n : Nat) (os : List OpR) : Prop where
  len : os.length = n
  here : n = 0 ∨ ∃ b off, ao = some ⟨b, off, none⟩ ∧ ∀ j, j < n → ∀ i, i < 7 → w.cell? ⟨b, off + j * 7 + i, none⟩ = ((os.getD j opR).cs)[i]?
  ok : ∀ j, j < n → OpOk w (os.getD j opR)
theorem oR_some (o : OpR) {i : Nat} (hi : i < 7) : ∃ u, (o.cs)[i]? = some u := ⟨_, List.getElem?_eq_getElem (by simp [OpR.cs]; omega)⟩
theorem SOIn.below {w w' : World} {ao : Option Addr} {n : Nat} {os : List OpR} (h : SOIn w ao n os) (hb : Below w.heap.size w w') : SOIn w' ao n os :=
  ⟨h.len, h.here.imp id (fun ⟨b, off, e, hc⟩ => ⟨b, off, e, fun j hj i hi => by
    obtain ⟨u, hu⟩ := oR_some (os.getD j opR) hi
    have := hc j hj i hi
    rw [hu] at this ⊢
    exact cell_later hb this⟩), fun j hj => (h.ok j hj).below hb⟩
theorem SOIn.cells {w : World} {b off n : Nat} {os : List OpR} (h : SOIn w (some ⟨b, off, none⟩) n os) {j : Nat} (hj : j < n) {o : OpR} (ho : os.getD j opR = o) :
    w.cell? ⟨b, off + j * 7, none⟩ = some (.int .i64 o.kind) ∧ w.cell? ⟨b, off + j * 7 + 1, none⟩ = some (.slice o.va o.vn o.vc) ∧ w.cell? ⟨b, off + j * 7 + 2, none⟩ = some (.int .i64 o.fr) ∧ w.cell? ⟨b, off + j * 7 + 3, none⟩ = some (.int .i64 o.m.kind) ∧ w.cell? ⟨b, off + j * 7 + 4, none⟩ = some (.slice o.a o.n o.c) ∧ w.cell? ⟨b, off + j * 7 + 5, none⟩ = some (.slice o.b o.k o.d) ∧ w.cell? ⟨b, off + j * 7 + 6, none⟩ = some (.int .i64 o.now) := by
  subst ho
  rcases h.here with h0 | ⟨b', off', e, hc⟩
  · omega
  · cases e
    exact ⟨hc j hj 0 (by omega), hc j hj 1 (by omega), hc j hj 2 (by omega), hc j hj 3 (by omega), hc j hj 4 (by omega), hc j hj 5 (by omega), hc j hj 6 (by omega)⟩
theorem SOIn.block {w : World} {n : Nat} {ao : Option Addr} {os : List OpR} (h : SOIn w ao n os) (hn : 0 < n) : ∃ b off, ao = some ⟨b, off, none⟩ := by
  rcases h.here with h0 | ⟨b, off, e, _⟩
  · omega
  · exact ⟨b, off, e⟩
set_option maxRecDepth 100000 in
theorem open_op {H : Type} {enc : TypeId × Value → H} {W : World} {p : Addr} {cs : List Value} {n : Nat} {d : DataW H} {pl : List MemPlace} (h1 : W.cells? 0 p 7 = some cs) (h2 : DataW.trod enc Try.prog W 0 (fun _ => true) true n 42 cs = some (d, pl)) (hw : (d.weights Try.prog 42).all (· ≤ reachBytes) = true) : ∃ o : OpR, (∀ i, i < 7 → W.cell? (p.add i) = (o.cs)[i]?) ∧ OpOk W o := by
  obtain ⟨_, hlen, hc⟩ := World.cells?_some h1
  match cs, hlen with
  | [c0, c1, c2, c3, c4, c5, c6], _ =>
    obtain ⟨o, ho, hO⟩ := open_opc h2 hw
    refine ⟨o, fun i hi => ?_, hO⟩
    rw [hc i (by simpa using hi), ho]
set_option maxRecDepth 100000 in
theorem open_script1 {H : Type} {enc : TypeId × Value → H} {W : World} {v : Value} {fuel : Nat} {x : DataW H × List MemPlace} (hf : DataW.trod enc Try.prog W 0 (fun _ => true) true fuel 22 [v] = some x) (hw : (x.1.weights Try.prog 22).all (· ≤ reachBytes) = true) :
    ∃ a n cap os, v = .slice a n cap ∧ SOIn W a n os ∧ n ≤ 1152921504606846976 ∧ n ≤ cap := by
  rcases open_slice Try.underlying22 hf with ⟨hcs, hx⟩ | ⟨a, len, cap, m, n, D, Pl, hcs, _, hl, hm, hmm, hx, hi⟩
  · simp only [List.cons.injEq, and_true] at hcs
    subst hcs
    exact ⟨none, 0, 0, [], rfl, ⟨rfl, .inl rfl, fun j hj => absurd hj (by omega)⟩, Nat.zero_le _, Nat.le_refl _⟩
  · simp only [List.cons.injEq, and_true] at hcs
    subst hcs
    simp only [if_true] at hmm
    subst hmm
    rw [hx] at hw
    simp only [DataW.weights, Try.underlying22, List.all_cons, List.all_append, Bool.and_eq_true] at hw
    have h1 := of_decide_eq_true hw.1
    rw [bytesOp, List.length_map, List.length_range] at h1
    have hD := weightsAll_at hw.2.1
    rw [cellsOp] at hi
    obtain ⟨L, hL⟩ := choose_lt (n := len) (α := OpR) (p := fun i o => (∀ k, k < 7 → W.cell? ((a.add (i * 7)).add k) = (o.cs)[k]?) ∧ OpOk W o) (fun i hil => by
      obtain ⟨cs', k1, k2⟩ := hi i (by omega)
      exact open_op k1 k2 (hD (D i) (List.mem_map.2 ⟨i, List.mem_range.2 hil, rfl⟩)))
    have hg : ∀ j, j < len → ((List.range len).map L).getD j opR = L j := fun j hj => getD_range L opR hj
    refine ⟨some a, len, m, (List.range len).map L, rfl, ⟨by simp, ?_, fun j hj => by rw [hg j hj]; exact (hL j hj).2⟩, ?_, hl⟩
    · rcases Nat.eq_zero_or_pos len with h0 | h0
      · exact .inl h0
      · have hz := (hL 0 h0).1 0 (by omega)
        have ha0 : a.add (0 * 7) = a := by simp [Addr.add]
        rw [ha0] at hz
        have hz2 : W.cell? (a.add 0) = some (.int .i64 (L 0).kind) := hz
        have ha := plain_of hz2
        refine .inr ⟨a.block, a.off, by rw [← ha], fun j hj i hi2 => ?_⟩
        have hc := (hL j hj).1 i hi2
        rw [ha, Go.WideShapes.add_plain, Go.WideShapes.add_plain] at hc
        rw [hg j hj]
        exact hc
    · unfold reachBytes at h1
      omega
set_option maxRecDepth 100000 in
theorem open_script {H : Type} {enc : TypeId × Value → H} {W : World} {v : Value} {d : DataW H} {p : List MemPlace} {r : Reach} {b0 : Nat}
    (hv : Value.okWide Try.prog W r b0 22 v) (h : DataW.Trod enc Try.prog W 0 (fun _ => true) true 22 v d p) (hw : (d.weights Try.prog 22).all (· ≤ reachBytes) = true) :
    ∃ a n cap os, v = .slice a n cap ∧ SOIn W a n os ∧ n ≤ 1152921504606846976 ∧ n ≤ cap := by
  obtain ⟨a, n, cap, rfl⟩ := okWide_slice Try.underlying22 hv
  obtain ⟨fuel, hf⟩ := h
  exact open_script1 (x := (d, p)) (by simpa [Value.cells] using hf) hw
end Go.Proofs.Ytlmkmbpikhagiaa
