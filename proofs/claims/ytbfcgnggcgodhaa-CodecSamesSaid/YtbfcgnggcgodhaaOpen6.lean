/- From the guide's word for arguments to messages, rows of bytes and of numbers, and flows in memory; how long they are at most. No conditions. -/
import Derived.Test.YtbfcgnggcgodhaaMgF
import Derived.OpenShut
import Derived.SizedLaws
import Derived.Lib.SmallJoins
namespace Go.Proofs.Ytbfcgnggcgodhaa
open Go Go.RowKit Go.ChangeShapes Go.WideShapes
set_option linter.unusedVariables false
set_option linter.unusedSimpArgs false

theorem weights_at {H : Type} {P : Program} : ∀ {ts : List TypeId} {ds : List (DataW H)}, (DataW.weightsEach P ts ds).all (· ≤ reachBytes) = true → ∀ {j : Nat} {t : TypeId} {d : DataW H}, ts[j]? = some t → ds[j]? = some d → (d.weights P t).all (· ≤ reachBytes) = true
  | [], _, _, _, _, _, ht, _ => by simp at ht
  | _ :: _, [], _, _, _, _, _, hd => by simp at hd
  | t0 :: ts, d0 :: ds, h, 0, t, d, ht, hd => by
    simp only [List.getElem?_cons_zero, Option.some.injEq] at ht hd
    subst ht hd
    rw [DataW.weightsEach, List.all_append, Bool.and_eq_true] at h
    exact h.1
  | t0 :: ts, d0 :: ds, h, j + 1, t, d, ht, hd => by
    simp only [List.getElem?_cons_succ] at ht hd
    rw [DataW.weightsEach, List.all_append, Bool.and_eq_true] at h
    exact weights_at h.2 ht hd
theorem at_of_row {w : World} {a : Option Addr} {len cap : Nat} {zs : List Int} (h : (a = none ∧ len = 0 ∧ cap = 0 ∧ zs = []) ∨ ∃ x, a = some x ∧ len ≤ cap ∧ cap ≤ maxLen ∧ zs.length = cap ∧ (∀ i, i < zs.length → w.cell? (x.add i) = some (.int .u8 (zs.getD i 0))) ∧ ∀ n ∈ zs, (Lit.int .u8 n).wf = true) :
    ∃ l : List Int, In w a len cap l ∧ l = zs.take len := by
  rcases h with ⟨rfl, rfl, rfl, rfl⟩ | ⟨x, rfl, h1, h2, h3, h4, h5⟩
  · exact ⟨[], ⟨rfl, Nat.le_refl _, fun _ => rfl, At.nil w none 0, by intro b hb; cases hb⟩, rfl⟩
  · have hl : (zs.take len).length = len := by rw [List.length_take]; omega
    refine ⟨zs.take len, ⟨hl, h1, (fun e => by cases e), ⟨some x, cap, by rw [hl], ?_⟩, ?_⟩, rfl⟩
    · by_cases h0 : len = 0
      · subst h0
        exact .inl rfl
      · obtain ⟨b, off, rfl, hc⟩ := ints_at h4 (by omega)
        refine .inr ⟨b, off, rfl, fun j hj => ?_⟩
        rw [hl] at hj
        rw [hc j (by omega), List.getD_eq_getElem?_getD, List.getD_eq_getElem?_getD, List.getElem?_take, if_pos hj]
    · intro n hn
      have := h5 n (List.mem_of_mem_take hn)
      have e : 0 ≤ n ∧ n ≤ 255 := by simpa [Lit.wf, IntKind.min, IntKind.max, IntKind.signed, IntKind.bits] using this
      omega
theorem u32_of {n : Int} (h : (Lit.int .u32 n).wf = true) : 0 ≤ n ∧ n < 4294967296 := by
  have e : 0 ≤ n ∧ n ≤ 4294967295 := by simpa [Lit.wf, IntKind.min, IntKind.max, IntKind.signed, IntKind.bits] using h
  omega
theorem u8_of {n : Int} (h : (Lit.int .u8 n).wf = true) : 0 ≤ n ∧ n < 256 := by
  have e : 0 ≤ n ∧ n ≤ 255 := by simpa [Lit.wf, IntKind.min, IntKind.max, IntKind.signed, IntKind.bits] using h
  omega
theorem bytes5 : Try.prog.bytesOf 5 = 1 := by kernel_rfl
/-- A row's cell. -/
theorem open_row1 {H : Type} {enc : TypeId × Value → H} {W : World} {v : Value} {fuel : Nat} {x : DataW H × List MemPlace} (hf : DataW.trod enc Try.prog W 0 (fun _ => true) true fuel 23 [v] = some x) (hw : (x.1.weights Try.prog 23).all (· ≤ reachBytes) = true) :
    ∃ a n cap l, v = .slice a n cap ∧ In W a n cap l ∧ n ≤ 140737488351232 := by
  rcases open_ints Try.underlying23 Try.underlying5 (by kernel_rfl) hf with ⟨hcs, hx⟩ | ⟨y, n, cap, zs, hcs, _, hl, hm, hz, hx, hcell, hwz⟩
  · simp only [List.cons.injEq, and_true] at hcs
    subst hcs
    exact ⟨none, 0, 0, [], rfl, ⟨rfl, Nat.le_refl _, fun _ => rfl, At.nil _ _ _, by intro b hb; cases hb⟩, Nat.zero_le _⟩
  · simp only [List.cons.injEq, and_true] at hcs
    subst hcs
    simp only [if_true] at hz
    obtain ⟨l, hI, _⟩ := at_of_row (w := W) (.inr ⟨y, rfl, hl, hm, hz, hcell, hwz⟩)
    refine ⟨_, n, cap, l, rfl, hI, ?_⟩
    have e : x.1 = .slice (lits .u8 (zs.take n)) (lits .u8 (zs.drop n)) := by rw [hx]
    rw [e] at hw
    simp only [DataW.weights, Try.underlying23, List.all_cons, Bool.and_eq_true] at hw
    have h1 := of_decide_eq_true hw.1
    rw [bytes5] at h1
    have h2 : (lits (H := H) .u8 (zs.take n)).length = n := by simp only [lits, List.length_map, List.length_take]; omega
    rw [h2] at h1
    unfold reachBytes at h1
    omega
theorem at_of_rowI {w : World} {a : Option Addr} {len cap : Nat} {zs : List Int} (h : (a = none ∧ len = 0 ∧ cap = 0 ∧ zs = []) ∨ ∃ x, a = some x ∧ len ≤ cap ∧ cap ≤ maxLen ∧ zs.length = cap ∧ (∀ i, i < zs.length → w.cell? (x.add i) = some (.int .i64 (zs.getD i 0))) ∧ ∀ n ∈ zs, (Lit.int .i64 n).wf = true) :
    ∃ l : List Int, InI w a len cap l ∧ l = zs.take len := by
  rcases h with ⟨rfl, rfl, rfl, rfl⟩ | ⟨x, rfl, h1, h2, h3, h4, h5⟩
  · exact ⟨[], ⟨rfl, Nat.le_refl _, fun _ => rfl, AtI.nil w none 0, by intro b hb; cases hb⟩, rfl⟩
  · have hl : (zs.take len).length = len := by rw [List.length_take]; omega
    refine ⟨zs.take len, ⟨hl, h1, (fun e => by cases e), ⟨some x, cap, by rw [hl], ?_⟩, ?_⟩, rfl⟩
    · by_cases h0 : len = 0
      · subst h0
        exact .inl rfl
      · obtain ⟨b, off, rfl, hc⟩ := ints_at h4 (by omega)
        refine .inr ⟨b, off, rfl, fun j hj => ?_⟩
        rw [hl] at hj
        rw [hc j (by omega), List.getD_eq_getElem?_getD, List.getD_eq_getElem?_getD, List.getElem?_take, if_pos hj]
    · intro n hn
      have := h5 n (List.mem_of_mem_take hn)
      have e : -9223372036854775808 ≤ n ∧ n ≤ 9223372036854775807 := by simpa [Lit.wf, IntKind.min, IntKind.max, IntKind.signed, IntKind.bits] using this
      omega
theorem bytes3 : Try.prog.bytesOf 3 = 8 := by kernel_rfl
/-- A row's cell. -/
theorem open_row1I {H : Type} {enc : TypeId × Value → H} {W : World} {v : Value} {fuel : Nat} {x : DataW H × List MemPlace} (hf : DataW.trod enc Try.prog W 0 (fun _ => true) true fuel 22 [v] = some x) (hw : (x.1.weights Try.prog 22).all (· ≤ reachBytes) = true) :
    ∃ a n cap l, v = .slice a n cap ∧ InI W a n cap l ∧ n ≤ 17592186043904 := by
  rcases open_ints Try.underlying22 Try.underlying3 (by kernel_rfl) hf with ⟨hcs, hx⟩ | ⟨y, n, cap, zs, hcs, _, hl, hm, hz, hx, hcell, hwz⟩
  · simp only [List.cons.injEq, and_true] at hcs
    subst hcs
    exact ⟨none, 0, 0, [], rfl, ⟨rfl, Nat.le_refl _, fun _ => rfl, AtI.nil _ _ _, by intro b hb; cases hb⟩, Nat.zero_le _⟩
  · simp only [List.cons.injEq, and_true] at hcs
    subst hcs
    simp only [if_true] at hz
    obtain ⟨l, hI, _⟩ := at_of_rowI (w := W) (.inr ⟨y, rfl, hl, hm, hz, hcell, hwz⟩)
    refine ⟨_, n, cap, l, rfl, hI, ?_⟩
    have e : x.1 = .slice (lits .i64 (zs.take n)) (lits .i64 (zs.drop n)) := by rw [hx]
    rw [e] at hw
    simp only [DataW.weights, Try.underlying22, List.all_cons, Bool.and_eq_true] at hw
    have h1 := of_decide_eq_true hw.1
    rw [bytes3] at h1
    have h2 : (lits (H := H) .i64 (zs.take n)).length = n := by simp only [lits, List.length_map, List.length_take]; omega
    rw [h2] at h1
    unfold reachBytes at h1
    omega
theorem cellsM : Try.prog.cellsOf 25 = 3 := by kernel_rfl
theorem cellsF : Try.prog.cellsOf 55 = 5 := by kernel_rfl
theorem cells3 : Try.prog.cellsOf 3 = 1 := by kernel_rfl
theorem cells23 : Try.prog.cellsOf 53 = 1 := by kernel_rfl
theorem cells26 : Try.prog.cellsOf 23 = 1 := by kernel_rfl
theorem cells27 : Try.prog.cellsOf 22 = 1 := by kernel_rfl
set_option maxRecDepth 100000 in
/-- A message by value. -/
theorem open_msg {H : Type} {enc : TypeId × Value → H} {W : World} {r : Reach} {b0 : Nat} {v : Value} {d : DataW H} {ps : List MemPlace}
    (hv : Value.okWide Try.prog W r b0 25 v) (h : DataW.Trod enc Try.prog W 0 (fun _ => true) true 25 v d ps) (hw : (d.weights Try.prog 25).all (· ≤ reachBytes) = true) :
    ∃ (m : Mg) (a : Option Addr) (n c : Nat) (b : Option Addr) (k e : Nat), v = mval m.kind a n c b k e ∧ MIn W a n c b k e m ∧ n ≤ 17592186043904 ∧ k ≤ 140737488351232 := by
  obtain ⟨⟨l⟩, rfl, hsz⟩ := okWide_struct Try.underlying25 hv
  rw [cellsM] at hsz
  obtain ⟨fuel, hf⟩ := h
  obtain ⟨xs, n, _, hx, _, hlen, hg⟩ := DataW.trod_struct Try.underlying25 hf
  match l, hsz with
  | [c0, c1, c2], _ =>
    match xs, hlen with
    | [y0, y1, y2], _ =>
      have g0 : DataW.trod enc Try.prog W 0 (fun _ => true) true n 3 [c0] = some y0 := by simpa [Value.cells, cells3] using hg 0 _ rfl
      have g1 : DataW.trod enc Try.prog W 0 (fun _ => true) true n 22 [c1] = some y1 := by simpa [Value.cells, cells27] using hg 1 _ rfl
      have g2 : DataW.trod enc Try.prog W 0 (fun _ => true) true n 23 [c2] = some y2 := by simpa [Value.cells, cells26] using hg 2 _ rfl
      obtain ⟨z0, e0, _, w0⟩ := DataW.trod_int Try.underlying3 g0
      simp only [List.cons.injEq, and_true] at e0
      subst e0
      have hd : d = .agg ([y0, y1, y2].map (·.1)) := by
        simp only [Prod.mk.injEq] at hx
        exact hx.1
      rw [hd] at hw
      have hw' := hw
      simp only [DataW.weights, Try.underlying25] at hw'
      have hw1 := weights_at (j := 1) (t := 22) (d := y1.1) hw' rfl rfl
      have hw2 := weights_at (j := 2) (t := 23) (d := y2.1) hw' rfl rfl
      obtain ⟨a, k, c, dl, rfl, hI, hk⟩ := open_row1I g1 hw1
      obtain ⟨a', k', c', dl', rfl, hI', hk'⟩ := open_row1 g2 hw2
      exact ⟨⟨z0, dl, dl'⟩, a, k, c, a', k', c', rfl, ⟨hI, hI'⟩, hk, hk'⟩
set_option maxRecDepth 100000 in
theorem open_flow {H : Type} {enc : TypeId × Value → H} {W : World} {r : Reach} {b0 : Nat} {v : Value} {d : DataW H} {ps : List MemPlace}
    (hv : Value.okWide Try.prog W r b0 55 v) (h : DataW.Trod enc Try.prog W 0 (fun _ => true) true 55 v d ps) :
    ∃ pr s sp d dp : Int, v = fv pr s sp d dp ∧ (0 ≤ s ∧ s < 4294967296) ∧ (0 ≤ d ∧ d < 4294967296) ∧ fitI [pr, s, sp, d, dp] := by
  obtain ⟨⟨l⟩, rfl, hsz⟩ := okWide_struct Try.underlying55 hv
  rw [cellsF] at hsz
  obtain ⟨fuel, hf⟩ := h
  obtain ⟨xs, n, _, hx, _, hlen, hg⟩ := DataW.trod_struct Try.underlying55 hf
  match l, hsz with
  | [c3, c4, c5, c6, c7], _ =>
    match xs, hlen with
    | [u0, u1, u2, u3, u4], _ =>
      have k0 : DataW.trod enc Try.prog W 0 (fun _ => true) true n 3 [c3] = some u0 := by simpa [Value.cells, cells3] using hg 0 _ rfl
      have k1 : DataW.trod enc Try.prog W 0 (fun _ => true) true n 53 [c4] = some u1 := by simpa [Value.cells, cells23] using hg 1 _ rfl
      have k2 : DataW.trod enc Try.prog W 0 (fun _ => true) true n 3 [c5] = some u2 := by simpa [Value.cells, cells3] using hg 2 _ rfl
      have k3 : DataW.trod enc Try.prog W 0 (fun _ => true) true n 53 [c6] = some u3 := by simpa [Value.cells, cells23] using hg 3 _ rfl
      have k4 : DataW.trod enc Try.prog W 0 (fun _ => true) true n 3 [c7] = some u4 := by simpa [Value.cells, cells3] using hg 4 _ rfl
      obtain ⟨z3, e3, _, w3⟩ := DataW.trod_int Try.underlying3 k0
      obtain ⟨z4, e4, _, w4⟩ := DataW.trod_int Try.underlying53 k1
      obtain ⟨z5, e5, _, w5⟩ := DataW.trod_int Try.underlying3 k2
      obtain ⟨z6, e6, _, w6⟩ := DataW.trod_int Try.underlying53 k3
      obtain ⟨z7, e7, _, w7⟩ := DataW.trod_int Try.underlying3 k4
      simp only [List.cons.injEq, and_true] at e3 e4 e5 e6 e7
      subst e3 e4 e5 e6 e7
      refine ⟨z3, z4, z5, z6, z7, rfl, u32_of w4, u32_of w6, ?_⟩
      have b3 := i64_of w3
      have b4 := u32_of w4
      have b5 := i64_of w5
      have b6 := u32_of w6
      have b7 := i64_of w7
      intro x hx
      simp only [List.mem_cons, List.not_mem_nil, or_false] at hx
      rcases hx with rfl | rfl | rfl | rfl | rfl <;> omega
set_option maxRecDepth 100000 in
theorem open_bytes {H : Type} {enc : TypeId × Value → H} {W : World} {v : Value} {d : DataW H} {p : List MemPlace} {r : Reach} {b0 : Nat}
    (hv : Value.okWide Try.prog W r b0 23 v) (h : DataW.Trod enc Try.prog W 0 (fun _ => true) true 23 v d p) (hw : (d.weights Try.prog 23).all (· ≤ reachBytes) = true) :
    ∃ a n cap l, v = .slice a n cap ∧ In W a n cap l ∧ n ≤ 140737488351232 := by
  obtain ⟨a, n, cap, rfl⟩ := okWide_slice Try.underlying23 hv
  obtain ⟨fuel, hf⟩ := h
  exact open_row1 (x := (d, p)) (by simpa [Value.cells] using hf) hw
set_option maxRecDepth 100000 in
theorem open_introw {H : Type} {enc : TypeId × Value → H} {W : World} {v : Value} {d : DataW H} {p : List MemPlace} {r : Reach} {b0 : Nat}
    (hv : Value.okWide Try.prog W r b0 22 v) (h : DataW.Trod enc Try.prog W 0 (fun _ => true) true 22 v d p) (hw : (d.weights Try.prog 22).all (· ≤ reachBytes) = true) :
    ∃ a n cap l, v = .slice a n cap ∧ InI W a n cap l ∧ n ≤ 17592186043904 := by
  obtain ⟨a, n, cap, rfl⟩ := okWide_slice Try.underlying22 hv
  obtain ⟨fuel, hf⟩ := h
  exact open_row1I (x := (d, p)) (by simpa [Value.cells] using hf) hw
end Go.Proofs.Ytbfcgnggcgodhaa
