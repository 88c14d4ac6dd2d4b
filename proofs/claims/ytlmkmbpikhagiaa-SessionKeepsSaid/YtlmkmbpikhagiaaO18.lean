/- From the guide's word for arguments to operations, messages and rows in memory; how long they are at most. No conditions. -/
import Derived.Test.YtlmkmbpikhagiaaMsA
import Derived.Test.YtlmkmbpikhagiaaRowA
import Derived.OpenShut
import Derived.SizedLaws
import Derived.Lib.SmallJoins
namespace Go.Proofs.Ytlmkmbpikhagiaa
open Go Go.RowKit Go.ChangeShapes Go.WideShapes
set_option linter.unusedVariables false
set_option linter.unusedSimpArgs false

theorem weights_at {H : Type} {P : Program} : ∀ {ts : List TypeId} {ds : List (DataW H)}, (DataW.weightsEach P ts ds).all (· ≤ reachBytes) = true → ∀ {j : Nat} {t : TypeId} {d : DataW H}, ts[j]? = some t → ds[j]? = some d → (d.weights P t).all (· ≤ reachBytes) = true
  | [], _, _, _, _, _, ht, _ => by simp at ht
  | _ :: _, [], _, _, _, _, _, hd => by simp at hd
  | t0 :: ts, d0 :: ds, h, 0, t, d, ht, hd => by
    simp only [List.getElem?_cons_zero, Option.some.injEq] at ht hd
    subst ht hd
    rw [DataW.weightsEach, List.all_append, Bool.and_eq_true] at h
    exact h.1
  | t0 :: ts, d0 :: ds, h, j + 1, t, d, ht, hd => by
    simp only [List.getElem?_cons_succ] at ht hd
    rw [DataW.weightsEach, List.all_append, Bool.and_eq_true] at h
    exact weights_at h.2 ht hd
theorem at_of_row {w : World} {a : Option Addr} {len cap : Nat} {zs : List Int} (h : (a = none ∧ len = 0 ∧ cap = 0 ∧ zs = []) ∨ ∃ x, a = some x ∧ len ≤ cap ∧ cap ≤ maxLen ∧ zs.length = cap ∧ (∀ i, i < zs.length → w.cell? (x.add i) = some (.int .u8 (zs.getD i 0))) ∧ ∀ n ∈ zs, (Lit.int .u8 n).wf = true) :
    ∃ l : List Int, In w a len cap l ∧ l = zs.take len := by
  rcases h with ⟨rfl, rfl, rfl, rfl⟩ | ⟨x, rfl, h1, h2, h3, h4, h5⟩
  · exact ⟨[], ⟨rfl, Nat.le_refl _, fun _ => rfl, At.nil w none 0, by intro b hb; cases hb⟩, rfl⟩
  · have hl : (zs.take len).length = len := by rw [List.length_take]; omega
    refine ⟨zs.take len, ⟨hl, h1, (fun e => by cases e), ⟨some x, cap, by rw [hl], ?_⟩, ?_⟩, rfl⟩
    · by_cases h0 : len = 0
      · subst h0
        exact .inl rfl
      · obtain ⟨b, off, rfl, hc⟩ := ints_at h4 (by omega)
        refine .inr ⟨b, off, rfl, fun j hj => ?_⟩
        rw [hl] at hj
        rw [hc j (by omega), List.getD_eq_getElem?_getD, List.getD_eq_getElem?_getD, List.getElem?_take, if_pos hj]
    · intro n hn
      have := h5 n (List.mem_of_mem_take hn)
      have e : 0 ≤ n ∧ n ≤ 255 := by simpa [Lit.wf, IntKind.min, IntKind.max, IntKind.signed, IntKind.bits] using this
      omega
theorem u32_of {n : Int} (h : (Lit.int .u32 n).wf = true) : 0 ≤ n ∧ n < 4294967296 := by
  have e : 0 ≤ n ∧ n ≤ 4294967295 := by simpa [Lit.wf, IntKind.min, IntKind.max, IntKind.signed, IntKind.bits] using h
  omega
theorem u8_of {n : Int} (h : (Lit.int .u8 n).wf = true) : 0 ≤ n ∧ n < 256 := by
  have e : 0 ≤ n ∧ n ≤ 255 := by simpa [Lit.wf, IntKind.min, IntKind.max, IntKind.signed, IntKind.bits] using h
  omega
theorem bytes5 : Try.prog.bytesOf 5 = 1 := by kernel_rfl
/-- A row's cell. -/
theorem open_row1 {H : Type} {enc : TypeId × Value → H} {W : World} {v : Value} {fuel : Nat} {x : DataW H × List MemPlace} (hf : DataW.trod enc Try.prog W 0 (fun _ => true) true fuel 38 [v] = some x) (hw : (x.1.weights Try.prog 38).all (· ≤ reachBytes) = true) :
    ∃ a n cap l, v = .slice a n cap ∧ In W a n cap l ∧ n ≤ 140737488351232 := by
  rcases open_ints Try.underlying38 Try.underlying5 (by kernel_rfl) hf with ⟨hcs, hx⟩ | ⟨y, n, cap, zs, hcs, _, hl, hm, hz, hx, hcell, hwz⟩
  · simp only [List.cons.injEq, and_true] at hcs
    subst hcs
    exact ⟨none, 0, 0, [], rfl, ⟨rfl, Nat.le_refl _, fun _ => rfl, At.nil _ _ _, by intro b hb; cases hb⟩, Nat.zero_le _⟩
  · simp only [List.cons.injEq, and_true] at hcs
    subst hcs
    simp only [if_true] at hz
    obtain ⟨l, hI, _⟩ := at_of_row (w := W) (.inr ⟨y, rfl, hl, hm, hz, hcell, hwz⟩)
    refine ⟨_, n, cap, l, rfl, hI, ?_⟩
    have e : x.1 = .slice (lits .u8 (zs.take n)) (lits .u8 (zs.drop n)) := by rw [hx]
    rw [e] at hw
    simp only [DataW.weights, Try.underlying38, List.all_cons, Bool.and_eq_true] at hw
    have h1 := of_decide_eq_true hw.1
    rw [bytes5] at h1
    have h2 : (lits (H := H) .u8 (zs.take n)).length = n := by simp only [lits, List.length_map, List.length_take]; omega
    rw [h2] at h1
    unfold reachBytes at h1
    omega
theorem at_of_rowI {w : World} {a : Option Addr} {len cap : Nat} {zs : List Int} (h : (a = none ∧ len = 0 ∧ cap = 0 ∧ zs = []) ∨ ∃ x, a = some x ∧ len ≤ cap ∧ cap ≤ maxLen ∧ zs.length = cap ∧ (∀ i, i < zs.length → w.cell? (x.add i) = some (.int .i64 (zs.getD i 0))) ∧ ∀ n ∈ zs, (Lit.int .i64 n).wf = true) :
    ∃ l : List Int, InI w a len cap l ∧ l = zs.take len := by
  rcases h with ⟨rfl, rfl, rfl, rfl⟩ | ⟨x, rfl, h1, h2, h3, h4, h5⟩
  · exact ⟨[], ⟨rfl, Nat.le_refl _, fun _ => rfl, AtI.nil w none 0, by intro b hb; cases hb⟩, rfl⟩
  · have hl : (zs.take len).length = len := by rw [List.length_take]; omega
    refine ⟨zs.take len, ⟨hl, h1, (fun e => by cases e), ⟨some x, cap, by rw [hl], ?_⟩, ?_⟩, rfl⟩
    · by_cases h0 : len = 0
      · subst h0
        exact .inl rfl
      · obtain ⟨b, off, rfl, hc⟩ := ints_at h4 (by omega)
        refine .inr ⟨b, off, rfl, fun j hj => ?_⟩
        rw [hl] at hj
        rw [hc j (by omega), List.getD_eq_getElem?_getD, List.getD_eq_getElem?_getD, List.getElem?_take, if_pos hj]
    · intro n hn
      have := h5 n (List.mem_of_mem_take hn)
      have e : -9223372036854775808 ≤ n ∧ n ≤ 9223372036854775807 := by simpa [Lit.wf, IntKind.min, IntKind.max, IntKind.signed, IntKind.bits] using this
      omega
theorem bytes3 : Try.prog.bytesOf 3 = 8 := by kernel_rfl
/-- A row's cell. -/
theorem open_row1I {H : Type} {enc : TypeId × Value → H} {W : World} {v : Value} {fuel : Nat} {x : DataW H × List MemPlace} (hf : DataW.trod enc Try.prog W 0 (fun _ => true) true fuel 37 [v] = some x) (hw : (x.1.weights Try.prog 37).all (· ≤ reachBytes) = true) :
    ∃ a n cap l, v = .slice a n cap ∧ InI W a n cap l ∧ n ≤ 17592186043904 := by
  rcases open_ints Try.underlying37 Try.underlying3 (by kernel_rfl) hf with ⟨hcs, hx⟩ | ⟨y, n, cap, zs, hcs, _, hl, hm, hz, hx, hcell, hwz⟩
  · simp only [List.cons.injEq, and_true] at hcs
    subst hcs
    exact ⟨none, 0, 0, [], rfl, ⟨rfl, Nat.le_refl _, fun _ => rfl, AtI.nil _ _ _, by intro b hb; cases hb⟩, Nat.zero_le _⟩
  · simp only [List.cons.injEq, and_true] at hcs
    subst hcs
    simp only [if_true] at hz
    obtain ⟨l, hI, _⟩ := at_of_rowI (w := W) (.inr ⟨y, rfl, hl, hm, hz, hcell, hwz⟩)
    refine ⟨_, n, cap, l, rfl, hI, ?_⟩
    have e : x.1 = .slice (lits .i64 (zs.take n)) (lits .i64 (zs.drop n)) := by rw [hx]
    rw [e] at hw
    simp only [DataW.weights, Try.underlying37, List.all_cons, Bool.and_eq_true] at hw
    have h1 := of_decide_eq_true hw.1
    rw [bytes3] at h1
    have h2 : (lits (H := H) .i64 (zs.take n)).length = n := by simp only [lits, List.length_map, List.length_take]; omega
    rw [h2] at h1
    unfold reachBytes at h1
    omega
theorem at_of_rowA {w : World} {a : Option Addr} {len cap : Nat} {zs : List Int} (h : (a = none ∧ len = 0 ∧ cap = 0 ∧ zs = []) ∨ ∃ x, a = some x ∧ len ≤ cap ∧ cap ≤ maxLen ∧ zs.length = cap ∧ (∀ i, i < zs.length → w.cell? (x.add i) = some (.int .u32 (zs.getD i 0))) ∧ ∀ n ∈ zs, (Lit.int .u32 n).wf = true) :
    ∃ l : List Int, InA w a len cap l ∧ l = zs.take len := by
  rcases h with ⟨rfl, rfl, rfl, rfl⟩ | ⟨x, rfl, h1, h2, h3, h4, h5⟩
  · exact ⟨[], ⟨rfl, Nat.le_refl _, fun _ => rfl, AtA.nil w none 0, by intro b hb; cases hb⟩, rfl⟩
  · have hl : (zs.take len).length = len := by rw [List.length_take]; omega
    refine ⟨zs.take len, ⟨hl, h1, (fun e => by cases e), ⟨some x, cap, by rw [hl], ?_⟩, ?_⟩, rfl⟩
    · by_cases h0 : len = 0
      · subst h0
        exact .inl rfl
      · obtain ⟨b, off, rfl, hc⟩ := ints_at h4 (by omega)
        refine .inr ⟨b, off, rfl, fun j hj => ?_⟩
        rw [hl] at hj
        rw [hc j (by omega), List.getD_eq_getElem?_getD, List.getD_eq_getElem?_getD, List.getElem?_take, if_pos hj]
    · intro n hn
      have := h5 n (List.mem_of_mem_take hn)
      have e : 0 ≤ n ∧ n ≤ 4294967295 := by simpa [Lit.wf, IntKind.min, IntKind.max, IntKind.signed, IntKind.bits] using this
      omega
theorem bytes23 : Try.prog.bytesOf 44 = 4 := by kernel_rfl
/-- A row's cell. -/
theorem open_row1A {H : Type} {enc : TypeId × Value → H} {W : World} {v : Value} {fuel : Nat} {x : DataW H × List MemPlace} (hf : DataW.trod enc Try.prog W 0 (fun _ => true) true fuel 33 [v] = some x) (hw : (x.1.weights Try.prog 33).all (· ≤ reachBytes) = true) :
    ∃ a n cap l, v = .slice a n cap ∧ InA W a n cap l ∧ n * 4 ≤ 140737488351232 := by
  rcases open_ints Try.underlying33 Try.underlying44 (by kernel_rfl) hf with ⟨hcs, hx⟩ | ⟨y, n, cap, zs, hcs, _, hl, hm, hz, hx, hcell, hwz⟩
  · simp only [List.cons.injEq, and_true] at hcs
    subst hcs
    exact ⟨none, 0, 0, [], rfl, ⟨rfl, Nat.le_refl _, fun _ => rfl, AtA.nil _ _ _, by intro b hb; cases hb⟩, by omega⟩
  · simp only [List.cons.injEq, and_true] at hcs
    subst hcs
    simp only [if_true] at hz
    obtain ⟨l, hI, _⟩ := at_of_rowA (w := W) (.inr ⟨y, rfl, hl, hm, hz, hcell, hwz⟩)
    refine ⟨_, n, cap, l, rfl, hI, ?_⟩
    have e : x.1 = .slice (lits .u32 (zs.take n)) (lits .u32 (zs.drop n)) := by rw [hx]
    rw [e] at hw
    simp only [DataW.weights, Try.underlying33, List.all_cons, Bool.and_eq_true] at hw
    have h1 := of_decide_eq_true hw.1
    rw [bytes23] at h1
    have h2 : (lits (H := H) .u32 (zs.take n)).length = n := by simp only [lits, List.length_map, List.length_take]; omega
    rw [h2] at h1
    unfold reachBytes at h1
    omega
theorem cellsMg : Try.prog.cellsOf 40 = 3 := by kernel_rfl
theorem cellsOp : Try.prog.cellsOf 42 = 7 := by kernel_rfl
theorem cells3 : Try.prog.cellsOf 3 = 1 := by kernel_rfl
theorem cells26 : Try.prog.cellsOf 38 = 1 := by kernel_rfl
theorem cells27 : Try.prog.cellsOf 37 = 1 := by kernel_rfl
theorem cells33 : Try.prog.cellsOf 33 = 1 := by kernel_rfl
/-- An operation, and where its rows lie. -/
structure OpR where
  kind : Int
  va : Option Addr
  vn : Nat
  vc : Nat
  vips : List Int
  fr : Int
  m : Mg
  a : Option Addr
  n : Nat
  c : Nat
  b : Option Addr
  k : Nat
  d : Nat
  now : Int
def OpR.cs (o : OpR) : List Value := [.int .i64 o.kind, .slice o.va o.vn o.vc, .int .i64 o.fr, .int .i64 o.m.kind, .slice o.a o.n o.c, .slice o.b o.k o.d, .int .i64 o.now]
structure OpOk (w : World) (o : OpR) : Prop where
  vips : InA w o.va o.vn o.vc o.vips
  few : o.vn * 4 ≤ 140737488351232
  msg : MIn w o.a o.n o.c o.b o.k o.d o.m
  len : o.n ≤ 17592186043904
  fr : i64c o.fr
theorem i64c_wf {n : Int} (h : (Lit.int .i64 n).wf = true) : i64c n := by
  have e : -9223372036854775808 ≤ n ∧ n ≤ 9223372036854775807 := by simpa [Lit.wf, IntKind.min, IntKind.max, IntKind.signed, IntKind.bits] using h
  unfold i64c
  omega
theorem OpOk.below {w w' : World} {o : OpR} (h : OpOk w o) (hb : Below w.heap.size w w') : OpOk w' o := ⟨h.vips.below hb, h.few, h.msg.below hb, h.len, h.fr⟩
set_option maxRecDepth 100000 in
theorem open_msgc {H : Type} {enc : TypeId × Value → H} {W : World} {n : Nat} {c0 c1 c2 : Value} {d : DataW H} {pl : List MemPlace} (h2 : DataW.trod enc Try.prog W 0 (fun _ => true) true n 40 [c0, c1, c2] = some (d, pl)) (hw : (d.weights Try.prog 40).all (· ≤ reachBytes) = true) :
    ∃ (m : Mg) (a : Option Addr) (n c : Nat) (b : Option Addr) (k e : Nat), [c0, c1, c2] = [.int .i64 m.kind, .slice a n c, .slice b k e] ∧ MIn W a n c b k e m ∧ n ≤ 17592186043904 := by
  obtain ⟨xs, n', _, hx, _, hxl, hg⟩ := DataW.trod_struct Try.underlying40 h2
  match xs, hxl with
  | [y0, y1, y2], _ =>
    have g0 : DataW.trod enc Try.prog W 0 (fun _ => true) true n' 3 [c0] = some y0 := by simpa [Value.cells, cells3] using hg 0 _ rfl
    have g1 : DataW.trod enc Try.prog W 0 (fun _ => true) true n' 37 [c1] = some y1 := by simpa [Value.cells, cells3, cells27] using hg 1 _ rfl
    have g2 : DataW.trod enc Try.prog W 0 (fun _ => true) true n' 38 [c2] = some y2 := by simpa [Value.cells, cells3, cells27, cells26] using hg 2 _ rfl
    obtain ⟨z0, e0, _, w0⟩ := DataW.trod_int Try.underlying3 g0
    simp only [List.cons.injEq, and_true] at e0
    subst e0
    have hd : d = .agg ([y0, y1, y2].map (·.1)) := by
      simp only [Prod.mk.injEq] at hx
      exact hx.1
    rw [hd] at hw
    simp only [DataW.weights, Try.underlying40] at hw
    have hw1 := weights_at (j := 1) (t := 37) (d := y1.1) hw rfl rfl
    have hw2 := weights_at (j := 2) (t := 38) (d := y2.1) hw rfl rfl
    obtain ⟨a, k, c, dl, rfl, hI, hk⟩ := open_row1I g1 hw1
    obtain ⟨a', k', c', dl', rfl, hI', hk'⟩ := open_row1 g2 hw2
    exact ⟨⟨z0, dl, dl'⟩, a, k, c, a', k', c', rfl, ⟨hI, hI'⟩, hk⟩
set_option maxRecDepth 100000 in
theorem open_opc {H : Type} {enc : TypeId × Value → H} {W : World} {n : Nat} {c0 c1 c2 c3 c4 c5 c6 : Value} {d : DataW H} {pl : List MemPlace} (h2 : DataW.trod enc Try.prog W 0 (fun _ => true) true n 42 [c0, c1, c2, c3, c4, c5, c6] = some (d, pl)) (hw : (d.weights Try.prog 42).all (· ≤ reachBytes) = true) : ∃ o : OpR, [c0, c1, c2, c3, c4, c5, c6] = o.cs ∧ OpOk W o := by
  obtain ⟨xs, n', _, hx, _, hxl, hg⟩ := DataW.trod_struct Try.underlying42 h2
  match xs, hxl with
  | [y0, y1, y2, y3, y4], _ =>
    have g0 : DataW.trod enc Try.prog W 0 (fun _ => true) true n' 3 [c0] = some y0 := by simpa [Value.cells, cells3, cells33, cellsMg] using hg 0 _ rfl
    have g1 : DataW.trod enc Try.prog W 0 (fun _ => true) true n' 33 [c1] = some y1 := by simpa [Value.cells, cells3, cells33, cellsMg] using hg 1 _ rfl
    have g2 : DataW.trod enc Try.prog W 0 (fun _ => true) true n' 3 [c2] = some y2 := by simpa [Value.cells, cells3, cells33, cellsMg] using hg 2 _ rfl
    have g3 : DataW.trod enc Try.prog W 0 (fun _ => true) true n' 40 [c3, c4, c5] = some y3 := by simpa [Value.cells, cells3, cells33, cellsMg] using hg 3 _ rfl
    have g4 : DataW.trod enc Try.prog W 0 (fun _ => true) true n' 3 [c6] = some y4 := by simpa [Value.cells, cells3, cells33, cellsMg] using hg 4 _ rfl
    have hd : d = .agg ([y0, y1, y2, y3, y4].map (·.1)) := by
      simp only [Prod.mk.injEq] at hx
      exact hx.1
    rw [hd] at hw
    simp only [DataW.weights, Try.underlying42] at hw
    have hw1 := weights_at (j := 1) (t := 33) (d := y1.1) hw rfl rfl
    have hw3 := weights_at (j := 3) (t := 40) (d := y3.1) hw rfl rfl
    obtain ⟨z0, e0, _, w0⟩ := DataW.trod_int Try.underlying3 g0
    obtain ⟨va, vk, vc, vl, rfl, hV, hvk⟩ := open_row1A g1 hw1
    obtain ⟨z2, e2, _, w2⟩ := DataW.trod_int Try.underlying3 g2
    obtain ⟨m, a, k, c, a', k', c', e3, hM, hk⟩ := open_msgc g3 hw3
    obtain ⟨z4, e4, _, w4⟩ := DataW.trod_int Try.underlying3 g4
    simp only [List.cons.injEq, and_true] at e0 e2 e3 e4
    obtain ⟨e31, e32, e33⟩ := e3
    subst e0 e2 e31 e32 e33 e4
    exact ⟨⟨z0, va, vk, vc, vl, z2, m, a, k, c, a', k', c', z4⟩, rfl, hV, hvk, hM, hk, i64c_wf w2⟩
set_option maxRecDepth 100000 in
theorem open_opv {H : Type} {enc : TypeId × Value → H} {W : World} {r : Reach} {b0 : Nat} {v : Value} {d : DataW H} {ps : List MemPlace}
    (hv : Value.okWide Try.prog W r b0 42 v) (h : DataW.Trod enc Try.prog W 0 (fun _ => true) true 42 v d ps) (hw : (d.weights Try.prog 42).all (· ≤ reachBytes) = true) :
    ∃ o : OpR, v = .agg o.cs.toArray ∧ OpOk W o := by
  obtain ⟨⟨l⟩, rfl, hsz⟩ := okWide_struct Try.underlying42 hv
  rw [cellsOp] at hsz
  obtain ⟨fuel, hf⟩ := h
  match l, hsz with
  | [c0, c1, c2, c3, c4, c5, c6], _ =>
    obtain ⟨o, ho, hO⟩ := open_opc (d := d) (pl := ps) (by simpa [Value.cells] using hf) hw
    refine ⟨o, ?_, hO⟩
    rw [ho]
end Go.Proofs.Ytlmkmbpikhagiaa
