/- From the guide's word for arguments to scripts, rows of numbers and a key's life in memory. No conditions. -/
import Derived.Test.YthoegmcdohppoaaWkP
import Derived.Test.YthoegmcdohppoaaWkC
import Derived.OpenShut
import Derived.SizedLaws
import Derived.Lib.SmallJoins
import Derived.Deep.Slices
import Derived.Deep.Grids
namespace Go.Proofs.Ythoegmcdohppoaa
open Go Go.RowKit Go.ChangeShapes Go.WideShapes Go.Deep
set_option linter.unusedVariables false
set_option linter.unusedSimpArgs false

theorem weights_at {H : Type} {P : Program} : ∀ {ts : List TypeId} {ds : List (DataW H)}, (DataW.weightsEach P ts ds).all (· ≤ reachBytes) = true → ∀ {j : Nat} {t : TypeId} {d : DataW H}, ts[j]? = some t → ds[j]? = some d → (d.weights P t).all (· ≤ reachBytes) = true
  | [], _, _, _, _, _, ht, _ => by simp at ht
  | _ :: _, [], _, _, _, _, _, hd => by simp at hd
  | t0 :: ts, d0 :: ds, h, 0, t, d, ht, hd => by
    simp only [List.getElem?_cons_zero, Option.some.injEq] at ht hd
    subst ht hd
    rw [DataW.weightsEach, List.all_append, Bool.and_eq_true] at h
    exact h.1
  | t0 :: ts, d0 :: ds, h, j + 1, t, d, ht, hd => by
    simp only [List.getElem?_cons_succ] at ht hd
    rw [DataW.weightsEach, List.all_append, Bool.and_eq_true] at h
    exact weights_at h.2 ht hd
theorem weightsAll_at {H : Type} {P : Program} {e : TypeId} : ∀ {ds : List (DataW H)}, (DataW.weightsAll P e ds).all (· ≤ reachBytes) = true → ∀ d ∈ ds, (d.weights P e).all (· ≤ reachBytes) = true
  | [], _, d, hd => by cases hd
  | d0 :: ds, h, d, hd => by
    rw [DataW.weightsAll, List.all_append, Bool.and_eq_true] at h
    rcases List.mem_cons.1 hd with rfl | hd
    · exact h.1
    · exact weightsAll_at h.2 d hd
theorem plain_of {w : World} {a : Addr} {v : Value} (h : w.cell? (a.add 0) = some v) : a = ⟨a.block, a.off, none⟩ := by
  obtain ⟨b, off, spot⟩ := a
  have hspot : spot = none := by simpa [Addr.add] using World.cell?_spot h
  subst hspot
  rfl
theorem at_of_rowI {w : World} {a : Option Addr} {len cap : Nat} {zs : List Int} (h : (a = none ∧ len = 0 ∧ cap = 0 ∧ zs = []) ∨ ∃ x, a = some x ∧ len ≤ cap ∧ cap ≤ maxLen ∧ zs.length = cap ∧ (∀ i, i < zs.length → w.cell? (x.add i) = some (.int .i64 (zs.getD i 0))) ∧ ∀ n ∈ zs, (Lit.int .i64 n).wf = true) :
    ∃ l : List Int, InI w a len cap l ∧ l = zs.take len := by
  rcases h with ⟨rfl, rfl, rfl, rfl⟩ | ⟨x, rfl, h1, h2, h3, h4, h5⟩
  · exact ⟨[], ⟨rfl, Nat.le_refl _, fun _ => rfl, AtI.nil w none 0, by intro b hb; cases hb⟩, rfl⟩
  · have hl : (zs.take len).length = len := by rw [List.length_take]; omega
    refine ⟨zs.take len, ⟨hl, h1, (fun e => by cases e), ⟨some x, cap, by rw [hl], ?_⟩, ?_⟩, rfl⟩
    · by_cases h0 : len = 0
      · subst h0
        exact .inl rfl
      · obtain ⟨b, off, rfl, hc⟩ := ints_at h4 (by omega)
        refine .inr ⟨b, off, rfl, fun j hj => ?_⟩
        rw [hl] at hj
        rw [hc j (by omega), List.getD_eq_getElem?_getD, List.getD_eq_getElem?_getD, List.getElem?_take, if_pos hj]
    · intro n hn
      have := h5 n (List.mem_of_mem_take hn)
      have e : -9223372036854775808 ≤ n ∧ n ≤ 9223372036854775807 := by simpa [Lit.wf, IntKind.min, IntKind.max, IntKind.signed, IntKind.bits] using this
      omega
theorem bytes3 : Try.prog.bytesOf 3 = 8 := by kernel_rfl
theorem open_row1I {H : Type} {enc : TypeId × Value → H} {W : World} {v : Value} {fuel : Nat} {x : DataW H × List MemPlace} (hf : DataW.trod enc Try.prog W 0 (fun _ => true) true fuel 35 [v] = some x) (hw : (x.1.weights Try.prog 35).all (· ≤ reachBytes) = true) :
    ∃ a n cap l, v = .slice a n cap ∧ InI W a n cap l ∧ n ≤ 17592186043904 := by
  rcases open_ints Try.underlying35 Try.underlying3 (by kernel_rfl) hf with ⟨hcs, hx⟩ | ⟨y, n, cap, zs, hcs, _, hl, hm, hz, hx, hcell, hwz⟩
  · simp only [List.cons.injEq, and_true] at hcs
    subst hcs
    exact ⟨none, 0, 0, [], rfl, ⟨rfl, Nat.le_refl _, fun _ => rfl, AtI.nil _ _ _, by intro b hb; cases hb⟩, Nat.zero_le _⟩
  · simp only [List.cons.injEq, and_true] at hcs
    subst hcs
    simp only [if_true] at hz
    obtain ⟨l, hI, _⟩ := at_of_rowI (w := W) (.inr ⟨y, rfl, hl, hm, hz, hcell, hwz⟩)
    refine ⟨_, n, cap, l, rfl, hI, ?_⟩
    have e : x.1 = .slice (lits .i64 (zs.take n)) (lits .i64 (zs.drop n)) := by rw [hx]
    rw [e] at hw
    simp only [DataW.weights, Try.underlying35, List.all_cons, Bool.and_eq_true] at hw
    have h1 := of_decide_eq_true hw.1
    rw [bytes3] at h1
    have h2 : (lits (H := H) .i64 (zs.take n)).length = n := by simp only [lits, List.length_map, List.length_take]; omega
    rw [h2] at h1
    unfold reachBytes at h1
    omega
theorem getD_range {α : Type} (f : Nat → α) (d : α) {n j : Nat} (hj : j < n) : ((List.range n).map f).getD j d = f j := by
  rw [List.getD_eq_getElem?_getD, List.getElem?_map, List.getElem?_range hj]
  rfl
theorem open_introw {H : Type} {enc : TypeId × Value → H} {W : World} {v : Value} {d : DataW H} {p : List MemPlace} {r : Reach} {b0 : Nat}
    (hv : Value.okWide Try.prog W r b0 35 v) (h : DataW.Trod enc Try.prog W 0 (fun _ => true) true 35 v d p) (hw : (d.weights Try.prog 35).all (· ≤ reachBytes) = true) :
    ∃ a n cap l, v = .slice a n cap ∧ InI W a n cap l ∧ n ≤ 17592186043904 := by
  obtain ⟨a, n, cap, rfl⟩ := okWide_slice Try.underlying35 hv
  obtain ⟨fuel, hf⟩ := h
  exact open_row1I (x := (d, p)) (by simpa [Value.cells] using hf) hw
theorem cellsI : Try.prog.cellsOf 3 = 1 := by kernel_rfl
theorem cellsU : Try.prog.cellsOf 35 = 1 := by kernel_rfl
theorem cellsB : Try.prog.cellsOf 4 = 1 := by kernel_rfl
theorem cellsO : Try.prog.cellsOf 37 = 3 := by kernel_rfl
theorem bytesO : Try.prog.bytesOf 37 = 40 := by kernel_rfl
theorem cellsC : Try.prog.cellsOf 54 = 4 := by kernel_rfl
/-- What an operation that came in keeps to. -/
def OpIn (W : World) (p : Addr) (o : OpW) : Prop :=
  (∀ i, i < 3 → W.cell? (p.add i) = (o.cs)[i]?) ∧ InI W o.ao o.n o.cap o.ks ∧ o.n ≤ 17592186043904 ∧ I64 o.time
set_option maxRecDepth 100000 in
theorem open_op {H : Type} {enc : TypeId × Value → H} {W : World} {p : Addr} {cs : List Value} {n : Nat} {d : DataW H} {pl : List MemPlace} (h1 : W.cells? 0 p 3 = some cs) (h2 : DataW.trod enc Try.prog W 0 (fun _ => true) true n 37 cs = some (d, pl)) (hw : (d.weights Try.prog 37).all (· ≤ reachBytes) = true) : ∃ o, OpIn W p o := by
  obtain ⟨_, hlen, hc⟩ := World.cells?_some h1
  obtain ⟨xs, n', _, hx, _, hxl, hg⟩ := DataW.trod_struct Try.underlying37 h2
  match cs, hlen with
  | [c0, c1, c2], _ =>
    match xs, hxl with
    | [y0, y1, y2], _ =>
      have g0 : DataW.trod enc Try.prog W 0 (fun _ => true) true n' 3 [c0] = some y0 := by simpa [Value.cells, cellsI, cellsU] using hg 0 _ rfl
      have g1 : DataW.trod enc Try.prog W 0 (fun _ => true) true n' 3 [c1] = some y1 := by simpa [Value.cells, cellsI, cellsU] using hg 1 _ rfl
      have g2 : DataW.trod enc Try.prog W 0 (fun _ => true) true n' 35 [c2] = some y2 := by simpa [Value.cells, cellsI, cellsU] using hg 2 _ rfl
      have hd : d = .agg ([y0, y1, y2].map (·.1)) := by
        simp only [Prod.mk.injEq] at hx
        exact hx.1
      rw [hd] at hw
      simp only [DataW.weights, Try.underlying37] at hw
      have hw5 := weights_at (j := 2) (t := 35) (d := y2.1) hw rfl rfl
      obtain ⟨z0, e0, _, w0⟩ := DataW.trod_int Try.underlying3 g0
      obtain ⟨z1, e1, _, w1⟩ := DataW.trod_int Try.underlying3 g1
      obtain ⟨a, k, c, l, e5, hI, hk⟩ := open_row1I g2 hw5
      simp only [List.cons.injEq, and_true] at e0 e1
      subst e0 e1 e5
      refine ⟨⟨z0, z1, a, k, c, l⟩, fun i hi => ?_, hI, hk, i64_of w1⟩
      rw [hc i (by simpa using hi)]
      rfl
/-- A script. -/
theorem open_script1 {H : Type} {enc : TypeId × Value → H} {W : World} {v : Value} {fuel : Nat} {x : DataW H × List MemPlace} (hf : DataW.trod enc Try.prog W 0 (fun _ => true) true fuel 22 [v] = some x) (hw : (x.1.weights Try.prog 22).all (· ≤ reachBytes) = true) :
    ∃ a n cap os, v = .slice a n cap ∧ SWIn W a n os ∧ n ≤ 1152921504606846976 ∧ ∀ j, j < n → (os.getD j opW).n ≤ 1152921504606846976 := by
  rcases open_slice Try.underlying22 hf with ⟨hcs, hx⟩ | ⟨a, len, cap, m, n, D, Pl, hcs, _, hl, hm, hmm, hx, hi⟩
  · simp only [List.cons.injEq, and_true] at hcs
    subst hcs
    exact ⟨none, 0, 0, [], rfl, ⟨rfl, .inl rfl, fun j hj => absurd hj (by omega), fun j hj => absurd hj (by omega)⟩, Nat.zero_le _, fun j hj => absurd hj (by omega)⟩
  · simp only [List.cons.injEq, and_true] at hcs
    subst hcs
    simp only [if_true] at hmm
    subst hmm
    rw [hx] at hw
    simp only [DataW.weights, Try.underlying22, List.all_cons, List.all_append, Bool.and_eq_true] at hw
    have h1 := of_decide_eq_true hw.1
    rw [bytesO, List.length_map, List.length_range] at h1
    have hD := weightsAll_at hw.2.1
    rw [cellsO] at hi
    obtain ⟨L, hL⟩ := choose_lt (n := len) (α := OpW) (p := fun i o => OpIn W (a.add (i * 3)) o) (fun i hil => by
      obtain ⟨cs', k1, k2⟩ := hi i (by omega)
      exact open_op k1 k2 (hD (D i) (List.mem_map.2 ⟨i, List.mem_range.2 hil, rfl⟩)))
    have hg : ∀ j, j < len → ((List.range len).map L).getD j opW = L j := fun j hj => getD_range L opW hj
    refine ⟨some a, len, m, (List.range len).map L, rfl, ⟨by simp, ?_, fun j hj => by rw [hg j hj]; exact (hL j hj).2.1, fun j hj => by rw [hg j hj]; exact (hL j hj).2.2.2⟩, ?_, fun j hj => by
      rw [hg j hj]
      have := (hL j hj).2.2.1
      omega⟩
    · rcases Nat.eq_zero_or_pos len with h0 | h0
      · exact .inl h0
      · have hz := (hL 0 h0).1 0 (by omega)
        have ha0 : a.add (0 * 3) = a := by simp [Addr.add]
        rw [ha0] at hz
        have hz2 : W.cell? (a.add 0) = some (.int .i64 (L 0).kind) := hz
        have ha := plain_of hz2
        refine .inr ⟨a.block, a.off, by rw [← ha], fun j hj i hi2 => ?_⟩
        have hc := (hL j hj).1 i hi2
        rw [ha, Go.WideShapes.add_plain, Go.WideShapes.add_plain] at hc
        rw [hg j hj]
        exact hc
    · unfold reachBytes at h1
      omega
theorem open_script {H : Type} {enc : TypeId × Value → H} {W : World} {v : Value} {d : DataW H} {p : List MemPlace} {r : Reach} {b0 : Nat}
    (hv : Value.okWide Try.prog W r b0 22 v) (h : DataW.Trod enc Try.prog W 0 (fun _ => true) true 22 v d p) (hw : (d.weights Try.prog 22).all (· ≤ reachBytes) = true) :
    ∃ a n cap os, v = .slice a n cap ∧ SWIn W a n os ∧ n ≤ 1152921504606846976 ∧ ∀ j, j < n → (os.getD j opW).n ≤ 1152921504606846976 := by
  obtain ⟨a, n, cap, rfl⟩ := okWide_slice Try.underlying22 hv
  obtain ⟨fuel, hf⟩ := h
  exact open_script1 (x := (d, p)) (by simpa [Value.cells] using hf) hw
set_option maxRecDepth 100000 in
theorem open_canc {H : Type} {enc : TypeId × Value → H} {W : World} {r : Reach} {b0 : Nat} {v : Value} {d : DataW H} {ps : List MemPlace}
    (hv : Value.okWide Try.prog W r b0 54 v) (h : DataW.Trod enc Try.prog W 0 (fun _ => true) true 54 v d ps) :
    ∃ (x y z : Int) (b : Bool), v = .agg #[.int .i64 x, .int .i64 y, .int .i64 z, .bool b] ∧ I64 x ∧ I64 y ∧ I64 z := by
  obtain ⟨⟨l⟩, rfl, hsz⟩ := okWide_struct Try.underlying54 hv
  rw [cellsC] at hsz
  obtain ⟨fuel, hf⟩ := h
  obtain ⟨xs, n, _, hx, _, hlen, hg⟩ := DataW.trod_struct Try.underlying54 hf
  match l, hsz with
  | [c0, c1, c2, c3], _ =>
    match xs, hlen with
    | [y0, y1, y2, y3], _ =>
      have g0 : DataW.trod enc Try.prog W 0 (fun _ => true) true n 3 [c0] = some y0 := by simpa [Value.cells, cellsI, cellsB] using hg 0 _ rfl
      have g1 : DataW.trod enc Try.prog W 0 (fun _ => true) true n 3 [c1] = some y1 := by simpa [Value.cells, cellsI, cellsB] using hg 1 _ rfl
      have g2 : DataW.trod enc Try.prog W 0 (fun _ => true) true n 3 [c2] = some y2 := by simpa [Value.cells, cellsI, cellsB] using hg 2 _ rfl
      have g3 : DataW.trod enc Try.prog W 0 (fun _ => true) true n 4 [c3] = some y3 := by simpa [Value.cells, cellsI, cellsB] using hg 3 _ rfl
      obtain ⟨z0, e0, _, w0⟩ := DataW.trod_int Try.underlying3 g0
      obtain ⟨z1, e1, _, w1⟩ := DataW.trod_int Try.underlying3 g1
      obtain ⟨z2, e2, _, w2⟩ := DataW.trod_int Try.underlying3 g2
      obtain ⟨z3, e3, _⟩ := DataW.trod_bool Try.underlying4 g3
      simp only [List.cons.injEq, and_true] at e0 e1 e2 e3
      subst e0 e1 e2 e3
      exact ⟨z0, z1, z2, z3, rfl, i64_of w0, i64_of w1, i64_of w2⟩
/-- WheelGone over its parts. -/
abbrev yoC (x y z : Int) (b : Bool) : Obj := .cells #[.int .i64 x, .int .i64 y, .int .i64 z, .bool b] 54
theorem yoC_at (w : World) (x y z : Int) (b : Bool) : ∀ j, j < 4 → (w.alloc (yoC x y z b)).cell? ⟨w.heap.size, j, none⟩ = #[Value.int .i64 x, .int .i64 y, .int .i64 z, .bool b][j]? := fun j _ =>
  cell_of_row _ _ j _ _ _ (heap_alloc_new w (yoC x y z b))
set_option maxRecDepth 100000 in
theorem wheelGone_t (x y z : Int) (b : Bool) (w : World) (hx : I64 x) (hy : I64 y) (hz : I64 z) :
    Calls Try.prog 6 #[.agg #[.int .i64 x, .int .i64 y, .int .i64 z, .bool b]] w fun e w' => e = .returned (.bool true) ∧ Below w.heap.size w w' := by
  have hA := yoC_at w x y z b
  obtain ⟨W, hW⟩ : ∃ W, W = w.alloc (yoC x y z b) := ⟨_, rfl⟩
  rw [← hW] at hA
  have hb : Below w.heap.size w W := by rw [hW]; exact bl_al (Below.refl _ _) _
  have CO := Lib.hid (cancels_t x y z b W hx hy hz)
  obtain ⟨q, hq⟩ : ∃ q, q = w.heap.size := ⟨_, rfl⟩
  rw [← hq] at hA
  have x0 := hA 0 (by omega)
  have x1 := hA 1 (by omega)
  have x2 := hA 2 (by omega)
  have x3 := hA 3 (by omega)
  simp only [List.getElem?_toArray, List.getElem?_cons_zero, List.getElem?_cons_succ] at x0 x1 x2 x3
  have HB := Lib.hid hb
  have HW := Lib.hid (And.intro hW hq)
  clear hb hW hq hx hy hz hA
  go_enter Try.func6, Try.ntmps6
  go_upto_region 1 with fail
  rw [← HW.out.1, ← HW.out.2]
  go_wp2_with fail
  refine CO.out.mono ?_
  rintro e w1 ⟨rfl, hb⟩
  have HB1 := Lib.hid (bl_tr HB.out hb)
  clear hb CO
  go_wp2
  go_ret
  exact ⟨rfl, HB1.out⟩
end Go.Proofs.Ythoegmcdohppoaa
