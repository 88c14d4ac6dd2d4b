/- From the guide's word for arguments to ballots, commands, logs and rows in memory. No conditions. -/
import Derived.Test.YtnhnpfhfcbmmlaaVcA
import Derived.OpenShut
import Derived.SizedLaws
import Derived.Lib.SmallJoins
import Derived.Deep.Slices
import Derived.Deep.Grids
namespace Go.Proofs.Ytnhnpfhfcbmmlaa
open Go Go.RowKit Go.ChangeShapes Go.WideShapes Go.Deep
set_option linter.unusedVariables false
set_option linter.unusedSimpArgs false

theorem weights_at {H : Type} {P : Program} : ∀ {ts : List TypeId} {ds : List (DataW H)}, (DataW.weightsEach P ts ds).all (· ≤ reachBytes) = true → ∀ {j : Nat} {t : TypeId} {d : DataW H}, ts[j]? = some t → ds[j]? = some d → (d.weights P t).all (· ≤ reachBytes) = true
  | [], _, _, _, _, _, ht, _ => by simp at ht
  | _ :: _, [], _, _, _, _, _, hd => by simp at hd
  | t0 :: ts, d0 :: ds, h, 0, t, d, ht, hd => by
    simp only [List.getElem?_cons_zero, Option.some.injEq] at ht hd
    subst ht hd
    rw [DataW.weightsEach, List.all_append, Bool.and_eq_true] at h
    exact h.1
  | t0 :: ts, d0 :: ds, h, j + 1, t, d, ht, hd => by
    simp only [List.getElem?_cons_succ] at ht hd
    rw [DataW.weightsEach, List.all_append, Bool.and_eq_true] at h
    exact weights_at h.2 ht hd
theorem weightsAll_at {H : Type} {P : Program} {e : TypeId} : ∀ {ds : List (DataW H)}, (DataW.weightsAll P e ds).all (· ≤ reachBytes) = true → ∀ d ∈ ds, (d.weights P e).all (· ≤ reachBytes) = true
  | [], _, d, hd => by cases hd
  | d0 :: ds, h, d, hd => by
    rw [DataW.weightsAll, List.all_append, Bool.and_eq_true] at h
    rcases List.mem_cons.1 hd with rfl | hd
    · exact h.1
    · exact weightsAll_at h.2 d hd
theorem plain_of {w : World} {a : Addr} {v : Value} (h : w.cell? (a.add 0) = some v) : a = ⟨a.block, a.off, none⟩ := by
  obtain ⟨b, off, spot⟩ := a
  have hspot : spot = none := by simpa [Addr.add] using World.cell?_spot h
  subst hspot
  rfl
theorem u32_of {n : Int} (h : (Lit.int .u32 n).wf = true) : 0 ≤ n ∧ n < 4294967296 := by
  have e : 0 ≤ n ∧ n ≤ 4294967295 := by simpa [Lit.wf, IntKind.min, IntKind.max, IntKind.signed, IntKind.bits] using h
  omega
theorem i64c_of {n : Int} (h : (Lit.int .i64 n).wf = true) : i64c n := by
  have e : -9223372036854775808 ≤ n ∧ n ≤ 9223372036854775807 := by simpa [Lit.wf, IntKind.min, IntKind.max, IntKind.signed, IntKind.bits] using h
  exact e
theorem bytes5 : Try.prog.bytesOf 5 = 1 := by kernel_rfl
theorem at_of_row {w : World} {a : Option Addr} {len cap : Nat} {zs : List Int} (h : (a = none ∧ len = 0 ∧ cap = 0 ∧ zs = []) ∨ ∃ x, a = some x ∧ len ≤ cap ∧ cap ≤ maxLen ∧ zs.length = cap ∧ (∀ i, i < zs.length → w.cell? (x.add i) = some (.int .u8 (zs.getD i 0))) ∧ ∀ n ∈ zs, (Lit.int .u8 n).wf = true) :
    ∃ l : List Int, In w a len cap l ∧ l = zs.take len := by
  rcases h with ⟨rfl, rfl, rfl, rfl⟩ | ⟨x, rfl, h1, h2, h3, h4, h5⟩
  · exact ⟨[], ⟨rfl, Nat.le_refl _, fun _ => rfl, At.nil w none 0, by intro b hb; cases hb⟩, rfl⟩
  · have hl : (zs.take len).length = len := by rw [List.length_take]; omega
    refine ⟨zs.take len, ⟨hl, h1, (fun e => by cases e), ⟨some x, cap, by rw [hl], ?_⟩, ?_⟩, rfl⟩
    · by_cases h0 : len = 0
      · subst h0
        exact .inl rfl
      · obtain ⟨b, off, rfl, hc⟩ := ints_at h4 (by omega)
        refine .inr ⟨b, off, rfl, fun j hj => ?_⟩
        rw [hl] at hj
        rw [hc j (by omega), List.getD_eq_getElem?_getD, List.getD_eq_getElem?_getD, List.getElem?_take, if_pos hj]
    · intro n hn
      have := h5 n (List.mem_of_mem_take hn)
      have e : 0 ≤ n ∧ n ≤ 255 := by simpa [Lit.wf, IntKind.min, IntKind.max, IntKind.signed, IntKind.bits] using this
      omega
theorem open_row1 {H : Type} {enc : TypeId × Value → H} {W : World} {v : Value} {fuel : Nat} {x : DataW H × List MemPlace} (hf : DataW.trod enc Try.prog W 0 (fun _ => true) true fuel 26 [v] = some x) (hw : (x.1.weights Try.prog 26).all (· ≤ reachBytes) = true) :
    ∃ a n cap l, v = .slice a n cap ∧ In W a n cap l ∧ n ≤ 140737488351232 := by
  rcases open_ints Try.underlying26 Try.underlying5 (by kernel_rfl) hf with ⟨hcs, hx⟩ | ⟨y, n, cap, zs, hcs, _, hl, hm, hz, hx, hcell, hwz⟩
  · simp only [List.cons.injEq, and_true] at hcs
    subst hcs
    exact ⟨none, 0, 0, [], rfl, ⟨rfl, Nat.le_refl _, fun _ => rfl, At.nil _ _ _, by intro b hb; cases hb⟩, Nat.zero_le _⟩
  · simp only [List.cons.injEq, and_true] at hcs
    subst hcs
    simp only [if_true] at hz
    obtain ⟨l, hI, _⟩ := at_of_row (w := W) (.inr ⟨y, rfl, hl, hm, hz, hcell, hwz⟩)
    refine ⟨_, n, cap, l, rfl, hI, ?_⟩
    have e : x.1 = .slice (lits .u8 (zs.take n)) (lits .u8 (zs.drop n)) := by rw [hx]
    rw [e] at hw
    simp only [DataW.weights, Try.underlying26, List.all_cons, Bool.and_eq_true] at hw
    have h1 := of_decide_eq_true hw.1
    rw [bytes5] at h1
    have h2 : (lits (H := H) .u8 (zs.take n)).length = n := by simp only [lits, List.length_map, List.length_take]; omega
    rw [h2] at h1
    unfold reachBytes at h1
    omega
theorem getD_range {α : Type} (f : Nat → α) (d : α) {n j : Nat} (hj : j < n) : ((List.range n).map f).getD j d = f j := by
  rw [List.getD_eq_getElem?_getD, List.getElem?_map, List.getElem?_range hj]
  rfl
set_option maxRecDepth 100000 in
theorem open_byts {H : Type} {enc : TypeId × Value → H} {W : World} {v : Value} {d : DataW H} {p : List MemPlace} {r : Reach} {b0 : Nat}
    (hv : Value.okWide Try.prog W r b0 26 v) (h : DataW.Trod enc Try.prog W 0 (fun _ => true) true 26 v d p) (hw : (d.weights Try.prog 26).all (· ≤ reachBytes) = true) :
    ∃ a n cap l, v = .slice a n cap ∧ In W a n cap l ∧ n ≤ 140737488351232 := by
  obtain ⟨a, n, cap, rfl⟩ := okWide_slice Try.underlying26 hv
  obtain ⟨fuel, hf⟩ := h
  exact open_row1 (x := (d, p)) (by simpa [Value.cells] using hf) hw
theorem cells3 : Try.prog.cellsOf 3 = 1 := by kernel_rfl
theorem cells23 : Try.prog.cellsOf 37 = 1 := by kernel_rfl
theorem cellsW : Try.prog.cellsOf 38 = 1 := by kernel_rfl
theorem cellsZ : Try.prog.cellsOf 74 = 3 := by kernel_rfl
theorem bytesZ : Try.prog.bytesOf 74 = 24 := by kernel_rfl
theorem cellsBl : Try.prog.cellsOf 61 = 2 := by kernel_rfl
theorem cellsSv : Try.prog.cellsOf 40 = 4 := by kernel_rfl
theorem cellsCm : Try.prog.cellsOf 42 = 12 := by kernel_rfl
theorem cellsBo : Try.prog.cellsOf 4 = 1 := by kernel_rfl
theorem bytesCm : Try.prog.bytesOf 42 = 104 := by kernel_rfl
/-- An end that came in. -/
def EnIn (W : World) (p : Addr) (e : En) : Prop := (∀ i, i < 3 → W.cell? (p.add i) = (e.cs)[i]?) ∧ TyEn e
set_option maxRecDepth 100000 in
theorem open_end {H : Type} {enc : TypeId × Value → H} {W : World} {p : Addr} {cs : List Value} {n : Nat} {d : DataW H} {pl : List MemPlace} (h1 : W.cells? 0 p 3 = some cs) (h2 : DataW.trod enc Try.prog W 0 (fun _ => true) true n 74 cs = some (d, pl)) : ∃ e, EnIn W p e := by
  obtain ⟨_, hlen, hc⟩ := World.cells?_some h1
  obtain ⟨xs, n', _, hx, _, hxl, hg⟩ := DataW.trod_struct Try.underlying74 h2
  match cs, hlen with
  | [c0, c1, c2], _ =>
    match xs, hxl with
    | [y0, y1, y2], _ =>
      have g0 : DataW.trod enc Try.prog W 0 (fun _ => true) true n' 37 [c0] = some y0 := by simpa [Value.cells, cells3, cells23] using hg 0 _ rfl
      have g1 : DataW.trod enc Try.prog W 0 (fun _ => true) true n' 3 [c1] = some y1 := by simpa [Value.cells, cells3, cells23] using hg 1 _ rfl
      have g2 : DataW.trod enc Try.prog W 0 (fun _ => true) true n' 3 [c2] = some y2 := by simpa [Value.cells, cells3, cells23] using hg 2 _ rfl
      obtain ⟨z0, e0, _, w0⟩ := DataW.trod_int Try.underlying37 g0
      obtain ⟨z1, e1, _, w1⟩ := DataW.trod_int Try.underlying3 g1
      obtain ⟨z2, e2, _, w2⟩ := DataW.trod_int Try.underlying3 g2
      simp only [List.cons.injEq, and_true] at e0 e1 e2
      subst e0 e1 e2
      refine ⟨⟨z0, z1, z2⟩, fun i hi => ?_, u32_of w0, i64_of w1, i64_of w2⟩
      rw [hc i (by simpa using hi)]
      rfl
/-- Ends' cell. -/
theorem open_ends1 {H : Type} {enc : TypeId × Value → H} {W : World} {v : Value} {fuel : Nat} {x : DataW H × List MemPlace} (hf : DataW.trod enc Try.prog W 0 (fun _ => true) true fuel 38 [v] = some x) (hw : (x.1.weights Try.prog 38).all (· ≤ reachBytes) = true) :
    ∃ a n cap es, v = .slice a n cap ∧ InE W a n cap es ∧ n ≤ 1152921504606846976 := by
  rcases open_slice Try.underlying38 hf with ⟨hcs, hx⟩ | ⟨a, len, cap, m, n, D, Pl, hcs, _, hl, hm, hmm, hx, hi⟩
  · simp only [List.cons.injEq, and_true] at hcs
    subst hcs
    exact ⟨none, 0, 0, [], rfl, ⟨rfl, Nat.le_refl _, fun _ => rfl, .inl rfl, fun e he => by cases he⟩, Nat.zero_le _⟩
  · simp only [List.cons.injEq, and_true] at hcs
    subst hcs
    simp only [if_true] at hmm
    subst hmm
    rw [hx] at hw
    simp only [DataW.weights, Try.underlying38, List.all_cons, List.all_append, Bool.and_eq_true] at hw
    have h1 := of_decide_eq_true hw.1
    rw [bytesZ, List.length_map, List.length_range] at h1
    rw [cellsZ] at hi
    obtain ⟨L, hL⟩ := choose_lt (n := len) (α := En) (p := fun i e => EnIn W (a.add (i * 3)) e) (fun i hil => by
      obtain ⟨cs', k1, k2⟩ := hi i (by omega)
      exact open_end k1 k2)
    have hg : ∀ j, j < len → ((List.range len).map L).getD j en0 = L j := fun j hj => getD_range L en0 hj
    refine ⟨some a, len, m, (List.range len).map L, rfl, ⟨by simp, hl, (fun e => by cases e), ?_, fun e he => ?_⟩, ?_⟩
    · rcases Nat.eq_zero_or_pos len with h0 | h0
      · subst h0
        exact .inl rfl
      · have hz := (hL 0 h0).1 0 (by omega)
        have ha0 : a.add (0 * 3) = a := by simp [Addr.add]
        rw [ha0] at hz
        have hz2 : W.cell? (a.add 0) = some (.int .u32 (L 0).dip) := hz
        have ha := plain_of hz2
        refine .inr ⟨a.block, a.off, by rw [← ha], fun t u hu => ?_⟩
        have htl : t < len * 3 := by
          have := (List.getElem?_eq_some_iff.1 hu).1
          rw [cellsE_len] at this
          simpa using this
        have hc := (hL (t / 3) (by omega)).1 (t % 3) (by omega)
        have hca := cellsE_at (es := (List.range len).map L) (j := t / 3) (i := t % 3) (by simp; omega) (by omega)
        rw [show t / 3 * 3 + t % 3 = t by omega, hg _ (by omega), hu] at hca
        rw [ha, Go.WideShapes.add_plain, Go.WideShapes.add_plain, ← hca] at hc
        rw [← hc]
        congr 2
        omega
    · obtain ⟨i, hil, rfl⟩ := List.mem_map.1 he
      exact (hL i (List.mem_range.1 hil)).2
    · unfold reachBytes at h1
      omega
set_option maxRecDepth 100000 in
theorem open_bl {H : Type} {enc : TypeId × Value → H} {W : World} {r : Reach} {b0 : Nat} {v : Value} {d : DataW H} {ps : List MemPlace}
    (hv : Value.okWide Try.prog W r b0 61 v) (h : DataW.Trod enc Try.prog W 0 (fun _ => true) true 61 v d ps) :
    ∃ b : Bl, v = b.val ∧ TyB b := by
  obtain ⟨⟨l⟩, rfl, hsz⟩ := okWide_struct Try.underlying61 hv
  rw [cellsBl] at hsz
  obtain ⟨fuel, hf⟩ := h
  obtain ⟨xs, n, _, hx, _, hlen, hg⟩ := DataW.trod_struct Try.underlying61 hf
  match l, hsz with
  | [c0, c1], _ =>
    match xs, hlen with
    | [y0, y1], _ =>
      have g0 : DataW.trod enc Try.prog W 0 (fun _ => true) true n 3 [c0] = some y0 := by simpa [Value.cells, cells3] using hg 0 _ rfl
      have g1 : DataW.trod enc Try.prog W 0 (fun _ => true) true n 3 [c1] = some y1 := by simpa [Value.cells, cells3] using hg 1 _ rfl
      obtain ⟨z0, e0, _, w0⟩ := DataW.trod_int Try.underlying3 g0
      obtain ⟨z1, e1, _, w1⟩ := DataW.trod_int Try.underlying3 g1
      simp only [List.cons.injEq, and_true] at e0 e1
      subst e0 e1
      exact ⟨⟨z0, z1⟩, rfl, i64c_of w0, i64c_of w1⟩
/-- A service's cells. -/
theorem open_svc {H : Type} {enc : TypeId × Value → H} {W : World} {n : Nat} {c5 c6 c7 c8 : Value} {d : DataW H} {pl : List MemPlace} (h2 : DataW.trod enc Try.prog W 0 (fun _ => true) true n 40 [c5, c6, c7, c8] = some (d, pl)) (hw : (d.weights Try.prog 40).all (· ≤ reachBytes) = true) :
    ∃ (vip proto port : Int) (a : Option Addr) (k c : Nat) (es : List En), c5 = .int .u32 vip ∧ c6 = .int .i64 proto ∧ c7 = .int .i64 port ∧ c8 = .slice a k c ∧ InE W a k c es ∧ k ≤ 1152921504606846976 ∧ u32c vip ∧ i64c proto ∧ i64c port := by
  obtain ⟨xs, n', _, hx, _, hxl, hg⟩ := DataW.trod_struct Try.underlying40 h2
  match xs, hxl with
  | [y0, y1, y2, y3], _ =>
    have g0 : DataW.trod enc Try.prog W 0 (fun _ => true) true n' 37 [c5] = some y0 := by simpa [Value.cells, cells3, cells23, cellsW] using hg 0 _ rfl
    have g1 : DataW.trod enc Try.prog W 0 (fun _ => true) true n' 3 [c6] = some y1 := by simpa [Value.cells, cells3, cells23, cellsW] using hg 1 _ rfl
    have g2 : DataW.trod enc Try.prog W 0 (fun _ => true) true n' 3 [c7] = some y2 := by simpa [Value.cells, cells3, cells23, cellsW] using hg 2 _ rfl
    have g3 : DataW.trod enc Try.prog W 0 (fun _ => true) true n' 38 [c8] = some y3 := by simpa [Value.cells, cells3, cells23, cellsW] using hg 3 _ rfl
    have hd : d = .agg ([y0, y1, y2, y3].map (·.1)) := by
      simp only [Prod.mk.injEq] at hx
      exact hx.1
    rw [hd] at hw
    simp only [DataW.weights, Try.underlying40] at hw
    have hw3 := weights_at (j := 3) (t := 38) (d := y3.1) hw rfl rfl
    obtain ⟨z0, e0, _, w0⟩ := DataW.trod_int Try.underlying37 g0
    obtain ⟨z1, e1, _, w1⟩ := DataW.trod_int Try.underlying3 g1
    obtain ⟨z2, e2, _, w2⟩ := DataW.trod_int Try.underlying3 g2
    obtain ⟨a, k, c, es, e3, hI, hk⟩ := open_ends1 g3 hw3
    simp only [List.cons.injEq, and_true] at e0 e1 e2
    subst e0 e1 e2 e3
    exact ⟨z0, z1, z2, a, k, c, es, rfl, rfl, rfl, rfl, hI, hk, u32_of w0, i64c_of w1, i64c_of w2⟩
/-- A command that came in, and its ends' row. -/
def CmIn (W : World) (x : Cm) (v : Value) : Prop := (∃ a k c, v = .slice a k c ∧ InE W a k c x.es) ∧ TyC x
set_option maxRecDepth 100000 in
theorem open_cmc {H : Type} {enc : TypeId × Value → H} {W : World} {n : Nat} {c0 c1 c2 c3 c4 c5 c6 c7 c8 c9 c10 c11 : Value} {d : DataW H} {pl : List MemPlace} (h2 : DataW.trod enc Try.prog W 0 (fun _ => true) true n 42 [c0, c1, c2, c3, c4, c5, c6, c7, c8, c9, c10, c11] = some (d, pl)) (hw : (d.weights Try.prog 42).all (· ≤ reachBytes) = true) :
    ∃ xv : Cm × Value, [c0, c1, c2, c3, c4, c5, c6, c7, c8, c9, c10, c11] = xv.1.cs xv.2 ∧ CmIn W xv.1 xv.2 := by
  obtain ⟨xs, n', _, hx, _, hxl, hg⟩ := DataW.trod_struct Try.underlying42 h2
  match xs, hxl with
  | [y0, y1, y2, y3, y4, y5, y6, y7, y8], _ =>
    have g0 : DataW.trod enc Try.prog W 0 (fun _ => true) true n' 3 [c0] = some y0 := by simpa [Value.cells, cells3, cells23, cellsSv, cellsBo] using hg 0 _ rfl
    have g1 : DataW.trod enc Try.prog W 0 (fun _ => true) true n' 3 [c1] = some y1 := by simpa [Value.cells, cells3, cells23, cellsSv, cellsBo] using hg 1 _ rfl
    have g2 : DataW.trod enc Try.prog W 0 (fun _ => true) true n' 3 [c2] = some y2 := by simpa [Value.cells, cells3, cells23, cellsSv, cellsBo] using hg 2 _ rfl
    have g3 : DataW.trod enc Try.prog W 0 (fun _ => true) true n' 3 [c3] = some y3 := by simpa [Value.cells, cells3, cells23, cellsSv, cellsBo] using hg 3 _ rfl
    have g4 : DataW.trod enc Try.prog W 0 (fun _ => true) true n' 3 [c4] = some y4 := by simpa [Value.cells, cells3, cells23, cellsSv, cellsBo] using hg 4 _ rfl
    have g5 : DataW.trod enc Try.prog W 0 (fun _ => true) true n' 40 [c5, c6, c7, c8] = some y5 := by simpa [Value.cells, cells3, cells23, cellsSv, cellsBo] using hg 5 _ rfl
    have g6 : DataW.trod enc Try.prog W 0 (fun _ => true) true n' 37 [c9] = some y6 := by simpa [Value.cells, cells3, cells23, cellsSv, cellsBo] using hg 6 _ rfl
    have g7 : DataW.trod enc Try.prog W 0 (fun _ => true) true n' 37 [c10] = some y7 := by simpa [Value.cells, cells3, cells23, cellsSv, cellsBo] using hg 7 _ rfl
    have g8 : DataW.trod enc Try.prog W 0 (fun _ => true) true n' 4 [c11] = some y8 := by simpa [Value.cells, cells3, cells23, cellsSv, cellsBo] using hg 8 _ rfl
    have hd : d = .agg ([y0, y1, y2, y3, y4, y5, y6, y7, y8].map (·.1)) := by
      simp only [Prod.mk.injEq] at hx
      exact hx.1
    rw [hd] at hw
    simp only [DataW.weights, Try.underlying42] at hw
    have hw5 := weights_at (j := 5) (t := 40) (d := y5.1) hw rfl rfl
    obtain ⟨z0, e0, _, w0⟩ := DataW.trod_int Try.underlying3 g0
    obtain ⟨z1, e1, _, w1⟩ := DataW.trod_int Try.underlying3 g1
    obtain ⟨z2, e2, _, w2⟩ := DataW.trod_int Try.underlying3 g2
    obtain ⟨z3, e3, _, w3⟩ := DataW.trod_int Try.underlying3 g3
    obtain ⟨z4, e4, _, w4⟩ := DataW.trod_int Try.underlying3 g4
    obtain ⟨vip, proto, port, a, k, c, es, e5, e6, e7, e8, hI, hk, t5, t6, t7⟩ := open_svc g5 hw5
    obtain ⟨z9, e9, _, w9⟩ := DataW.trod_int Try.underlying37 g6
    obtain ⟨z10, e10, _, w10⟩ := DataW.trod_int Try.underlying37 g7
    obtain ⟨z11, e11, _⟩ := DataW.trod_bool Try.underlying4 g8
    simp only [List.cons.injEq, and_true] at e0 e1 e2 e3 e4 e9 e10 e11
    subst e0 e1 e2 e3 e4 e5 e6 e7 e8 e9 e10 e11
    exact ⟨(⟨z0, z1, z2, z3, z4, vip, proto, port, es, z9, z10, z11⟩, .slice a k c), rfl, ⟨a, k, c, rfl, hI⟩, i64c_of w0, i64c_of w1, i64c_of w2, i64c_of w3, i64c_of w4, t5, t6, t7, u32_of w9, u32_of w10, hI.typ, by have := hI.len; show es.length ≤ _; omega⟩
set_option maxRecDepth 100000 in
theorem open_cmd {H : Type} {enc : TypeId × Value → H} {W : World} {p : Addr} {cs : List Value} {n : Nat} {d : DataW H} {pl : List MemPlace} (h1 : W.cells? 0 p 12 = some cs) (h2 : DataW.trod enc Try.prog W 0 (fun _ => true) true n 42 cs = some (d, pl)) (hw : (d.weights Try.prog 42).all (· ≤ reachBytes) = true) :
    ∃ xv : Cm × Value, (∀ k, k < 12 → W.cell? (p.add k) = (xv.1.cs xv.2)[k]?) ∧ CmIn W xv.1 xv.2 := by
  obtain ⟨_, hlen, hc⟩ := World.cells?_some h1
  match cs, hlen with
  | [c0, c1, c2, c3, c4, c5, c6, c7, c8, c9, c10, c11], _ =>
    obtain ⟨o, ho, hO⟩ := open_cmc h2 hw
    refine ⟨o, fun i hi => ?_, hO⟩
    rw [hc i (by simpa using hi), ← ho]
set_option maxRecDepth 100000 in
/-- A log's cell. -/
theorem open_log1 {H : Type} {enc : TypeId × Value → H} {W : World} {v : Value} {fuel : Nat} {x : DataW H × List MemPlace} (hf : DataW.trod enc Try.prog W 0 (fun _ => true) true fuel 22 [v] = some x) (hw : (x.1.weights Try.prog 22).all (· ≤ reachBytes) = true) :
    ∃ a n cap ls vs, v = .slice a n cap ∧ InC W a n cap ls vs ∧ n ≤ 1152921504606846976 := by
  rcases open_slice Try.underlying22 hf with ⟨hcs, hx⟩ | ⟨a, len, cap, m, n, D, Pl, hcs, _, hl, hm, hmm, hx, hi⟩
  · simp only [List.cons.injEq, and_true] at hcs
    subst hcs
    exact ⟨none, 0, 0, [], [], rfl, inC_nil W, Nat.zero_le _⟩
  · simp only [List.cons.injEq, and_true] at hcs
    subst hcs
    simp only [if_true] at hmm
    subst hmm
    rw [hx] at hw
    simp only [DataW.weights, Try.underlying22, List.all_cons, List.all_append, Bool.and_eq_true] at hw
    have h1 := of_decide_eq_true hw.1
    rw [bytesCm, List.length_map, List.length_range] at h1
    have hD := weightsAll_at hw.2.1
    rw [cellsCm] at hi
    obtain ⟨L, hL⟩ := choose_lt (n := len) (α := Cm × Value) (p := fun i o => (∀ k, k < 12 → W.cell? ((a.add (i * 12)).add k) = (o.1.cs o.2)[k]?) ∧ CmIn W o.1 o.2) (fun i hil => by
      obtain ⟨cs', k1, k2⟩ := hi i (by omega)
      exact open_cmd k1 k2 (hD (D i) (List.mem_map.2 ⟨i, List.mem_range.2 hil, rfl⟩)))
    have hg : ∀ j, j < len → ((List.range len).map (fun j => (L j).1)).getD j cm0 = (L j).1 := fun j hj => getD_range _ cm0 hj
    have hv : ∀ j, j < len → ((List.range len).map (fun j => (L j).2)).getD j undef = (L j).2 := fun j hj => getD_range _ undef hj
    have hvl : ((List.range len).map (fun j => (L j).2)).length = ((List.range len).map (fun j => (L j).1)).length := by simp
    refine ⟨some a, len, m, (List.range len).map (fun j => (L j).1), (List.range len).map (fun j => (L j).2), rfl, ⟨by simp, hvl, hl, (fun e => by cases e), ?_, fun j hj => ?_, fun c hc => ?_⟩, ?_⟩
    · rcases Nat.eq_zero_or_pos len with h0 | h0
      · subst h0
        exact .inl rfl
      · have hz := (hL 0 h0).1 0 (by omega)
        have ha0 : a.add (0 * 12) = a := by simp [Addr.add]
        rw [ha0] at hz
        have hz2 : W.cell? (a.add 0) = some (.int .i64 (L 0).1.node) := hz
        have ha := plain_of hz2
        refine .inr ⟨a.block, a.off, by rw [← ha], fun t u hu => ?_⟩
        have htl : t < len * 12 := by
          have := (List.getElem?_eq_some_iff.1 hu).1
          rw [cellsC_len hvl] at this
          simpa using this
        have hc := (hL (t / 12) (by omega)).1 (t % 12) (by omega)
        have hca := cellsC_at hvl (j := t / 12) (i := t % 12) (by simp; omega) (by omega)
        rw [show t / 12 * 12 + t % 12 = t by omega, hg _ (by omega), hv _ (by omega), hu] at hca
        rw [ha, Go.WideShapes.add_plain, Go.WideShapes.add_plain, ← hca] at hc
        rw [← hc]
        congr 2
        omega
    · rw [hg j hj, hv j hj]
      obtain ⟨a', k', c', e', hI'⟩ := (hL j hj).2.1
      exact ⟨a', k', c', e', hI'⟩
    · obtain ⟨i, hil, rfl⟩ := List.mem_map.1 hc
      exact (hL i (List.mem_range.1 hil)).2.2
    · unfold reachBytes at h1
      omega
set_option maxRecDepth 100000 in
theorem open_log {H : Type} {enc : TypeId × Value → H} {W : World} {v : Value} {d : DataW H} {p : List MemPlace} {r : Reach} {b0 : Nat}
    (hv : Value.okWide Try.prog W r b0 22 v) (h : DataW.Trod enc Try.prog W 0 (fun _ => true) true 22 v d p) (hw : (d.weights Try.prog 22).all (· ≤ reachBytes) = true) :
    ∃ a n cap ls vs, v = .slice a n cap ∧ InC W a n cap ls vs ∧ n ≤ 1152921504606846976 := by
  obtain ⟨a, n, cap, rfl⟩ := okWide_slice Try.underlying22 hv
  obtain ⟨fuel, hf⟩ := h
  exact open_log1 (x := (d, p)) (by simpa [Value.cells] using hf) hw
end Go.Proofs.Ytnhnpfhfcbmmlaa
