/- From the guide's word for arguments to rings' numbers, rows, flows and ends in memory. No conditions. -/
import Derived.Test.YtkacbeighaccjaaRhB
import Derived.OpenShut
import Derived.SizedLaws
import Derived.Lib.SmallJoins
import Derived.Deep.Slices
import Derived.Deep.Grids
namespace Go.Proofs.Ytkacbeighaccjaa
open Go Go.RowKit Go.ChangeShapes Go.WideShapes Go.Deep
set_option linter.unusedVariables false
set_option linter.unusedSimpArgs false

theorem weights_at {H : Type} {P : Program} : ∀ {ts : List TypeId} {ds : List (DataW H)}, (DataW.weightsEach P ts ds).all (· ≤ reachBytes) = true → ∀ {j : Nat} {t : TypeId} {d : DataW H}, ts[j]? = some t → ds[j]? = some d → (d.weights P t).all (· ≤ reachBytes) = true
  | [], _, _, _, _, _, ht, _ => by simp at ht
  | _ :: _, [], _, _, _, _, _, hd => by simp at hd
  | t0 :: ts, d0 :: ds, h, 0, t, d, ht, hd => by
    simp only [List.getElem?_cons_zero, Option.some.injEq] at ht hd
    subst ht hd
    rw [DataW.weightsEach, List.all_append, Bool.and_eq_true] at h
    exact h.1
  | t0 :: ts, d0 :: ds, h, j + 1, t, d, ht, hd => by
    simp only [List.getElem?_cons_succ] at ht hd
    rw [DataW.weightsEach, List.all_append, Bool.and_eq_true] at h
    exact weights_at h.2 ht hd
theorem weightsAll_at {H : Type} {P : Program} {e : TypeId} : ∀ {ds : List (DataW H)}, (DataW.weightsAll P e ds).all (· ≤ reachBytes) = true → ∀ d ∈ ds, (d.weights P e).all (· ≤ reachBytes) = true
  | [], _, d, hd => by cases hd
  | d0 :: ds, h, d, hd => by
    rw [DataW.weightsAll, List.all_append, Bool.and_eq_true] at h
    rcases List.mem_cons.1 hd with rfl | hd
    · exact h.1
    · exact weightsAll_at h.2 d hd
theorem plain_of {w : World} {a : Addr} {v : Value} (h : w.cell? (a.add 0) = some v) : a = ⟨a.block, a.off, none⟩ := by
  obtain ⟨b, off, spot⟩ := a
  have hspot : spot = none := by simpa [Addr.add] using World.cell?_spot h
  subst hspot
  rfl
theorem u32_of {n : Int} (h : (Lit.int .u32 n).wf = true) : 0 ≤ n ∧ n < 4294967296 := by
  have e : 0 ≤ n ∧ n ≤ 4294967295 := by simpa [Lit.wf, IntKind.min, IntKind.max, IntKind.signed, IntKind.bits] using h
  omega
theorem u64_of {n : Int} (h : (Lit.int .u64 n).wf = true) : 0 ≤ n ∧ n < 18446744073709551616 := by
  have e : 0 ≤ n ∧ n ≤ 18446744073709551615 := by simpa [Lit.wf, IntKind.min, IntKind.max, IntKind.signed, IntKind.bits] using h
  omega
theorem at_of_rowI {w : World} {a : Option Addr} {len cap : Nat} {zs : List Int} (h : (a = none ∧ len = 0 ∧ cap = 0 ∧ zs = []) ∨ ∃ x, a = some x ∧ len ≤ cap ∧ cap ≤ maxLen ∧ zs.length = cap ∧ (∀ i, i < zs.length → w.cell? (x.add i) = some (.int .i64 (zs.getD i 0))) ∧ ∀ n ∈ zs, (Lit.int .i64 n).wf = true) :
    ∃ l : List Int, InI w a len cap l ∧ l = zs.take len := by
  rcases h with ⟨rfl, rfl, rfl, rfl⟩ | ⟨x, rfl, h1, h2, h3, h4, h5⟩
  · exact ⟨[], ⟨rfl, Nat.le_refl _, fun _ => rfl, AtI.nil w none 0, by intro b hb; cases hb⟩, rfl⟩
  · have hl : (zs.take len).length = len := by rw [List.length_take]; omega
    refine ⟨zs.take len, ⟨hl, h1, (fun e => by cases e), ⟨some x, cap, by rw [hl], ?_⟩, ?_⟩, rfl⟩
    · by_cases h0 : len = 0
      · subst h0
        exact .inl rfl
      · obtain ⟨b, off, rfl, hc⟩ := ints_at h4 (by omega)
        refine .inr ⟨b, off, rfl, fun j hj => ?_⟩
        rw [hl] at hj
        rw [hc j (by omega), List.getD_eq_getElem?_getD, List.getD_eq_getElem?_getD, List.getElem?_take, if_pos hj]
    · intro n hn
      have := h5 n (List.mem_of_mem_take hn)
      have e : -9223372036854775808 ≤ n ∧ n ≤ 9223372036854775807 := by simpa [Lit.wf, IntKind.min, IntKind.max, IntKind.signed, IntKind.bits] using this
      omega
theorem bytes3 : Try.prog.bytesOf 3 = 8 := by kernel_rfl
/-- A row's cell. -/
theorem open_row1I {H : Type} {enc : TypeId × Value → H} {W : World} {v : Value} {fuel : Nat} {x : DataW H × List MemPlace} (hf : DataW.trod enc Try.prog W 0 (fun _ => true) true fuel 22 [v] = some x) (hw : (x.1.weights Try.prog 22).all (· ≤ reachBytes) = true) :
    ∃ a n cap l, v = .slice a n cap ∧ InI W a n cap l ∧ n ≤ 17592186043904 := by
  rcases open_ints Try.underlying22 Try.underlying3 (by kernel_rfl) hf with ⟨hcs, hx⟩ | ⟨y, n, cap, zs, hcs, _, hl, hm, hz, hx, hcell, hwz⟩
  · simp only [List.cons.injEq, and_true] at hcs
    subst hcs
    exact ⟨none, 0, 0, [], rfl, ⟨rfl, Nat.le_refl _, fun _ => rfl, AtI.nil _ _ _, by intro b hb; cases hb⟩, Nat.zero_le _⟩
  · simp only [List.cons.injEq, and_true] at hcs
    subst hcs
    simp only [if_true] at hz
    obtain ⟨l, hI, _⟩ := at_of_rowI (w := W) (.inr ⟨y, rfl, hl, hm, hz, hcell, hwz⟩)
    refine ⟨_, n, cap, l, rfl, hI, ?_⟩
    have e : x.1 = .slice (lits .i64 (zs.take n)) (lits .i64 (zs.drop n)) := by rw [hx]
    rw [e] at hw
    simp only [DataW.weights, Try.underlying22, List.all_cons, Bool.and_eq_true] at hw
    have h1 := of_decide_eq_true hw.1
    rw [bytes3] at h1
    have h2 : (lits (H := H) .i64 (zs.take n)).length = n := by simp only [lits, List.length_map, List.length_take]; omega
    rw [h2] at h1
    unfold reachBytes at h1
    omega
theorem getD_range {α : Type} (f : Nat → α) (d : α) {n j : Nat} (hj : j < n) : ((List.range n).map f).getD j d = f j := by
  rw [List.getD_eq_getElem?_getD, List.getElem?_map, List.getElem?_range hj]
  rfl
theorem cells3 : Try.prog.cellsOf 3 = 1 := by kernel_rfl
theorem cells23 : Try.prog.cellsOf 45 = 1 := by kernel_rfl
theorem cells27 : Try.prog.cellsOf 22 = 1 := by kernel_rfl
theorem cellsK : Try.prog.cellsOf 23 = 1 := by kernel_rfl
theorem cellsW : Try.prog.cellsOf 48 = 1 := by kernel_rfl
theorem cellsF : Try.prog.cellsOf 47 = 5 := by kernel_rfl
theorem cellsX : Try.prog.cellsOf 25 = 4 := by kernel_rfl
theorem cellsY : Try.prog.cellsOf 59 = 8 := by kernel_rfl
theorem cellsZ : Try.prog.cellsOf 51 = 3 := by kernel_rfl
theorem bytesZ : Try.prog.bytesOf 51 = 24 := by kernel_rfl
set_option maxRecDepth 100000 in
theorem open_introw {H : Type} {enc : TypeId × Value → H} {W : World} {v : Value} {d : DataW H} {p : List MemPlace} {r : Reach} {b0 : Nat}
    (hv : Value.okWide Try.prog W r b0 22 v) (h : DataW.Trod enc Try.prog W 0 (fun _ => true) true 22 v d p) (hw : (d.weights Try.prog 22).all (· ≤ reachBytes) = true) :
    ∃ a n cap l, v = .slice a n cap ∧ InI W a n cap l ∧ n ≤ 17592186043904 := by
  obtain ⟨a, n, cap, rfl⟩ := okWide_slice Try.underlying22 hv
  obtain ⟨fuel, hf⟩ := h
  exact open_row1I (x := (d, p)) (by simpa [Value.cells] using hf) hw
set_option maxRecDepth 100000 in
theorem open_ringed {H : Type} {enc : TypeId × Value → H} {W : World} {r : Reach} {b0 : Nat} {v : Value} {d : DataW H} {ps : List MemPlace}
    (hv : Value.okWide Try.prog W r b0 25 v) (h : DataW.Trod enc Try.prog W 0 (fun _ => true) true 25 v d ps) (hw : (d.weights Try.prog 25).all (· ≤ reachBytes) = true) :
    ∃ (P : Int) (a : Option Addr) (n c : Nat) (ms : List Int) (key N : Int), v = xvR P a n c key N ∧ InI W a n c ms ∧ n ≤ 17592186043904 ∧ I64 P ∧ (0 ≤ key ∧ key < 18446744073709551616) ∧ I64 N := by
  obtain ⟨⟨l⟩, rfl, hsz⟩ := okWide_struct Try.underlying25 hv
  rw [cellsX] at hsz
  obtain ⟨fuel, hf⟩ := h
  obtain ⟨xs, n, _, hx, _, hlen, hg⟩ := DataW.trod_struct Try.underlying25 hf
  match l, hsz with
  | [c0, c1, c2, c3], _ =>
    match xs, hlen with
    | [y0, y1, y2, y3], _ =>
      have g0 : DataW.trod enc Try.prog W 0 (fun _ => true) true n 3 [c0] = some y0 := by simpa [Value.cells, cells3, cells27, cellsK] using hg 0 _ rfl
      have g1 : DataW.trod enc Try.prog W 0 (fun _ => true) true n 22 [c1] = some y1 := by simpa [Value.cells, cells3, cells27, cellsK] using hg 1 _ rfl
      have g2 : DataW.trod enc Try.prog W 0 (fun _ => true) true n 23 [c2] = some y2 := by simpa [Value.cells, cells3, cells27, cellsK] using hg 2 _ rfl
      have g3 : DataW.trod enc Try.prog W 0 (fun _ => true) true n 3 [c3] = some y3 := by simpa [Value.cells, cells3, cells27, cellsK] using hg 3 _ rfl
      obtain ⟨z0, e0, _, w0⟩ := DataW.trod_int Try.underlying3 g0
      obtain ⟨z2, e2, _, w2⟩ := DataW.trod_int Try.underlying23 g2
      obtain ⟨z3, e3, _, w3⟩ := DataW.trod_int Try.underlying3 g3
      simp only [List.cons.injEq, and_true] at e0 e2 e3
      subst e0 e2 e3
      have hd : d = .agg ([y0, y1, y2, y3].map (·.1)) := by
        simp only [Prod.mk.injEq] at hx
        exact hx.1
      rw [hd] at hw
      have hw' := hw
      simp only [DataW.weights, Try.underlying25] at hw'
      have hw1 := weights_at (j := 1) (t := 22) (d := y1.1) hw' rfl rfl
      obtain ⟨a, k, c, dl, rfl, hI, hk⟩ := open_row1I g1 hw1
      exact ⟨z0, a, k, c, dl, z2, z3, rfl, hI, hk, i64_of w0, u64_of w2, i64_of w3⟩
set_option maxRecDepth 100000 in
/-- A flow's cells. -/
theorem open_flowc {H : Type} {enc : TypeId × Value → H} {W : World} {fuel : Nat} {c3 c4 c5 c6 c7 : Value} {x : DataW H × List MemPlace} (hf : DataW.trod enc Try.prog W 0 (fun _ => true) true fuel 47 [c3, c4, c5, c6, c7] = some x) :
    ∃ f : Fl, c3 = .int .i64 f.p ∧ c4 = .int .u32 f.s ∧ c5 = .int .i64 f.sp ∧ c6 = .int .u32 f.d ∧ c7 = .int .i64 f.dp ∧ TyF f := by
  obtain ⟨xs, n, _, hx, _, hlen, hg⟩ := DataW.trod_struct Try.underlying47 hf
  match xs, hlen with
  | [u0, u1, u2, u3, u4], _ =>
    have k0 : DataW.trod enc Try.prog W 0 (fun _ => true) true n 3 [c3] = some u0 := by simpa [Value.cells, cells3, cells23] using hg 0 _ rfl
    have k1 : DataW.trod enc Try.prog W 0 (fun _ => true) true n 45 [c4] = some u1 := by simpa [Value.cells, cells3, cells23] using hg 1 _ rfl
    have k2 : DataW.trod enc Try.prog W 0 (fun _ => true) true n 3 [c5] = some u2 := by simpa [Value.cells, cells3, cells23] using hg 2 _ rfl
    have k3 : DataW.trod enc Try.prog W 0 (fun _ => true) true n 45 [c6] = some u3 := by simpa [Value.cells, cells3, cells23] using hg 3 _ rfl
    have k4 : DataW.trod enc Try.prog W 0 (fun _ => true) true n 3 [c7] = some u4 := by simpa [Value.cells, cells3, cells23] using hg 4 _ rfl
    obtain ⟨z3, e3, _, w3⟩ := DataW.trod_int Try.underlying3 k0
    obtain ⟨z4, e4, _, w4⟩ := DataW.trod_int Try.underlying45 k1
    obtain ⟨z5, e5, _, w5⟩ := DataW.trod_int Try.underlying3 k2
    obtain ⟨z6, e6, _, w6⟩ := DataW.trod_int Try.underlying45 k3
    obtain ⟨z7, e7, _, w7⟩ := DataW.trod_int Try.underlying3 k4
    simp only [List.cons.injEq, and_true] at e3 e4 e5 e6 e7
    exact ⟨⟨z3, z4, z5, z6, z7⟩, e3, e4, e5, e6, e7, u32_of w4, u32_of w6⟩
set_option maxRecDepth 100000 in
theorem open_flow {H : Type} {enc : TypeId × Value → H} {W : World} {r : Reach} {b0 : Nat} {v : Value} {d : DataW H} {ps : List MemPlace}
    (hv : Value.okWide Try.prog W r b0 47 v) (h : DataW.Trod enc Try.prog W 0 (fun _ => true) true 47 v d ps) :
    ∃ f : Fl, v = f.val ∧ TyF f := by
  obtain ⟨⟨l⟩, rfl, hsz⟩ := okWide_struct Try.underlying47 hv
  rw [cellsF] at hsz
  obtain ⟨fuel, hf⟩ := h
  match l, hsz with
  | [c3, c4, c5, c6, c7], _ =>
    obtain ⟨f, e3, e4, e5, e6, e7, hT⟩ := open_flowc (x := (d, ps)) (by simpa [Value.cells] using hf)
    subst e3 e4 e5 e6 e7
    exact ⟨f, rfl, hT⟩
/-- An end that came in. -/
def EnIn (W : World) (p : Addr) (e : En) : Prop := (∀ i, i < 3 → W.cell? (p.add i) = (e.cs)[i]?) ∧ TyEn e
set_option maxRecDepth 100000 in
theorem open_end {H : Type} {enc : TypeId × Value → H} {W : World} {p : Addr} {cs : List Value} {n : Nat} {d : DataW H} {pl : List MemPlace} (h1 : W.cells? 0 p 3 = some cs) (h2 : DataW.trod enc Try.prog W 0 (fun _ => true) true n 51 cs = some (d, pl)) : ∃ e, EnIn W p e := by
  obtain ⟨_, hlen, hc⟩ := World.cells?_some h1
  obtain ⟨xs, n', _, hx, _, hxl, hg⟩ := DataW.trod_struct Try.underlying51 h2
  match cs, hlen with
  | [c0, c1, c2], _ =>
    match xs, hxl with
    | [y0, y1, y2], _ =>
      have g0 : DataW.trod enc Try.prog W 0 (fun _ => true) true n' 45 [c0] = some y0 := by simpa [Value.cells, cells3, cells23] using hg 0 _ rfl
      have g1 : DataW.trod enc Try.prog W 0 (fun _ => true) true n' 3 [c1] = some y1 := by simpa [Value.cells, cells3, cells23] using hg 1 _ rfl
      have g2 : DataW.trod enc Try.prog W 0 (fun _ => true) true n' 3 [c2] = some y2 := by simpa [Value.cells, cells3, cells23] using hg 2 _ rfl
      obtain ⟨z0, e0, _, w0⟩ := DataW.trod_int Try.underlying45 g0
      obtain ⟨z1, e1, _, w1⟩ := DataW.trod_int Try.underlying3 g1
      obtain ⟨z2, e2, _, w2⟩ := DataW.trod_int Try.underlying3 g2
      simp only [List.cons.injEq, and_true] at e0 e1 e2
      subst e0 e1 e2
      refine ⟨⟨z0, z1, z2⟩, fun i hi => ?_, u32_of w0, i64_of w1, i64_of w2⟩
      rw [hc i (by simpa using hi)]
      rfl
/-- Ends' cell. -/
theorem open_ends1 {H : Type} {enc : TypeId × Value → H} {W : World} {v : Value} {fuel : Nat} {x : DataW H × List MemPlace} (hf : DataW.trod enc Try.prog W 0 (fun _ => true) true fuel 48 [v] = some x) (hw : (x.1.weights Try.prog 48).all (· ≤ reachBytes) = true) :
    ∃ a n cap es, v = .slice a n cap ∧ InE W a n cap es ∧ n ≤ 1152921504606846976 := by
  rcases open_slice Try.underlying48 hf with ⟨hcs, hx⟩ | ⟨a, len, cap, m, n, D, Pl, hcs, _, hl, hm, hmm, hx, hi⟩
  · simp only [List.cons.injEq, and_true] at hcs
    subst hcs
    exact ⟨none, 0, 0, [], rfl, ⟨rfl, Nat.le_refl _, fun _ => rfl, .inl rfl, fun e he => by cases he⟩, Nat.zero_le _⟩
  · simp only [List.cons.injEq, and_true] at hcs
    subst hcs
    simp only [if_true] at hmm
    subst hmm
    rw [hx] at hw
    simp only [DataW.weights, Try.underlying48, List.all_cons, List.all_append, Bool.and_eq_true] at hw
    have h1 := of_decide_eq_true hw.1
    rw [bytesZ, List.length_map, List.length_range] at h1
    rw [cellsZ] at hi
    obtain ⟨L, hL⟩ := choose_lt (n := len) (α := En) (p := fun i e => EnIn W (a.add (i * 3)) e) (fun i hil => by
      obtain ⟨cs', k1, k2⟩ := hi i (by omega)
      exact open_end k1 k2)
    have hg : ∀ j, j < len → ((List.range len).map L).getD j en0 = L j := fun j hj => getD_range L en0 hj
    refine ⟨some a, len, m, (List.range len).map L, rfl, ⟨by simp, hl, (fun e => by cases e), ?_, fun e he => ?_⟩, ?_⟩
    · rcases Nat.eq_zero_or_pos len with h0 | h0
      · subst h0
        exact .inl rfl
      · have hz := (hL 0 h0).1 0 (by omega)
        have ha0 : a.add (0 * 3) = a := by simp [Addr.add]
        rw [ha0] at hz
        have hz2 : W.cell? (a.add 0) = some (.int .u32 (L 0).dip) := hz
        have ha := plain_of hz2
        refine .inr ⟨a.block, a.off, by rw [← ha], fun t u hu => ?_⟩
        have htl : t < len * 3 := by
          have := (List.getElem?_eq_some_iff.1 hu).1
          rw [cellsE_len] at this
          simpa using this
        have hc := (hL (t / 3) (by omega)).1 (t % 3) (by omega)
        have hca := cellsE_at (es := (List.range len).map L) (j := t / 3) (i := t % 3) (by simp; omega) (by omega)
        rw [show t / 3 * 3 + t % 3 = t by omega, hg _ (by omega), hu] at hca
        rw [ha, Go.WideShapes.add_plain, Go.WideShapes.add_plain, ← hca] at hc
        rw [← hc]
        congr 2
        omega
    · obtain ⟨i, hil, rfl⟩ := List.mem_map.1 he
      exact (hL i (List.mem_range.1 hil)).2
    · unfold reachBytes at h1
      omega
set_option maxRecDepth 100000 in
theorem open_ends {H : Type} {enc : TypeId × Value → H} {W : World} {v : Value} {d : DataW H} {p : List MemPlace} {r : Reach} {b0 : Nat}
    (hv : Value.okWide Try.prog W r b0 48 v) (h : DataW.Trod enc Try.prog W 0 (fun _ => true) true 48 v d p) (hw : (d.weights Try.prog 48).all (· ≤ reachBytes) = true) :
    ∃ a n cap es, v = .slice a n cap ∧ InE W a n cap es ∧ n ≤ 1152921504606846976 := by
  obtain ⟨a, n, cap, rfl⟩ := okWide_slice Try.underlying48 hv
  obtain ⟨fuel, hf⟩ := h
  exact open_ends1 (x := (d, p)) (by simpa [Value.cells] using hf) hw
set_option maxRecDepth 100000 in
theorem open_stay {H : Type} {enc : TypeId × Value → H} {W : World} {r : Reach} {b0 : Nat} {v : Value} {d : DataW H} {ps : List MemPlace}
    (hv : Value.okWide Try.prog W r b0 59 v) (h : DataW.Trod enc Try.prog W 0 (fun _ => true) true 59 v d ps) (hw : (d.weights Try.prog 59).all (· ≤ reachBytes) = true) :
    ∃ (f : Fl) (a : Option Addr) (n c : Nat) (es : List En) (out grow : Int), v = yvS f a n c out grow ∧ InE W a n c es ∧ n ≤ 1152921504606846976 ∧ TyF f ∧ I64 out ∧ I64 grow := by
  obtain ⟨⟨l⟩, rfl, hsz⟩ := okWide_struct Try.underlying59 hv
  rw [cellsY] at hsz
  obtain ⟨fuel, hf⟩ := h
  obtain ⟨xs, n, _, hx, _, hlen, hg⟩ := DataW.trod_struct Try.underlying59 hf
  match l, hsz with
  | [c0, c1, c2, c3, c4, c5, c6, c7], _ =>
    match xs, hlen with
    | [y0, y1, y2, y3], _ =>
      have g0 : DataW.trod enc Try.prog W 0 (fun _ => true) true n 47 [c0, c1, c2, c3, c4] = some y0 := by simpa [Value.cells, cells3, cellsW, cellsF] using hg 0 _ rfl
      have g1 : DataW.trod enc Try.prog W 0 (fun _ => true) true n 48 [c5] = some y1 := by simpa [Value.cells, cells3, cellsW, cellsF] using hg 1 _ rfl
      have g2 : DataW.trod enc Try.prog W 0 (fun _ => true) true n 3 [c6] = some y2 := by simpa [Value.cells, cells3, cellsW, cellsF] using hg 2 _ rfl
      have g3 : DataW.trod enc Try.prog W 0 (fun _ => true) true n 3 [c7] = some y3 := by simpa [Value.cells, cells3, cellsW, cellsF] using hg 3 _ rfl
      obtain ⟨f, e0, e1, e2, e3, e4, hT⟩ := open_flowc g0
      obtain ⟨z2, e6, _, w2⟩ := DataW.trod_int Try.underlying3 g2
      obtain ⟨z3, e7, _, w3⟩ := DataW.trod_int Try.underlying3 g3
      simp only [List.cons.injEq, and_true] at e6 e7
      have hd : d = .agg ([y0, y1, y2, y3].map (·.1)) := by
        simp only [Prod.mk.injEq] at hx
        exact hx.1
      rw [hd] at hw
      have hw' := hw
      simp only [DataW.weights, Try.underlying59] at hw'
      have hw1 := weights_at (j := 1) (t := 48) (d := y1.1) hw' rfl rfl
      obtain ⟨a, k, c, es, e5, hI, hk⟩ := open_ends1 g1 hw1
      subst e0 e1 e2 e3 e4 e5 e6 e7
      exact ⟨f, a, k, c, es, z2, z3, rfl, hI, hk, hT, i64_of w2, i64_of w3⟩
end Go.Proofs.Ytkacbeighaccjaa
