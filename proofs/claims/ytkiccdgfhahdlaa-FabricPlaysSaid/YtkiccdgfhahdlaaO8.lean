/- From the guide's word for arguments to rows, rows of rows, scripts and records in memory; how long they are at most. No conditions. -/
import Derived.Test.YtkiccdgfhahdlaaFBw
import Derived.Test.YtkiccdgfhahdlaaFTk
import Derived.Test.YtkiccdgfhahdlaaFPl
import Derived.OpenShut
import Derived.SizedLaws
import Derived.Lib.SmallJoins
import Derived.Deep.Slices
import Derived.Deep.Grids
namespace Go.Proofs.Ytkiccdgfhahdlaa
open Go Go.RowKit Go.ChangeShapes Go.WideShapes Go.Deep
set_option linter.unusedVariables false
set_option linter.unusedSimpArgs false

theorem weights_at {H : Type} {P : Program} : ∀ {ts : List TypeId} {ds : List (DataW H)}, (DataW.weightsEach P ts ds).all (· ≤ reachBytes) = true → ∀ {j : Nat} {t : TypeId} {d : DataW H}, ts[j]? = some t → ds[j]? = some d → (d.weights P t).all (· ≤ reachBytes) = true
  | [], _, _, _, _, _, ht, _ => by simp at ht
  | _ :: _, [], _, _, _, _, _, hd => by simp at hd
  | t0 :: ts, d0 :: ds, h, 0, t, d, ht, hd => by
    simp only [List.getElem?_cons_zero, Option.some.injEq] at ht hd
    subst ht hd
    rw [DataW.weightsEach, List.all_append, Bool.and_eq_true] at h
    exact h.1
  | t0 :: ts, d0 :: ds, h, j + 1, t, d, ht, hd => by
    simp only [List.getElem?_cons_succ] at ht hd
    rw [DataW.weightsEach, List.all_append, Bool.and_eq_true] at h
    exact weights_at h.2 ht hd
theorem weightsAll_at {H : Type} {P : Program} {e : TypeId} : ∀ {ds : List (DataW H)}, (DataW.weightsAll P e ds).all (· ≤ reachBytes) = true → ∀ d ∈ ds, (d.weights P e).all (· ≤ reachBytes) = true
  | [], _, d, hd => by cases hd
  | d0 :: ds, h, d, hd => by
    rw [DataW.weightsAll, List.all_append, Bool.and_eq_true] at h
    rcases List.mem_cons.1 hd with rfl | hd
    · exact h.1
    · exact weightsAll_at h.2 d hd
theorem plain_of {w : World} {a : Addr} {v : Value} (h : w.cell? (a.add 0) = some v) : a = ⟨a.block, a.off, none⟩ := by
  obtain ⟨b, off, spot⟩ := a
  have hspot : spot = none := by simpa [Addr.add] using World.cell?_spot h
  subst hspot
  rfl
theorem bytes5 : Try.prog.bytesOf 5 = 1 := by kernel_rfl
theorem bytes26 : Try.prog.bytesOf 31 = 24 := by kernel_rfl
theorem cells26 : Try.prog.cellsOf 31 = 1 := by kernel_rfl
theorem at_of_row {w : World} {a : Option Addr} {len cap : Nat} {zs : List Int} (h : (a = none ∧ len = 0 ∧ cap = 0 ∧ zs = []) ∨ ∃ x, a = some x ∧ len ≤ cap ∧ cap ≤ maxLen ∧ zs.length = cap ∧ (∀ i, i < zs.length → w.cell? (x.add i) = some (.int .u8 (zs.getD i 0))) ∧ ∀ n ∈ zs, (Lit.int .u8 n).wf = true) :
    ∃ l : List Int, In w a len cap l ∧ l = zs.take len := by
  rcases h with ⟨rfl, rfl, rfl, rfl⟩ | ⟨x, rfl, h1, h2, h3, h4, h5⟩
  · exact ⟨[], ⟨rfl, Nat.le_refl _, fun _ => rfl, At.nil w none 0, by intro b hb; cases hb⟩, rfl⟩
  · have hl : (zs.take len).length = len := by rw [List.length_take]; omega
    refine ⟨zs.take len, ⟨hl, h1, (fun e => by cases e), ⟨some x, cap, by rw [hl], ?_⟩, ?_⟩, rfl⟩
    · by_cases h0 : len = 0
      · subst h0
        exact .inl rfl
      · obtain ⟨b, off, rfl, hc⟩ := ints_at h4 (by omega)
        refine .inr ⟨b, off, rfl, fun j hj => ?_⟩
        rw [hl] at hj
        rw [hc j (by omega), List.getD_eq_getElem?_getD, List.getD_eq_getElem?_getD, List.getElem?_take, if_pos hj]
    · intro n hn
      have := h5 n (List.mem_of_mem_take hn)
      have e : 0 ≤ n ∧ n ≤ 255 := by simpa [Lit.wf, IntKind.min, IntKind.max, IntKind.signed, IntKind.bits] using this
      omega
/-- A row's cell. -/
theorem open_row1 {H : Type} {enc : TypeId × Value → H} {W : World} {v : Value} {fuel : Nat} {x : DataW H × List MemPlace} (hf : DataW.trod enc Try.prog W 0 (fun _ => true) true fuel 31 [v] = some x) (hw : (x.1.weights Try.prog 31).all (· ≤ reachBytes) = true) :
    ∃ a n cap l, v = .slice a n cap ∧ In W a n cap l ∧ n ≤ 140737488351232 := by
  rcases open_ints Try.underlying31 Try.underlying5 (by kernel_rfl) hf with ⟨hcs, hx⟩ | ⟨y, n, cap, zs, hcs, _, hl, hm, hz, hx, hcell, hwz⟩
  · simp only [List.cons.injEq, and_true] at hcs
    subst hcs
    exact ⟨none, 0, 0, [], rfl, ⟨rfl, Nat.le_refl _, fun _ => rfl, At.nil _ _ _, by intro b hb; cases hb⟩, Nat.zero_le _⟩
  · simp only [List.cons.injEq, and_true] at hcs
    subst hcs
    simp only [if_true] at hz
    obtain ⟨l, hI, _⟩ := at_of_row (w := W) (.inr ⟨y, rfl, hl, hm, hz, hcell, hwz⟩)
    refine ⟨_, n, cap, l, rfl, hI, ?_⟩
    have e : x.1 = .slice (lits .u8 (zs.take n)) (lits .u8 (zs.drop n)) := by rw [hx]
    rw [e] at hw
    simp only [DataW.weights, Try.underlying31, List.all_cons, Bool.and_eq_true] at hw
    have h1 := of_decide_eq_true hw.1
    rw [bytes5] at h1
    have h2 : (lits (H := H) .u8 (zs.take n)).length = n := by simp only [lits, List.length_map, List.length_take]; omega
    rw [h2] at h1
    unfold reachBytes at h1
    omega
theorem ris_of {w : World} {V : Nat → Value} {L : Nat → List Int} : ∀ {is : List Nat}, (∀ i ∈ is, ∃ a n c, V i = .slice a n c ∧ In w a n c (L i)) → Ris w (is.map V) (is.map L)
  | [], _ => trivial
  | i :: is, h => ⟨h i List.mem_cons_self, ris_of (fun j hj => h j (List.mem_cons_of_mem _ hj))⟩
theorem getD_range {α : Type} (f : Nat → α) (d : α) {n j : Nat} (hj : j < n) : ((List.range n).map f).getD j d = f j := by
  rw [List.getD_eq_getElem?_getD, List.getElem?_map, List.getElem?_range hj]
  rfl
/-- Rows' cell. -/
theorem open_rows1 {H : Type} {enc : TypeId × Value → H} {W : World} {v : Value} {fuel : Nat} {x : DataW H × List MemPlace} (hf : DataW.trod enc Try.prog W 0 (fun _ => true) true fuel 64 [v] = some x) (hw : (x.1.weights Try.prog 64).all (· ≤ reachBytes) = true) :
    ∃ a n cap us ps, v = .slice a n cap ∧ RsIn W a n cap us ps ∧ n ≤ 5864062014634 ∧ ∀ p ∈ ps, p.length ≤ 140737488351232 := by
  rcases open_slice1 Try.underlying64 cells26 hf with ⟨hcs, hx⟩ | ⟨a, len, cap, m, n, V, D, Pl, hcs, _, hl, hm, hmm, hx, hi⟩
  · simp only [List.cons.injEq, and_true] at hcs
    subst hcs
    exact ⟨none, 0, 0, [], [], rfl, ⟨rfl, Nat.le_refl _, fun _ => rfl, .inl rfl, trivial⟩, Nat.zero_le _, fun p hp => by cases hp⟩
  · simp only [List.cons.injEq, and_true] at hcs
    subst hcs
    simp only [if_true] at hmm
    subst hmm
    rw [hx] at hw
    simp only [DataW.weights, Try.underlying64, List.all_cons, List.all_append, Bool.and_eq_true] at hw
    have h1 := of_decide_eq_true hw.1
    rw [bytes26, List.length_map, List.length_range] at h1
    have hD := weightsAll_at hw.2.1
    obtain ⟨L, hL⟩ := choose_lt (n := len) (α := List Int) (p := fun i l => ∃ a n c, V i = .slice a n c ∧ In W a n c l ∧ n ≤ 140737488351232) (fun i hil => by
      obtain ⟨a', n', c', l, e, hI, hb⟩ := open_row1 (x := (D i, Pl i)) (hi i (by omega)).2 (hD (D i) (List.mem_map.2 ⟨i, List.mem_range.2 hil, rfl⟩))
      exact ⟨l, a', n', c', e, hI, hb⟩)
    refine ⟨some a, len, m, (List.range len).map V, (List.range len).map L, rfl, ⟨by simp, hl, (fun e => by cases e), ?_, ris_of (fun i hil => by
      obtain ⟨a', n', c', e, hI, _⟩ := hL i (List.mem_range.1 hil)
      exact ⟨a', n', c', e, hI⟩)⟩, ?_, fun p hp => ?_⟩
    · rcases Nat.eq_zero_or_pos len with h0 | h0
      · subst h0
        exact .inl rfl
      · have ha := plain_of (hi 0 (by omega)).1
        refine .inr ⟨a.block, a.off, by rw [← ha], fun j hj => ?_⟩
        have hj' : j < len := by simpa using hj
        have hc := (hi j (by omega)).1
        rw [ha, Go.WideShapes.add_plain] at hc
        rw [hc, getD_range V undef hj']
    · unfold reachBytes at h1
      omega
    · obtain ⟨i, hil, rfl⟩ := List.mem_map.1 hp
      obtain ⟨a', n', c', e, hI, hb⟩ := hL i (List.mem_range.1 hil)
      have := hI.len
      omega
theorem bytesB : Try.prog.bytesOf 4 = 1 := by kernel_rfl
theorem cellsB : Try.prog.cellsOf 4 = 1 := by kernel_rfl
theorem bytesI : Try.prog.bytesOf 3 = 8 := by kernel_rfl
theorem cellsI : Try.prog.cellsOf 3 = 1 := by kernel_rfl
theorem cellsU : Try.prog.cellsOf 31 = 1 := by kernel_rfl
theorem cellsO : Try.prog.cellsOf 33 = 6 := by kernel_rfl
theorem bytesO : Try.prog.bytesOf 33 = 64 := by kernel_rfl
theorem cellsF : Try.prog.cellsOf 61 = 4 := by kernel_rfl
/-- What an operation that came in keeps to. -/
def OpIn (W : World) (p : Addr) (o : Op8) : Prop :=
  (∀ i, i < 6 → W.cell? (p.add i) = (o.cs)[i]?) ∧ In W o.ao o.n o.cap o.bs ∧ o.n ≤ 140737488351232 ∧ I64 o.frm ∧ I64 o.dst ∧ I64 o.num
set_option maxRecDepth 100000 in
theorem open_op {H : Type} {enc : TypeId × Value → H} {W : World} {p : Addr} {cs : List Value} {n : Nat} {d : DataW H} {pl : List MemPlace} (h1 : W.cells? 0 p 6 = some cs) (h2 : DataW.trod enc Try.prog W 0 (fun _ => true) true n 33 cs = some (d, pl)) (hw : (d.weights Try.prog 33).all (· ≤ reachBytes) = true) : ∃ o, OpIn W p o := by
  obtain ⟨_, hlen, hc⟩ := World.cells?_some h1
  obtain ⟨xs, n', _, hx, _, hxl, hg⟩ := DataW.trod_struct Try.underlying33 h2
  match cs, hlen with
  | [c0, c1, c2, c3, c4, c5], _ =>
    match xs, hxl with
    | [y0, y1, y2, y3, y4, y5], _ =>
      have g0 : DataW.trod enc Try.prog W 0 (fun _ => true) true n' 3 [c0] = some y0 := by simpa [Value.cells, cellsI, cellsB, cellsU] using hg 0 _ rfl
      have g1 : DataW.trod enc Try.prog W 0 (fun _ => true) true n' 3 [c1] = some y1 := by simpa [Value.cells, cellsI, cellsB, cellsU] using hg 1 _ rfl
      have g2 : DataW.trod enc Try.prog W 0 (fun _ => true) true n' 3 [c2] = some y2 := by simpa [Value.cells, cellsI, cellsB, cellsU] using hg 2 _ rfl
      have g3 : DataW.trod enc Try.prog W 0 (fun _ => true) true n' 4 [c3] = some y3 := by simpa [Value.cells, cellsI, cellsB, cellsU] using hg 3 _ rfl
      have g4 : DataW.trod enc Try.prog W 0 (fun _ => true) true n' 3 [c4] = some y4 := by simpa [Value.cells, cellsI, cellsB, cellsU] using hg 4 _ rfl
      have g5 : DataW.trod enc Try.prog W 0 (fun _ => true) true n' 31 [c5] = some y5 := by simpa [Value.cells, cellsI, cellsB, cellsU] using hg 5 _ rfl
      have hd : d = .agg ([y0, y1, y2, y3, y4, y5].map (·.1)) := by
        simp only [Prod.mk.injEq] at hx
        exact hx.1
      rw [hd] at hw
      simp only [DataW.weights, Try.underlying33] at hw
      have hw5 := weights_at (j := 5) (t := 31) (d := y5.1) hw rfl rfl
      obtain ⟨z0, e0, _, w0⟩ := DataW.trod_int Try.underlying3 g0
      obtain ⟨z1, e1, _, w1⟩ := DataW.trod_int Try.underlying3 g1
      obtain ⟨z2, e2, _, w2⟩ := DataW.trod_int Try.underlying3 g2
      obtain ⟨z3, e3, _⟩ := DataW.trod_bool Try.underlying4 g3
      obtain ⟨z4, e4, _, w4⟩ := DataW.trod_int Try.underlying3 g4
      obtain ⟨a, k, c, l, e5, hI, hk⟩ := open_row1 g5 hw5
      simp only [List.cons.injEq, and_true] at e0 e1 e2 e3 e4
      subst e0 e1 e2 e3 e4 e5
      refine ⟨⟨z0, z1, z2, z3, z4, a, k, c, l⟩, fun i hi => ?_, hI, hk, i64_of w1, i64_of w2, i64_of w4⟩
      rw [hc i (by simpa using hi)]
      rfl
/-- A script. -/
theorem open_script1 {H : Type} {enc : TypeId × Value → H} {W : World} {v : Value} {fuel : Nat} {x : DataW H × List MemPlace} (hf : DataW.trod enc Try.prog W 0 (fun _ => true) true fuel 22 [v] = some x) (hw : (x.1.weights Try.prog 22).all (· ≤ reachBytes) = true) :
    ∃ a n cap os, v = .slice a n cap ∧ S8In W a n os ∧ n ≤ 1152921504606846976 ∧ ∀ j, j < n → (os.getD j op8).n ≤ 1152921504606846976 := by
  rcases open_slice Try.underlying22 hf with ⟨hcs, hx⟩ | ⟨a, len, cap, m, n, D, Pl, hcs, _, hl, hm, hmm, hx, hi⟩
  · simp only [List.cons.injEq, and_true] at hcs
    subst hcs
    exact ⟨none, 0, 0, [], rfl, ⟨rfl, .inl rfl, fun j hj => absurd hj (by omega), fun j hj => absurd hj (by omega)⟩, Nat.zero_le _, fun j hj => absurd hj (by omega)⟩
  · simp only [List.cons.injEq, and_true] at hcs
    subst hcs
    simp only [if_true] at hmm
    subst hmm
    rw [hx] at hw
    simp only [DataW.weights, Try.underlying22, List.all_cons, List.all_append, Bool.and_eq_true] at hw
    have h1 := of_decide_eq_true hw.1
    rw [bytesO, List.length_map, List.length_range] at h1
    have hD := weightsAll_at hw.2.1
    rw [cellsO] at hi
    obtain ⟨L, hL⟩ := choose_lt (n := len) (α := Op8) (p := fun i o => OpIn W (a.add (i * 6)) o) (fun i hil => by
      obtain ⟨cs', k1, k2⟩ := hi i (by omega)
      exact open_op k1 k2 (hD (D i) (List.mem_map.2 ⟨i, List.mem_range.2 hil, rfl⟩)))
    have hg : ∀ j, j < len → ((List.range len).map L).getD j op8 = L j := fun j hj => getD_range L op8 hj
    refine ⟨some a, len, m, (List.range len).map L, rfl, ⟨by simp, ?_, fun j hj => by rw [hg j hj]; exact (hL j hj).2.1, fun j hj => by rw [hg j hj]; exact (hL j hj).2.2.2⟩, ?_, fun j hj => by
      rw [hg j hj]
      have := (hL j hj).2.2.1
      omega⟩
    · rcases Nat.eq_zero_or_pos len with h0 | h0
      · exact .inl h0
      · have hz := (hL 0 h0).1 0 (by omega)
        have ha0 : a.add (0 * 6) = a := by simp [Addr.add]
        rw [ha0] at hz
        have hz2 : W.cell? (a.add 0) = some (.int .i64 (L 0).kind) := hz
        have ha := plain_of hz2
        refine .inr ⟨a.block, a.off, by rw [← ha], fun j hj i hi2 => ?_⟩
        have hc := (hL j hj).1 i hi2
        rw [ha, Go.WideShapes.add_plain, Go.WideShapes.add_plain] at hc
        rw [hg j hj]
        exact hc
    · unfold reachBytes at h1
      omega
theorem open_script {H : Type} {enc : TypeId × Value → H} {W : World} {v : Value} {d : DataW H} {p : List MemPlace} {r : Reach} {b0 : Nat}
    (hv : Value.okWide Try.prog W r b0 22 v) (h : DataW.Trod enc Try.prog W 0 (fun _ => true) true 22 v d p) (hw : (d.weights Try.prog 22).all (· ≤ reachBytes) = true) :
    ∃ a n cap os, v = .slice a n cap ∧ S8In W a n os ∧ n ≤ 1152921504606846976 ∧ ∀ j, j < n → (os.getD j op8).n ≤ 1152921504606846976 := by
  obtain ⟨a, n, cap, rfl⟩ := okWide_slice Try.underlying22 hv
  obtain ⟨fuel, hf⟩ := h
  exact open_script1 (x := (d, p)) (by simpa [Value.cells] using hf) hw
set_option maxRecDepth 100000 in
theorem open_full {H : Type} {enc : TypeId × Value → H} {W : World} {r : Reach} {b0 : Nat} {v : Value} {d : DataW H} {ps : List MemPlace}
    (hv : Value.okWide Try.prog W r b0 61 v) (h : DataW.Trod enc Try.prog W 0 (fun _ => true) true 61 v d ps) (hw : (d.weights Try.prog 61).all (· ≤ reachBytes) = true) :
    ∃ (x y : Int) (a : Option Addr) (n c : Nat) (l : List Int) (z : Int), v = .agg #[.int .i64 x, .int .i64 y, .slice a n c, .int .i64 z] ∧ In W a n c l ∧ I64 x ∧ I64 y ∧ I64 z := by
  obtain ⟨⟨l⟩, rfl, hsz⟩ := okWide_struct Try.underlying61 hv
  rw [cellsF] at hsz
  obtain ⟨fuel, hf⟩ := h
  obtain ⟨xs, n, _, hx, _, hlen, hg⟩ := DataW.trod_struct Try.underlying61 hf
  match l, hsz with
  | [c0, c1, c2, c3], _ =>
    match xs, hlen with
    | [y0, y1, y2, y3], _ =>
      have g0 : DataW.trod enc Try.prog W 0 (fun _ => true) true n 3 [c0] = some y0 := by simpa [Value.cells, cellsI, cellsU] using hg 0 _ rfl
      have g1 : DataW.trod enc Try.prog W 0 (fun _ => true) true n 3 [c1] = some y1 := by simpa [Value.cells, cellsI, cellsU] using hg 1 _ rfl
      have g2 : DataW.trod enc Try.prog W 0 (fun _ => true) true n 31 [c2] = some y2 := by simpa [Value.cells, cellsI, cellsU] using hg 2 _ rfl
      have g3 : DataW.trod enc Try.prog W 0 (fun _ => true) true n 3 [c3] = some y3 := by simpa [Value.cells, cellsI, cellsU] using hg 3 _ rfl
      obtain ⟨z0, e0, _, w0⟩ := DataW.trod_int Try.underlying3 g0
      obtain ⟨z1, e1, _, w1⟩ := DataW.trod_int Try.underlying3 g1
      obtain ⟨z3, e3, _, w3⟩ := DataW.trod_int Try.underlying3 g3
      simp only [List.cons.injEq, and_true] at e0 e1 e3
      subst e0 e1 e3
      have hd : d = .agg ([y0, y1, y2, y3].map (·.1)) := by
        simp only [Prod.mk.injEq] at hx
        exact hx.1
      rw [hd] at hw
      have hwp := weights_at (j := 2) (t := 31) (d := y2.1) (by
        have := hw
        simp only [DataW.weights, Try.underlying61] at this
        exact this) rfl rfl
      obtain ⟨a, k, c, l, rfl, hI, _⟩ := open_row1 g2 hwp
      exact ⟨z0, z1, a, k, c, l, z3, rfl, hI, i64_of w0, i64_of w1, i64_of w3⟩
theorem between_any (ao : Option Addr) (n c : Nat) (os : List Op8) (w : World) (hI : S8In w ao n os) (hn : n ≤ 1152921504606846976) (hl : ∀ j, j < n → (os.getD j op8).n ≤ 1152921504606846976) :
    Calls Try.prog 8 #[.slice ao n c] w fun e w' => e = .returned (.bool true) ∧ Below w.heap.size w w' := by
  rcases Nat.lt_or_ge 60 n with h | h
  · exact between_no ao n c os w hI hn hl h
  · exact between_t ao n c os w hI h hl
theorem open_bytes {H : Type} {enc : TypeId × Value → H} {W : World} {v : Value} {d : DataW H} {p : List MemPlace} {r : Reach} {b0 : Nat}
    (hv : Value.okWide Try.prog W r b0 31 v) (h : DataW.Trod enc Try.prog W 0 (fun _ => true) true 31 v d p) (hw : (d.weights Try.prog 31).all (· ≤ reachBytes) = true) :
    ∃ a n cap l, v = .slice a n cap ∧ In W a n cap l ∧ n ≤ 140737488351232 := by
  obtain ⟨a, n, cap, rfl⟩ := okWide_slice Try.underlying31 hv
  obtain ⟨fuel, hf⟩ := h
  exact open_row1 (x := (d, p)) (by simpa [Value.cells] using hf) hw
theorem open_rows {H : Type} {enc : TypeId × Value → H} {W : World} {v : Value} {d : DataW H} {p : List MemPlace} {r : Reach} {b0 : Nat}
    (hv : Value.okWide Try.prog W r b0 64 v) (h : DataW.Trod enc Try.prog W 0 (fun _ => true) true 64 v d p) (hw : (d.weights Try.prog 64).all (· ≤ reachBytes) = true) :
    ∃ a n cap us ps, v = .slice a n cap ∧ RsIn W a n cap us ps ∧ n ≤ 5864062014634 ∧ ∀ p ∈ ps, p.length ≤ 140737488351232 := by
  obtain ⟨a, n, cap, rfl⟩ := okWide_slice Try.underlying64 hv
  obtain ⟨fuel, hf⟩ := h
  exact open_rows1 (x := (d, p)) (by simpa [Value.cells] using hf) hw
end Go.Proofs.Ytkiccdgfhahdlaa
