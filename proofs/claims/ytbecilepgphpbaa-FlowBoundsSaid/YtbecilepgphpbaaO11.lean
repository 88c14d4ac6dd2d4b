/- Scripts in memory; the contract of the statements' long. Conditions: those stated. From the guide's word for arguments to flows, scripts and quotas in memory. No conditions. -/
import Derived.Test.YtbecilepgphpbaaFkO
import Derived.Test.YtbecilepgphpbaaO11f
import Derived.Deep.CutRange
import Derived.OpenShut
import Derived.SizedLaws
import Derived.Lib.SmallJoins
import Derived.Deep.Slices
import Derived.Deep.Grids
namespace Go.Proofs.Ytbecilepgphpbaa
open Go Go.RowKit
set_option linter.unusedVariables false
set_option linter.unusedSimpArgs false

/-- A call of a script. -/
structure OpR where
  o : Op11
  a : Option Addr
  n : Nat
  c : Nat
  fs : List Fl
def opR : OpR := ⟨⟨0, fl0, 0, 0, 0, 0⟩, none, 0, 0, []⟩
instance : Inhabited OpR := ⟨opR⟩
def OpR.cs (o : OpR) : List Value := [.int .i64 o.o.kind, .int .i64 o.o.f.p, .int .u32 o.o.f.s, .int .i64 o.o.f.sp, .int .u32 o.o.f.d, .int .i64 o.o.f.dp, .slice o.a o.n o.c, .int .u32 o.o.dip, .int .i64 o.o.ep, .int .i64 o.o.flags, .int .i64 o.o.now]
/-- A script that came in. -/
structure SFIn (w : World) (ao : Option Addr) (n : Nat) (os : List OpR) : Prop where
  len : os.length = n
  here : n = 0 ∨ ∃ b off, ao = some ⟨b, off, none⟩ ∧ ∀ j, j < n → ∀ i, i < 11 → w.cell? ⟨b, off + j * 11 + i, none⟩ = ((os.getD j opR).cs)[i]?
  rows : ∀ j, j < n → InF w (os.getD j opR).a (os.getD j opR).n (os.getD j opR).fs
  room : ∀ j, j < n → (os.getD j opR).n ≤ (os.getD j opR).c ∧ ((os.getD j opR).a = none → (os.getD j opR).n = 0 ∧ (os.getD j opR).c = 0)
  fit : ∀ j, j < n → FitO (os.getD j opR).o ∧ ∀ f ∈ (os.getD j opR).fs, FitF f
theorem oR_some (o : OpR) {i : Nat} (hi : i < 11) : ∃ u, (o.cs)[i]? = some u := ⟨_, List.getElem?_eq_getElem (by simp [OpR.cs]; omega)⟩
theorem SFIn.below {w w' : World} {ao : Option Addr} {n : Nat} {os : List OpR} (h : SFIn w ao n os) (hb : Below w.heap.size w w') : SFIn w' ao n os :=
  ⟨h.len, h.here.imp id (fun ⟨b, off, e, hc⟩ => ⟨b, off, e, fun j hj i hi => by
    obtain ⟨u, hu⟩ := oR_some (os.getD j opR) hi
    have := hc j hj i hi
    rw [hu] at this ⊢
    exact cell_later hb this⟩), fun j hj => (h.rows j hj).below hb, h.room, h.fit⟩
theorem SFIn.cells {w : World} {b off n : Nat} {os : List OpR} (h : SFIn w (some ⟨b, off, none⟩) n os) {j : Nat} (hj : j < n) {o : OpR} (ho : os.getD j opR = o) :
    w.cell? ⟨b, off + j * 11, none⟩ = some (.int .i64 o.o.kind) ∧ w.cell? ⟨b, off + j * 11 + 1, none⟩ = some (.int .i64 o.o.f.p) ∧ w.cell? ⟨b, off + j * 11 + 2, none⟩ = some (.int .u32 o.o.f.s) ∧ w.cell? ⟨b, off + j * 11 + 3, none⟩ = some (.int .i64 o.o.f.sp) ∧ w.cell? ⟨b, off + j * 11 + 4, none⟩ = some (.int .u32 o.o.f.d) ∧ w.cell? ⟨b, off + j * 11 + 5, none⟩ = some (.int .i64 o.o.f.dp) ∧ w.cell? ⟨b, off + j * 11 + 6, none⟩ = some (.slice o.a o.n o.c) ∧ w.cell? ⟨b, off + j * 11 + 7, none⟩ = some (.int .u32 o.o.dip) ∧ w.cell? ⟨b, off + j * 11 + 8, none⟩ = some (.int .i64 o.o.ep) ∧ w.cell? ⟨b, off + j * 11 + 9, none⟩ = some (.int .i64 o.o.flags) ∧ w.cell? ⟨b, off + j * 11 + 10, none⟩ = some (.int .i64 o.o.now) := by
  subst ho
  rcases h.here with h0 | ⟨b', off', e, hc⟩
  · omega
  · cases e
    exact ⟨hc j hj 0 (by omega), hc j hj 1 (by omega), hc j hj 2 (by omega), hc j hj 3 (by omega), hc j hj 4 (by omega), hc j hj 5 (by omega), hc j hj 6 (by omega), hc j hj 7 (by omega), hc j hj 8 (by omega), hc j hj 9 (by omega), hc j hj 10 (by omega)⟩
theorem SFIn.block {w : World} {n : Nat} {ao : Option Addr} {os : List OpR} (h : SFIn w ao n os) (hn : 0 < n) : ∃ b off, ao = some ⟨b, off, none⟩ := by
  rcases h.here with h0 | ⟨b, off, e, _⟩
  · omega
  · exact ⟨b, off, e⟩
/-- What long answers. -/
def LongF (w : World) (n : Nat) (os : List OpR) (e : Ending) (w' : World) : Prop := ∃ z, e = .returned (.bool z) ∧ Below w.heap.size w w' ∧ (z = false → n ≤ 400 ∧ ∀ j, j < n → (os.getD j opR).n ≤ 400)
set_option maxRecDepth 100000 in
set_option maxHeartbeats 1000000 in
theorem longF_t (ao : Option Addr) (n c : Nat) (os : List OpR) (w : World) (hI : SFIn w ao n os) (hn : n ≤ 1152921504606846976) (hl : ∀ j, j < n → (os.getD j opR).n ≤ 1152921504606846976) :
    Calls Try.prog 11 #[.slice ao n c] w (LongF w n os) := by
  have HI := Lib.hid hI
  have HL := Lib.hid hl
  have HB0 := Lib.hid (Below.refl w.heap.size w)
  have F0 : Hid (∀ i, i < 0 → (os.getD i opR).n ≤ 400) := Lib.hid (fun i hi => absurd hi (by omega))
  clear hI hl
  go_enter Try.func11, Try.ntmps11
  go_wp2
  go_loopw [3, 8] (fun t i wr => ∃ j s : Nat, j ≤ n ∧ i = .int .i64 j ∧ t = .int .i64 s ∧ s ≤ 400 ∧ j ≤ s ∧ Hid (∀ i, i < j → (os.getD i opR).n ≤ 400) ∧ Hid (Below w.heap.size w wr)) (fun _ i _ => n - (intOf i).toNat)
  case atStart => exact ⟨0, 0, by omega, rfl, rfl, by omega, by omega, F0, HB0⟩
  case round =>
    obtain ⟨j, s, hj, rfl, rfl, hs, hjs, HF, HB⟩ := hrel
    clear F0 HB0
    by_cases hlj : j < n
    · have hIr := HI.out.below HB.out
      obtain ⟨b, off, rfl⟩ := hIr.block (by omega)
      obtain ⟨o, ho⟩ : ∃ o, o = os.getD j opR := ⟨_, rfl⟩
      obtain ⟨e0, e1, e2, e3, e4, e5, e6, e7, e8, e9, e10⟩ := hIr.cells hlj ho.symm
      have hll := HL.out j hlj
      rw [← ho] at hll
      have HHO := Lib.hid ho
      obtain ⟨X, hX⟩ : ∃ X, X = wr.alloc (.cells (o.o.cells o.a o.n o.c) tyO) := ⟨_, rfl⟩
      have hox : BxO X wr.heap.size o.o o.a o.n o.c := by rw [hX]; exact BxO.new wr o.o o.a o.n o.c
      have hbX : Below wr.heap.size wr X := by rw [hX]; exact bl_al (Below.refl _ _) _
      obtain ⟨q, hq⟩ : ∃ q, q = wr.heap.size := ⟨_, rfl⟩
      rw [← hq] at hox
      obtain ⟨_, _, _, _, _, _, c5, _⟩ := hox.cs
      obtain ⟨oo, ra, rn, rc, fs⟩ := o
      simp only at e0 e1 e2 e3 e4 e5 e6 e7 e8 e9 e10 c5 hll
      have ilj : (j : Int) < (n : Int) := by omega
      have j0 : (0 : Int) ≤ (j : Int) := by omega
      have HBX := Lib.hid (HB.out.trans (hbX.mono HB.out.size))
      obtain ⟨T, hT⟩ : ∃ T : Nat, T = s + (1 + rn) := ⟨_, rfl⟩
      have HX := Lib.hid (show X = wr.alloc (.cells (oo.cells ra rn rc) tyO) from hX)
      have HQ := Lib.hid hq
      have HT := Lib.hid hT
      clear hIr ho hX hox hbX hq hT
      go_upto_region 5 with fail
      rw [← HX.out, ← HQ.out]
      clear HX HQ e0 e1 e2 e3 e4 e5 e6 e7 e8 e9 e10
      go_upto_region 6 with fail
      rw [show (s : Int) + (1 + (rn : Int)) = (T : Int) by have := HT.out; omega]
      clear c5
      have hTj : j + 1 ≤ T := by have := HT.out; omega
      have HFT : Hid (T ≤ 400 → (os.getD j opR).n ≤ 400) := Lib.hid (fun h => by
        rw [← HHO.out]
        have := HT.out
        show rn ≤ 400
        omega)
      by_cases hg : 400 < T
      · have ig : (400 : Int) < (T : Int) := by omega
        clear hg
        go_wp2
        go_ret
        exact ⟨true, rfl, HBX.out, fun h => by cases h⟩
      · have ig : ¬ ((400 : Int) < (T : Int)) := by omega
        have hT16 : T ≤ 400 := by omega
        have HF2 : Hid (∀ i, i < j + 1 → (os.getD i opR).n ≤ 400) := Lib.hid (fun i hi => by
          rcases Nat.lt_or_ge i j with h | h
          · exact HF.out i h
          · rw [show i = j by omega]
            exact HFT.out hT16)
        clear hg
        go_wp2
        go_roundw
        case rel => exact ⟨j + 1, T, by omega, by go_num, rfl, hT16, hTj, HF2, HBX⟩
        case measure => simp [intOf]; omega
    · have ilj : ¬ ((j : Int) < (n : Int)) := by omega
      have HN : Hid (n ≤ 400) := Lib.hid (by omega)
      have HJN : Hid (j = n) := Lib.hid (by omega)
      clear hlj
      go_wp2
      go_ret
      exact ⟨false, rfl, HB.out, fun _ => ⟨HN.out, fun i hi => HF.out i (by rw [HJN.out]; exact hi)⟩⟩
end Go.Proofs.Ytbecilepgphpbaa
namespace Go.Proofs.Ytbecilepgphpbaa
open Go Go.RowKit Go.ChangeShapes Go.WideShapes Go.Deep
set_option linter.unusedVariables false
set_option linter.unusedSimpArgs false
def FRow (W : World) (p : Addr) (f : Fl) : Prop := (∀ i, i < 5 → W.cell? (p.add i) = (csF f)[i]?) ∧ FitF f
set_option maxRecDepth 100000 in
theorem open_flow5 {H : Type} {enc : TypeId × Value → H} {W : World} {p : Addr} {cs : List Value} {n : Nat} {d : DataW H} {pl : List MemPlace} (h1 : W.cells? 0 p 5 = some cs) (h2 : DataW.trod enc Try.prog W 0 (fun _ => true) true n 38 cs = some (d, pl)) : ∃ f, FRow W p f := by
  obtain ⟨_, hlen, hc⟩ := World.cells?_some h1
  match cs, hlen with
  | [c0, c1, c2, c3, c4], _ =>
    obtain ⟨f, e3, e4, e5, e6, e7, hT⟩ := open_flowc h2
    subst e3 e4 e5 e6 e7
    refine ⟨f, fun i hi => ?_, hT⟩
    rw [hc i (by simpa using hi)]
    rfl
set_option maxRecDepth 100000 in
theorem open_flows1 {H : Type} {enc : TypeId × Value → H} {W : World} {v : Value} {fuel : Nat} {x : DataW H × List MemPlace} (hf : DataW.trod enc Try.prog W 0 (fun _ => true) true fuel 39 [v] = some x) (hw : (x.1.weights Try.prog 39).all (· ≤ reachBytes) = true) :
    ∃ a n cap fs, v = .slice a n cap ∧ InF W a n fs ∧ n ≤ cap ∧ (a = none → n = 0 ∧ cap = 0) ∧ (∀ f ∈ fs, FitF f) ∧ n ≤ 1152921504606846976 := by
  rcases open_slice Try.underlying39 hf with ⟨hcs, hx⟩ | ⟨a, len, cap, m, n, D, Pl, hcs, _, hl, hm, hmm, hx, hi⟩
  · simp only [List.cons.injEq, and_true] at hcs
    subst hcs
    exact ⟨none, 0, 0, [], rfl, ⟨rfl, .inl rfl⟩, Nat.le_refl _, fun _ => ⟨rfl, rfl⟩, (fun e he => by cases he), Nat.zero_le _⟩
  · simp only [List.cons.injEq, and_true] at hcs
    subst hcs
    simp only [if_true] at hmm
    subst hmm
    rw [hx] at hw
    simp only [DataW.weights, Try.underlying39, List.all_cons, List.all_append, Bool.and_eq_true] at hw
    have h1 := of_decide_eq_true hw.1
    rw [bytesFl, List.length_map, List.length_range] at h1
    rw [cellsFl] at hi
    obtain ⟨L, hL⟩ := choose_lt (n := len) (α := Fl) (p := fun i e => FRow W (a.add (i * 5)) e) (fun i hil => by
      obtain ⟨cs', k1, k2⟩ := hi i (by omega)
      exact open_flow5 k1 k2)
    have hg : ∀ j, j < len → ((List.range len).map L).getD j fl0 = L j := fun j hj => getD_range L fl0 hj
    refine ⟨some a, len, m, (List.range len).map L, rfl, ⟨by simp, ?_⟩, hl, (fun e => by cases e), fun e he => ?_, ?_⟩
    · rcases Nat.eq_zero_or_pos len with h0 | h0
      · subst h0
        exact .inl rfl
      · have hz := (hL 0 h0).1 0 (by omega)
        have ha0 : a.add (0 * 5) = a := by simp [Addr.add]
        rw [ha0] at hz
        have hz2 : W.cell? (a.add 0) = some (.int .i64 (L 0).p) := hz
        have ha := plain_of hz2
        refine .inr ⟨a.block, a.off, by rw [← ha], fun j hj => flIn_of (fun i hi2 => ?_)⟩
        have hjl : j < len := by simpa using hj
        have hc := (hL j hjl).1 i hi2
        rw [ha, Go.WideShapes.add_plain, Go.WideShapes.add_plain] at hc
        rw [hg j hjl]
        exact hc
    · obtain ⟨i, hil, rfl⟩ := List.mem_map.1 he
      exact (hL i (List.mem_range.1 hil)).2
    · unfold reachBytes at h1
      omega
set_option maxRecDepth 100000 in
theorem open_flows {H : Type} {enc : TypeId × Value → H} {W : World} {v : Value} {d : DataW H} {p : List MemPlace} {r : Reach} {b0 : Nat}
    (hv : Value.okWide Try.prog W r b0 39 v) (h : DataW.Trod enc Try.prog W 0 (fun _ => true) true 39 v d p) (hw : (d.weights Try.prog 39).all (· ≤ reachBytes) = true) :
    ∃ a n cap fs, v = .slice a n cap ∧ InF W a n fs ∧ n ≤ cap ∧ (a = none → n = 0 ∧ cap = 0) ∧ (∀ f ∈ fs, FitF f) ∧ n ≤ 1152921504606846976 := by
  obtain ⟨a, n, cap, rfl⟩ := okWide_slice Try.underlying39 hv
  obtain ⟨fuel, hf⟩ := h
  exact open_flows1 (x := (d, p)) (by simpa [Value.cells] using hf) hw
/-- What an operation that came in keeps to. -/
def OpOk (W : World) (o : OpR) : Prop := InF W o.a o.n o.fs ∧ (o.n ≤ o.c ∧ (o.a = none → o.n = 0 ∧ o.c = 0)) ∧ o.n ≤ 1152921504606846976 ∧ FitO o.o ∧ ∀ f ∈ o.fs, FitF f
set_option maxRecDepth 100000 in
theorem open_opc {H : Type} {enc : TypeId × Value → H} {W : World} {n : Nat} {c0 c1 c2 c3 c4 c5 c6 c7 c8 c9 c10 : Value} {d : DataW H} {pl : List MemPlace} (h2 : DataW.trod enc Try.prog W 0 (fun _ => true) true n 41 [c0, c1, c2, c3, c4, c5, c6, c7, c8, c9, c10] = some (d, pl)) (hw : (d.weights Try.prog 41).all (· ≤ reachBytes) = true) : ∃ o : OpR, [c0, c1, c2, c3, c4, c5, c6, c7, c8, c9, c10] = o.cs ∧ OpOk W o := by
  obtain ⟨xs, n', _, hx, _, hxl, hg⟩ := DataW.trod_struct Try.underlying41 h2
  match xs, hxl with
  | [y0, y1, y2, y3, y4, y5, y6], _ =>
    have g0 : DataW.trod enc Try.prog W 0 (fun _ => true) true n' 3 [c0] = some y0 := by simpa [Value.cells, cells3, cells23, cellsFl, cellsFs] using hg 0 _ rfl
    have g1 : DataW.trod enc Try.prog W 0 (fun _ => true) true n' 38 [c1, c2, c3, c4, c5] = some y1 := by simpa [Value.cells, cells3, cells23, cellsFl, cellsFs] using hg 1 _ rfl
    have g2 : DataW.trod enc Try.prog W 0 (fun _ => true) true n' 39 [c6] = some y2 := by simpa [Value.cells, cells3, cells23, cellsFl, cellsFs] using hg 2 _ rfl
    have g3 : DataW.trod enc Try.prog W 0 (fun _ => true) true n' 36 [c7] = some y3 := by simpa [Value.cells, cells3, cells23, cellsFl, cellsFs] using hg 3 _ rfl
    have g4 : DataW.trod enc Try.prog W 0 (fun _ => true) true n' 3 [c8] = some y4 := by simpa [Value.cells, cells3, cells23, cellsFl, cellsFs] using hg 4 _ rfl
    have g5 : DataW.trod enc Try.prog W 0 (fun _ => true) true n' 3 [c9] = some y5 := by simpa [Value.cells, cells3, cells23, cellsFl, cellsFs] using hg 5 _ rfl
    have g6 : DataW.trod enc Try.prog W 0 (fun _ => true) true n' 3 [c10] = some y6 := by simpa [Value.cells, cells3, cells23, cellsFl, cellsFs] using hg 6 _ rfl
    have hd : d = .agg ([y0, y1, y2, y3, y4, y5, y6].map (·.1)) := by
      simp only [Prod.mk.injEq] at hx
      exact hx.1
    rw [hd] at hw
    simp only [DataW.weights, Try.underlying41] at hw
    have hw5 := weights_at (j := 2) (t := 39) (d := y2.1) hw rfl rfl
    obtain ⟨z0, e0, _, w0⟩ := DataW.trod_int Try.underlying3 g0
    obtain ⟨f, f0, f1, f2, f3, f4, hT⟩ := open_flowc g1
    obtain ⟨a, k, c, fs, e2, hI, hkc, hka, hff, hk⟩ := open_flows1 g2 hw5
    obtain ⟨z3, e3, _, w3⟩ := DataW.trod_int Try.underlying36 g3
    obtain ⟨z4, e4, _, w4⟩ := DataW.trod_int Try.underlying3 g4
    obtain ⟨z5, e5, _, w5⟩ := DataW.trod_int Try.underlying3 g5
    obtain ⟨z6, e6, _, w6⟩ := DataW.trod_int Try.underlying3 g6
    simp only [List.cons.injEq, and_true] at e0 e3 e4 e5 e6
    subst e0 f0 f1 f2 f3 f4 e2 e3 e4 e5 e6
    exact ⟨⟨⟨z0, f, z3, z4, z5, z6⟩, a, k, c, fs⟩, rfl, hI, ⟨hkc, hka⟩, hk, ⟨inN_of w0, hT, u32_of w3, inN_of w4, inN_of w5, inN_of w6⟩, hff⟩
set_option maxRecDepth 100000 in
theorem open_op {H : Type} {enc : TypeId × Value → H} {W : World} {p : Addr} {cs : List Value} {n : Nat} {d : DataW H} {pl : List MemPlace} (h1 : W.cells? 0 p 11 = some cs) (h2 : DataW.trod enc Try.prog W 0 (fun _ => true) true n 41 cs = some (d, pl)) (hw : (d.weights Try.prog 41).all (· ≤ reachBytes) = true) : ∃ o : OpR, (∀ i, i < 11 → W.cell? (p.add i) = (o.cs)[i]?) ∧ OpOk W o := by
  obtain ⟨_, hlen, hc⟩ := World.cells?_some h1
  match cs, hlen with
  | [c0, c1, c2, c3, c4, c5, c6, c7, c8, c9, c10], _ =>
    obtain ⟨o, ho, hO⟩ := open_opc h2 hw
    refine ⟨o, fun i hi => ?_, hO⟩
    rw [hc i (by simpa using hi), ho]
set_option maxRecDepth 100000 in
theorem open_opv {H : Type} {enc : TypeId × Value → H} {W : World} {r : Reach} {b0 : Nat} {v : Value} {d : DataW H} {ps : List MemPlace}
    (hv : Value.okWide Try.prog W r b0 41 v) (h : DataW.Trod enc Try.prog W 0 (fun _ => true) true 41 v d ps) (hw : (d.weights Try.prog 41).all (· ≤ reachBytes) = true) :
    ∃ o : OpR, v = o.o.val o.a o.n o.c ∧ OpOk W o := by
  obtain ⟨⟨l⟩, rfl, hsz⟩ := okWide_struct Try.underlying41 hv
  rw [cellsOp] at hsz
  obtain ⟨fuel, hf⟩ := h
  match l, hsz with
  | [c0, c1, c2, c3, c4, c5, c6, c7, c8, c9, c10], _ =>
    obtain ⟨o, ho, hO⟩ := open_opc (d := d) (pl := ps) (by simpa [Value.cells] using hf) hw
    refine ⟨o, ?_, hO⟩
    rw [ho]
    rfl
set_option maxRecDepth 100000 in
theorem open_script1 {H : Type} {enc : TypeId × Value → H} {W : World} {v : Value} {fuel : Nat} {x : DataW H × List MemPlace} (hf : DataW.trod enc Try.prog W 0 (fun _ => true) true fuel 22 [v] = some x) (hw : (x.1.weights Try.prog 22).all (· ≤ reachBytes) = true) :
    ∃ a n cap os, v = .slice a n cap ∧ SFIn W a n os ∧ n ≤ 1152921504606846976 ∧ ∀ j, j < n → (os.getD j opR).n ≤ 1152921504606846976 := by
  rcases open_slice Try.underlying22 hf with ⟨hcs, hx⟩ | ⟨a, len, cap, m, n, D, Pl, hcs, _, hl, hm, hmm, hx, hi⟩
  · simp only [List.cons.injEq, and_true] at hcs
    subst hcs
    exact ⟨none, 0, 0, [], rfl, ⟨rfl, .inl rfl, fun j hj => absurd hj (by omega), fun j hj => absurd hj (by omega), fun j hj => absurd hj (by omega)⟩, Nat.zero_le _, fun j hj => absurd hj (by omega)⟩
  · simp only [List.cons.injEq, and_true] at hcs
    subst hcs
    simp only [if_true] at hmm
    subst hmm
    rw [hx] at hw
    simp only [DataW.weights, Try.underlying22, List.all_cons, List.all_append, Bool.and_eq_true] at hw
    have h1 := of_decide_eq_true hw.1
    rw [bytesOp, List.length_map, List.length_range] at h1
    have hD := weightsAll_at hw.2.1
    rw [cellsOp] at hi
    obtain ⟨L, hL⟩ := choose_lt (n := len) (α := OpR) (p := fun i o => (∀ k, k < 11 → W.cell? ((a.add (i * 11)).add k) = (o.cs)[k]?) ∧ OpOk W o) (fun i hil => by
      obtain ⟨cs', k1, k2⟩ := hi i (by omega)
      exact open_op k1 k2 (hD (D i) (List.mem_map.2 ⟨i, List.mem_range.2 hil, rfl⟩)))
    have hg : ∀ j, j < len → ((List.range len).map L).getD j opR = L j := fun j hj => getD_range L opR hj
    refine ⟨some a, len, m, (List.range len).map L, rfl, ⟨by simp, ?_, fun j hj => by rw [hg j hj]; exact (hL j hj).2.1, fun j hj => by rw [hg j hj]; exact (hL j hj).2.2.1, fun j hj => by rw [hg j hj]; exact (hL j hj).2.2.2.2⟩, ?_, fun j hj => by
      rw [hg j hj]
      exact (hL j hj).2.2.2.1⟩
    · rcases Nat.eq_zero_or_pos len with h0 | h0
      · exact .inl h0
      · have hz := (hL 0 h0).1 0 (by omega)
        have ha0 : a.add (0 * 11) = a := by simp [Addr.add]
        rw [ha0] at hz
        have hz2 : W.cell? (a.add 0) = some (.int .i64 (L 0).o.kind) := hz
        have ha := plain_of hz2
        refine .inr ⟨a.block, a.off, by rw [← ha], fun j hj i hi2 => ?_⟩
        have hc := (hL j hj).1 i hi2
        rw [ha, Go.WideShapes.add_plain, Go.WideShapes.add_plain] at hc
        rw [hg j hj]
        exact hc
    · unfold reachBytes at h1
      omega
set_option maxRecDepth 100000 in
theorem open_script {H : Type} {enc : TypeId × Value → H} {W : World} {v : Value} {d : DataW H} {p : List MemPlace} {r : Reach} {b0 : Nat}
    (hv : Value.okWide Try.prog W r b0 22 v) (h : DataW.Trod enc Try.prog W 0 (fun _ => true) true 22 v d p) (hw : (d.weights Try.prog 22).all (· ≤ reachBytes) = true) :
    ∃ a n cap os, v = .slice a n cap ∧ SFIn W a n os ∧ n ≤ 1152921504606846976 ∧ ∀ j, j < n → (os.getD j opR).n ≤ 1152921504606846976 := by
  obtain ⟨a, n, cap, rfl⟩ := okWide_slice Try.underlying22 hv
  obtain ⟨fuel, hf⟩ := h
  exact open_script1 (x := (d, p)) (by simpa [Value.cells] using hf) hw
set_option maxRecDepth 100000 in
theorem open_quotas {H : Type} {enc : TypeId × Value → H} {W : World} {r : Reach} {b0 : Nat} {v : Value} {d : DataW H} {ps : List MemPlace}
    (hv : Value.okWide Try.prog W r b0 62 v) (h : DataW.Trod enc Try.prog W 0 (fun _ => true) true 62 v d ps) (hw : (d.weights Try.prog 62).all (· ≤ reachBytes) = true) :
    ∃ (qt qu : Int) (a : Option Addr) (n c : Nat) (os : List OpR), v = .agg #[.int .i64 qt, .int .i64 qu, .slice a n c] ∧ InN qt ∧ InN qu ∧ SFIn W a n os ∧ n ≤ 1152921504606846976 ∧ ∀ j, j < n → (os.getD j opR).n ≤ 1152921504606846976 := by
  obtain ⟨⟨l⟩, rfl, hsz⟩ := okWide_struct Try.underlying62 hv
  rw [cellsQu] at hsz
  obtain ⟨fuel, hf⟩ := h
  obtain ⟨xs, n, _, hx, _, hlen, hg⟩ := DataW.trod_struct Try.underlying62 hf
  match l, hsz with
  | [c0, c1, c2], _ =>
    match xs, hlen with
    | [y0, y1, y2], _ =>
      have g0 : DataW.trod enc Try.prog W 0 (fun _ => true) true n 3 [c0] = some y0 := by simpa [Value.cells, cells3, cellsSc] using hg 0 _ rfl
      have g1 : DataW.trod enc Try.prog W 0 (fun _ => true) true n 3 [c1] = some y1 := by simpa [Value.cells, cells3, cellsSc] using hg 1 _ rfl
      have g2 : DataW.trod enc Try.prog W 0 (fun _ => true) true n 22 [c2] = some y2 := by simpa [Value.cells, cells3, cellsSc] using hg 2 _ rfl
      have hd : d = .agg ([y0, y1, y2].map (·.1)) := by
        simp only [Prod.mk.injEq] at hx
        exact hx.1
      rw [hd] at hw
      simp only [DataW.weights, Try.underlying62] at hw
      have hw5 := weights_at (j := 2) (t := 22) (d := y2.1) hw rfl rfl
      obtain ⟨z0, e0, _, w0⟩ := DataW.trod_int Try.underlying3 g0
      obtain ⟨z1, e1, _, w1⟩ := DataW.trod_int Try.underlying3 g1
      obtain ⟨a, k, c, os, e2, hI, hk, hl⟩ := open_script1 g2 hw5
      simp only [List.cons.injEq, and_true] at e0 e1
      subst e0 e1 e2
      exact ⟨z0, z1, a, k, c, os, rfl, inN_of w0, inN_of w1, hI, hk, hl⟩
end Go.Proofs.Ytbecilepgphpbaa
