/- From the guide's word for arguments to strings, rows of bytes and pairs of both in memory. No conditions. -/
import Derived.Test.YtpbgccidhpfmgaaSnT
import Derived.OpenShut
import Derived.SizedLaws
import Derived.Lib.SmallJoins
import Derived.Deep.Slices
import Derived.Deep.Strs
import Derived.ChangeMaps5
namespace Go.Proofs.Ytpbgccidhpfmgaa
open Go Go.RowKit Go.ChangeShapes Go.WideShapes Go.Deep
set_option linter.unusedVariables false
set_option linter.unusedSimpArgs false

theorem weights_at {H : Type} {P : Program} : ∀ {ts : List TypeId} {ds : List (DataW H)}, (DataW.weightsEach P ts ds).all (· ≤ reachBytes) = true → ∀ {j : Nat} {t : TypeId} {d : DataW H}, ts[j]? = some t → ds[j]? = some d → (d.weights P t).all (· ≤ reachBytes) = true
  | [], _, _, _, _, _, ht, _ => by simp at ht
  | _ :: _, [], _, _, _, _, _, hd => by simp at hd
  | t0 :: ts, d0 :: ds, h, 0, t, d, ht, hd => by
    simp only [List.getElem?_cons_zero, Option.some.injEq] at ht hd
    subst ht hd
    rw [DataW.weightsEach, List.all_append, Bool.and_eq_true] at h
    exact h.1
  | t0 :: ts, d0 :: ds, h, j + 1, t, d, ht, hd => by
    simp only [List.getElem?_cons_succ] at ht hd
    rw [DataW.weightsEach, List.all_append, Bool.and_eq_true] at h
    exact weights_at h.2 ht hd
theorem weightsAll_at {H : Type} {P : Program} {e : TypeId} : ∀ {ds : List (DataW H)}, (DataW.weightsAll P e ds).all (· ≤ reachBytes) = true → ∀ d ∈ ds, (d.weights P e).all (· ≤ reachBytes) = true
  | [], _, d, hd => by cases hd
  | d0 :: ds, h, d, hd => by
    rw [DataW.weightsAll, List.all_append, Bool.and_eq_true] at h
    rcases List.mem_cons.1 hd with rfl | hd
    · exact h.1
    · exact weightsAll_at h.2 d hd
theorem plain_of {w : World} {a : Addr} {v : Value} (h : w.cell? (a.add 0) = some v) : a = ⟨a.block, a.off, none⟩ := by
  obtain ⟨b, off, spot⟩ := a
  have hspot : spot = none := by simpa [Addr.add] using World.cell?_spot h
  subst hspot
  rfl
theorem bytes5 : Try.prog.bytesOf 5 = 1 := by kernel_rfl
theorem at_of_row {w : World} {a : Option Addr} {len cap : Nat} {zs : List Int} (h : (a = none ∧ len = 0 ∧ cap = 0 ∧ zs = []) ∨ ∃ x, a = some x ∧ len ≤ cap ∧ cap ≤ maxLen ∧ zs.length = cap ∧ (∀ i, i < zs.length → w.cell? (x.add i) = some (.int .u8 (zs.getD i 0))) ∧ ∀ n ∈ zs, (Lit.int .u8 n).wf = true) :
    ∃ l : List Int, In w a len cap l ∧ l = zs.take len := by
  rcases h with ⟨rfl, rfl, rfl, rfl⟩ | ⟨x, rfl, h1, h2, h3, h4, h5⟩
  · exact ⟨[], ⟨rfl, Nat.le_refl _, fun _ => rfl, At.nil w none 0, by intro b hb; cases hb⟩, rfl⟩
  · have hl : (zs.take len).length = len := by rw [List.length_take]; omega
    refine ⟨zs.take len, ⟨hl, h1, (fun e => by cases e), ⟨some x, cap, by rw [hl], ?_⟩, ?_⟩, rfl⟩
    · by_cases h0 : len = 0
      · subst h0
        exact .inl rfl
      · obtain ⟨b, off, rfl, hc⟩ := ints_at h4 (by omega)
        refine .inr ⟨b, off, rfl, fun j hj => ?_⟩
        rw [hl] at hj
        rw [hc j (by omega), List.getD_eq_getElem?_getD, List.getD_eq_getElem?_getD, List.getElem?_take, if_pos hj]
    · intro n hn
      have := h5 n (List.mem_of_mem_take hn)
      have e : 0 ≤ n ∧ n ≤ 255 := by simpa [Lit.wf, IntKind.min, IntKind.max, IntKind.signed, IntKind.bits] using this
      omega
/-- A row's cell. -/
theorem open_row1 {H : Type} {enc : TypeId × Value → H} {W : World} {v : Value} {fuel : Nat} {x : DataW H × List MemPlace} (hf : DataW.trod enc Try.prog W 0 (fun _ => true) true fuel 74 [v] = some x) (hw : (x.1.weights Try.prog 74).all (· ≤ reachBytes) = true) :
    ∃ a n cap l, v = .slice a n cap ∧ In W a n cap l ∧ n ≤ 140737488351232 := by
  rcases open_ints Try.underlying74 Try.underlying5 (by kernel_rfl) hf with ⟨hcs, hx⟩ | ⟨y, n, cap, zs, hcs, _, hl, hm, hz, hx, hcell, hwz⟩
  · simp only [List.cons.injEq, and_true] at hcs
    subst hcs
    exact ⟨none, 0, 0, [], rfl, ⟨rfl, Nat.le_refl _, fun _ => rfl, At.nil _ _ _, by intro b hb; cases hb⟩, Nat.zero_le _⟩
  · simp only [List.cons.injEq, and_true] at hcs
    subst hcs
    simp only [if_true] at hz
    obtain ⟨l, hI, _⟩ := at_of_row (w := W) (.inr ⟨y, rfl, hl, hm, hz, hcell, hwz⟩)
    refine ⟨_, n, cap, l, rfl, hI, ?_⟩
    have e : x.1 = .slice (lits .u8 (zs.take n)) (lits .u8 (zs.drop n)) := by rw [hx]
    rw [e] at hw
    simp only [DataW.weights, Try.underlying74, List.all_cons, Bool.and_eq_true] at hw
    have h1 := of_decide_eq_true hw.1
    rw [bytes5] at h1
    have h2 : (lits (H := H) .u8 (zs.take n)).length = n := by simp only [lits, List.length_map, List.length_take]; omega
    rw [h2] at h1
    unfold reachBytes at h1
    omega
theorem getD_range {α : Type} (f : Nat → α) (d : α) {n j : Nat} (hj : j < n) : ((List.range n).map f).getD j d = f j := by
  rw [List.getD_eq_getElem?_getD, List.getElem?_map, List.getElem?_range hj]
  rfl
theorem cells74 : Try.prog.cellsOf 74 = 1 := by kernel_rfl
theorem cells9 : Try.prog.cellsOf 9 = 1 := by kernel_rfl
theorem sv_of (s : ByteArray) (h : s.size ≤ maxLen) : ∃ k : Ky, Value.string s = sv k ∧ k.length ≤ maxLen :=
  ⟨s.data.toList, by simp [sv], by rw [Array.length_toList]; exact h⟩
set_option maxRecDepth 100000 in
theorem open_str {H : Type} {enc : TypeId × Value → H} {W : World} {r : Reach} {b0 : Nat} {v : Value} {d : DataW H} {ps : List MemPlace}
    (hv : Value.okWide Try.prog W r b0 9 v) (h : DataW.Trod enc Try.prog W 0 (fun _ => true) true 9 v d ps) : ∃ k : Ky, v = sv k ∧ k.length ≤ maxLen := by
  obtain ⟨s, rfl, _, _, hs⟩ := Go.ChangeMaps.open_string Try.underlying9 hv h
  exact sv_of s hs
set_option maxRecDepth 100000 in
theorem open_byts {H : Type} {enc : TypeId × Value → H} {W : World} {v : Value} {d : DataW H} {p : List MemPlace} {r : Reach} {b0 : Nat}
    (hv : Value.okWide Try.prog W r b0 74 v) (h : DataW.Trod enc Try.prog W 0 (fun _ => true) true 74 v d p) (hw : (d.weights Try.prog 74).all (· ≤ reachBytes) = true) :
    ∃ a n cap l, v = .slice a n cap ∧ In W a n cap l ∧ n ≤ 140737488351232 := by
  obtain ⟨a, n, cap, rfl⟩ := okWide_slice Try.underlying74 hv
  obtain ⟨fuel, hf⟩ := h
  exact open_row1 (x := (d, p)) (by simpa [Value.cells] using hf) hw
theorem cellsTwo : Try.prog.cellsOf 101 = 4 := by kernel_rfl
set_option maxRecDepth 100000 in
theorem open_two {H : Type} {enc : TypeId × Value → H} {W : World} {r : Reach} {b0 : Nat} {v : Value} {d : DataW H} {ps : List MemPlace}
    (hv : Value.okWide Try.prog W r b0 101 v) (h : DataW.Trod enc Try.prog W 0 (fun _ => true) true 101 v d ps) (hw : (d.weights Try.prog 101).all (· ≤ reachBytes) = true) :
    ∃ (a b : Ky) (ax ay : Option Addr) (nx cx ny cy : Nat) (x y : List Int), v = .agg #[sv a, sv b, .slice ax nx cx, .slice ay ny cy] ∧ a.length ≤ maxLen ∧ b.length ≤ maxLen ∧ In W ax nx cx x ∧ In W ay ny cy y ∧ nx ≤ 140737488351232 ∧ ny ≤ 140737488351232 := by
  obtain ⟨⟨l⟩, rfl, hsz⟩ := okWide_struct Try.underlying101 hv
  rw [cellsTwo] at hsz
  obtain ⟨fuel, hf⟩ := h
  obtain ⟨xs, n, _, hx, _, hlen, hg⟩ := DataW.trod_struct Try.underlying101 hf
  match l, hsz with
  | [c0, c1, c2, c3], _ =>
    match xs, hlen with
    | [y0, y1, y2, y3], _ =>
      have g0 : DataW.trod enc Try.prog W 0 (fun _ => true) true n 9 [c0] = some y0 := by simpa [Value.cells, cells9, cells74] using hg 0 _ rfl
      have g1 : DataW.trod enc Try.prog W 0 (fun _ => true) true n 9 [c1] = some y1 := by simpa [Value.cells, cells9, cells74] using hg 1 _ rfl
      have g2 : DataW.trod enc Try.prog W 0 (fun _ => true) true n 74 [c2] = some y2 := by simpa [Value.cells, cells9, cells74] using hg 2 _ rfl
      have g3 : DataW.trod enc Try.prog W 0 (fun _ => true) true n 74 [c3] = some y3 := by simpa [Value.cells, cells9, cells74] using hg 3 _ rfl
      have hd : d = .agg ([y0, y1, y2, y3].map (·.1)) := by
        simp only [Prod.mk.injEq] at hx
        exact hx.1
      rw [hd] at hw
      simp only [DataW.weights, Try.underlying101] at hw
      have hw2 := weights_at (j := 2) (t := 74) (d := y2.1) hw rfl rfl
      have hw3 := weights_at (j := 3) (t := 74) (d := y3.1) hw rfl rfl
      obtain ⟨s0, e0, _, b0⟩ := DataW.trod_string Try.underlying9 g0
      obtain ⟨s1, e1, _, b1⟩ := DataW.trod_string Try.underlying9 g1
      obtain ⟨ax, nx, cx, x, e2, I2, B2⟩ := open_row1 g2 hw2
      obtain ⟨ay, ny, cy, y, e3, I3, B3⟩ := open_row1 g3 hw3
      obtain ⟨k0, f0, h0⟩ := sv_of s0 b0
      obtain ⟨k1, f1, h1⟩ := sv_of s1 b1
      simp only [List.cons.injEq, and_true] at e0 e1
      subst e0 e1 e2 e3
      rw [f0, f1]
      exact ⟨k0, k1, ax, ay, nx, cx, ny, cy, x, y, rfl, h0, h1, I2, I3, B2, B3⟩
set_option maxRecDepth 100000 in
theorem stableTwo_t (a b : Ky) (ax ay : Option Addr) (nx cx ny cy : Nat) (x y : List Int) (w : World) (hx : In w ax nx cx x) (hy : In w ay ny cy y) (ha : a.length ≤ maxLen) (hb : b.length ≤ maxLen) (hn : nx ≤ 140737488355328) (hn2 : ny ≤ 140737488355328) :
    Calls Try.prog 10 #[.agg #[sv a, sv b, .slice ax nx cx, .slice ay ny cy]] w fun e w' => e = .returned (.bool true) ∧ Below w.heap.size w w' := by
  have hal : Below w.heap.size w (w.alloc (.cells #[sv a, sv b, .slice ax nx cx, .slice ay ny cy] 101)) := bl_al (Below.refl _ _) _
  have CO := Lib.hid (order_t a b ax ay nx cx ny cy x y (w.alloc (.cells #[sv a, sv b, .slice ax nx cx, .slice ay ny cy] 101)) (hx.below hal) (hy.below hal) ha hb hn hn2)
  have HB := Lib.hid hal
  clear hx hy hal
  go_enter Try.func10, Try.ntmps10
  go_wp2_with fail
  refine CO.out.mono ?_
  rintro e w1 ⟨rfl, hb⟩
  have HB1 := Lib.hid (bl_tr HB.out hb)
  clear hb CO
  go_wp2
  go_ret
  exact ⟨rfl, HB1.out⟩
end Go.Proofs.Ytpbgccidhpfmgaa
