/- Ends: plainly, and in memory. No conditions but those stated. -/
import Derived.Test.YtnhnpfhfcbmmlaaHmR
import Derived.Test.YtnhnpfhfcbmmlaaRowI
import Derived.Test.YtnhnpfhfcbmmlaaTch
import Derived.Test.YtnhnpfhfcbmmlaaQStB
namespace Go.Proofs.Ytnhnpfhfcbmmlaa
open Go Go.RowKit
set_option linter.unusedVariables false
set_option linter.unusedSimpArgs false

structure En where
  dip : Int
  port : Int
  wt : Int
def en0 : En := ⟨0, 0, 0⟩
instance : Inhabited En := ⟨en0⟩
instance : DecidableEq En := fun a b => by
  cases a
  cases b
  simp only [En.mk.injEq]
  infer_instance
abbrev tyE : TypeId := 74
def En.cs (e : En) : List Value := [.int .u32 e.dip, .int .i64 e.port, .int .i64 e.wt]
abbrev En.val (e : En) : Value := .agg #[.int .u32 e.dip, .int .i64 e.port, .int .i64 e.wt]
def cellsE (es : List En) : List Value := es.flatMap En.cs
theorem cellsE_len (es : List En) : (cellsE es).length = es.length * 3 := by
  induction es with
  | nil => rfl
  | cons e es ih =>
    have : cellsE (e :: es) = e.cs ++ cellsE es := rfl
    rw [this, List.length_append, ih, List.length_cons]
    simp only [En.cs, List.length_cons, List.length_nil]
    omega
theorem cellsE_app (es fs : List En) : cellsE (es ++ fs) = cellsE es ++ cellsE fs := by unfold cellsE; rw [List.flatMap_append]
theorem cellsE_one (e : En) : cellsE [e] = e.cs := by simp [cellsE]
theorem cellsE_at : ∀ {es : List En} {j i : Nat}, j < es.length → i < 3 → (cellsE es)[j * 3 + i]? = ((es.getD j en0).cs)[i]?
  | [], j, i, hj, _ => by simp at hj
  | e :: es, 0, i, _, hi => by
    have : cellsE (e :: es) = e.cs ++ cellsE es := rfl
    rw [this, Nat.zero_mul, Nat.zero_add, List.getD_cons_zero]
    exact List.getElem?_append_left (by simp [En.cs]; omega)
  | e :: es, j + 1, i, hj, hi => by
    have h := cellsE_at (es := es) (j := j) (i := i) (by simpa using hj) hi
    have : cellsE (e :: es) = e.cs ++ cellsE es := rfl
    rw [this, List.getD_cons_succ, List.getElem?_append_right (by simp [En.cs]; omega), ← h]
    congr 1
    simp [En.cs]
    omega
theorem cellsE_take (es : List En) (j : Nat) : (cellsE es).take (j * 3) = cellsE (es.take j) := by
  induction es generalizing j with
  | nil => simp [cellsE]
  | cons e es ih =>
    cases j with
    | zero => simp [cellsE]
    | succ j =>
      have h1 : cellsE (e :: es) = e.cs ++ cellsE es := rfl
      have h2 : cellsE (e :: es.take j) = e.cs ++ cellsE (es.take j) := rfl
      rw [List.take_succ_cons, h1, h2, List.take_append, List.take_of_length_le (by simp [En.cs]; omega), ← ih]
      congr 2
      simp [En.cs]
      omega
theorem cellsE_one' (es : List En) : ∀ u ∈ cellsE es, u.oneCell' = true := by
  intro u hu
  unfold cellsE at hu
  obtain ⟨e, _, he⟩ := List.mem_flatMap.1 hu
  simp only [En.cs, List.mem_cons, List.not_mem_nil, or_false] at he
  rcases he with rfl | rfl | rfl <;> rfl
def TyEn (e : En) : Prop := (0 ≤ e.dip ∧ e.dip < 4294967296) ∧ (-9223372036854775808 ≤ e.port ∧ e.port ≤ 9223372036854775807) ∧ (-9223372036854775808 ≤ e.wt ∧ e.wt ≤ 9223372036854775807)
/-- A row of ends that came in. -/
structure InE (w : World) (a : Option Addr) (n cap : Nat) (es : List En) : Prop where
  len : es.length = n
  room : n ≤ cap
  none : a = Option.none → cap = 0
  here : es = [] ∨ ∃ b off, a = some ⟨b, off, .none⟩ ∧ ∀ t u, (cellsE es)[t]? = some u → w.cell? ⟨b, off + t, .none⟩ = some u
  typ : ∀ e ∈ es, TyEn e
theorem InE.below {w w' : World} {a : Option Addr} {n cap : Nat} {es : List En} (h : InE w a n cap es) (hb : Below w.heap.size w w') : InE w' a n cap es := by
  refine ⟨h.len, h.room, h.none, ?_, h.typ⟩
  rcases h.here with h0 | ⟨b, off, ha, hc⟩
  · exact .inl h0
  · exact .inr ⟨b, off, ha, fun t u hu => (hb.cell (p := ⟨b, off + t, .none⟩) (block_lt_of_cell (hc t u hu))).trans (hc t u hu)⟩
theorem InE.block {w : World} {a : Option Addr} {n c : Nat} {es : List En} (h : InE w a n c es) (hn : 0 < n) : ∃ b off, a = some ⟨b, off, .none⟩ := by
  rcases h.here with h0 | ⟨b, off, ha, _⟩
  · have := h.len; rw [h0] at this; simp at this; omega
  · exact ⟨b, off, ha⟩
theorem InE.cell {w : World} {b off n c : Nat} {es : List En} (h : InE w (some ⟨b, off, .none⟩) n c es) {j : Nat} (hj : j < n) : w.cell? ⟨b, off + j * 3, .none⟩ = some (.int .u32 (es.getD j en0).dip) ∧ w.cell? ⟨b, off + j * 3 + 1, .none⟩ = some (.int .i64 (es.getD j en0).port) ∧ w.cell? ⟨b, off + j * 3 + 2, .none⟩ = some (.int .i64 (es.getD j en0).wt) := by
  have hl := h.len
  rcases h.here with h0 | ⟨b', off', ha, hc⟩
  · rw [h0] at hl; simp at hl; omega
  · cases ha
    have h0 := hc (j * 3 + 0) _ (by rw [cellsE_at (by omega) (by omega)]; rfl)
    have h1 := hc (j * 3 + 1) _ (by rw [cellsE_at (by omega) (by omega)]; rfl)
    have h2 := hc (j * 3 + 2) _ (by rw [cellsE_at (by omega) (by omega)]; rfl)
    refine ⟨h0, ?_, ?_⟩
    · rw [Nat.add_assoc]; exact h1
    · rw [Nat.add_assoc]; exact h2
theorem InE.zero {w : World} {a : Option Addr} {n cap : Nat} {es : List En} (h : InE w a n cap es) : a = Option.none → n = 0 ∧ cap = 0 := fun e => by
  have h1 := h.none e
  have h2 := h.room
  exact ⟨by omega, h1⟩
/-- The cells that an append takes from it. -/
theorem InE.cells {w : World} {a : Option Addr} {n cap : Nat} {es : List En} (h : InE w a n cap es) : ∀ ad, a = some ad → ∀ j u, (cellsE es)[j]? = some u → w.cell? (ad.add j) = some u := by
  intro ad ha j u hu
  rcases h.here with h0 | ⟨b, off, ha', hc⟩
  · rw [h0] at hu; simp [cellsE] at hu
  · rw [ha] at ha'
    cases ha'
    rw [Go.WideShapes.add_plain]
    exact hc j u hu
theorem own_inE {w : World} {B n c : Nat} {ao : Option Addr} {es : List En} (h : w.ownsRow B tyE 3 (.slice ao n c) n (cellsE es)) (ht : ∀ e ∈ es, TyEn e) : InE w ao n c es := by
  have hl : es.length = n := by have := h.1; rw [cellsE_len] at this; omega
  rcases h.2 with ⟨e, h0⟩ | ⟨g, cap, cur, e, _, hg, h1, h2, h3, h4⟩
  · simp only [Value.slice.injEq] at e
    obtain ⟨rfl, rfl, rfl⟩ := e
    exact ⟨hl, Nat.le_refl _, fun _ => rfl, .inl (List.eq_nil_of_length_eq_zero hl), ht⟩
  · simp only [Value.slice.injEq] at e
    obtain ⟨rfl, _, rfl⟩ := e
    refine ⟨hl, h1, (fun e => by cases e), .inr ⟨g, 0, rfl, fun t u hu => ?_⟩, ht⟩
    rw [Nat.zero_add, cell_of_row w g t _ _ _ hg, ← Array.getElem?_toList]
    rw [← h4, List.getElem?_take] at hu
    split at hu
    · exact hu
    · cases hu
theorem InE.take {w : World} {a : Option Addr} {n cap : Nat} {es : List En} (h : InE w a n cap es) (k : Nat) (hk : k ≤ n) : InE w a k cap (es.take k) := by
  have hl := h.len
  refine ⟨by rw [List.length_take]; omega, Nat.le_trans hk h.room, h.none, ?_, fun e he => h.typ e (List.mem_of_mem_take he)⟩
  rcases h.here with h0 | ⟨b, off, ha, hc⟩
  · exact .inl (by rw [h0]; simp)
  · refine .inr ⟨b, off, ha, fun t u hu => ?_⟩
    rw [← cellsE_take, List.getElem?_take] at hu
    split at hu
    · exact hc t u hu
    · cases hu
/-- An end in form, ends in form. -/
def GoodE (e : En) : Prop := IsDip e.dip ∧ (0 ≤ e.port ∧ e.port ≤ 65535) ∧ (1 ≤ e.wt ∧ e.wt ≤ 16)
def OkE (es : List En) : Prop := es.length ≤ 64 ∧ (∀ e ∈ es, GoodE e) ∧ (es.map (·.dip)).Nodup
def PreE (es : List En) (i : Nat) : Prop := (∀ e ∈ es.take i, GoodE e) ∧ ((es.take i).map (·.dip)).Nodup
theorem take_moreE (es : List En) {i : Nat} (hi : i < es.length) : es.take (i + 1) = es.take i ++ [es.getD i en0] := take_more es en0 hi
theorem PreE.step {es : List En} {i : Nat} (h : PreE es i) (hi : i < es.length) (hg : GoodE (es.getD i en0)) (hn : (es.getD i en0).dip ∉ (es.take i).map (·.dip)) : PreE es (i + 1) := by
  constructor
  · intro e he
    rw [take_moreE es hi, List.mem_append, List.mem_singleton] at he
    rcases he with he | he
    · exact h.1 e he
    · rw [he]; exact hg
  · rw [take_moreE es hi, List.map_append, List.nodup_append]
    exact ⟨h.2, by simp, fun a ha b hb => by
      simp only [List.map_cons, List.map_nil, List.mem_singleton] at hb
      intro e
      exact hn (by rw [← hb, ← e]; exact ha)⟩
theorem memE {es : List En} {i : Nat} (hi : i < es.length) : es.getD i en0 ∈ es := by
  rw [List.getD_eq_getElem?_getD, List.getElem?_eq_getElem hi]
  exact List.getElem_mem _
theorem dup_not {es : List En} {i : Nat} (hi : i < es.length) (hd : (es.getD i en0).dip ∈ (es.take i).map (·.dip)) : ¬ OkE es := by
  rintro ⟨_, _, hn⟩
  have h2 : es.take i ++ es.drop i = es := List.take_append_drop i es
  rw [← h2, List.map_append, List.nodup_append] at hn
  have hm : es.getD i en0 ∈ es.drop i := by
    rw [List.drop_eq_getElem_cons hi, List.getD_eq_getElem?_getD, List.getElem?_eq_getElem hi]
    exact List.mem_cons_self
  exact hn.2.2 _ hd _ (List.mem_map.2 ⟨_, hm, rfl⟩) rfl
end Go.Proofs.Ytnhnpfhfcbmmlaa
