/- Rows of leases in memory; leases compared. No conditions but those stated. -/
import Derived.Test.YtanajblldlgalaaDoorLsP
import Derived.Test.YtanajblldlgalaaDoorRowI
import Derived.Test.YtanajblldlgalaaDoorQStB
import Derived.Deep.CutRange
import Derived.Deep.RegionHeld3
import Derived.Deep.RegionWith
namespace Go.Proofs.YtanajblldlgalaaDoor
open Go Go.RowKit
set_option linter.unusedVariables false
set_option linter.unusedSimpArgs false

abbrev tyL : TypeId := 30
theorem infoL : (Tryd.prog.info? 30).map (fun i => (i.zero, i.size, i.bytes)) = some (some (.agg #[.int .u32 0, .int .i64 0, .int .u32 0, .int .i64 0]), 4, 32) := by kernel_rfl
def Ls.cs (x : Ls) : List Value := [.int .u32 x.vip, .int .i64 x.first, .int .u32 x.dip, .int .i64 x.exp]
abbrev Ls.val (x : Ls) : Value := .agg #[.int .u32 x.vip, .int .i64 x.first, .int .u32 x.dip, .int .i64 x.exp]
abbrev Ls.obj (x : Ls) : Obj := .cells #[.int .u32 x.vip, .int .i64 x.first, .int .u32 x.dip, .int .i64 x.exp] tyL
def cellsL (l : List Ls) : List Value := l.flatMap Ls.cs
theorem cellsL_cons (e : Ls) (l : List Ls) : cellsL (e :: l) = e.cs ++ cellsL l := rfl
theorem cs_len (e : Ls) : e.cs.length = 4 := rfl
theorem cellsL_len (l : List Ls) : (cellsL l).length = l.length * 4 := by
  induction l with
  | nil => rfl
  | cons e l ih =>
    rw [cellsL_cons, List.length_append, ih, List.length_cons, cs_len]
    omega
theorem cellsL_app (l m : List Ls) : cellsL (l ++ m) = cellsL l ++ cellsL m := by unfold cellsL; rw [List.flatMap_append]
theorem cellsL_one (e : Ls) : cellsL [e] = e.cs := by simp [cellsL]
theorem cellsL_at : ∀ {l : List Ls} {j i : Nat}, j < l.length → i < 4 → (cellsL l)[j * 4 + i]? = ((l.getD j ls0).cs)[i]?
  | [], j, i, hj, _ => by simp at hj
  | e :: l, 0, i, _, hi => by
    rw [cellsL_cons, Nat.zero_mul, Nat.zero_add, List.getD_cons_zero]
    exact List.getElem?_append_left (by rw [cs_len]; omega)
  | e :: l, j + 1, i, hj, hi => by
    have h := cellsL_at (l := l) (j := j) (i := i) (by simpa using hj) hi
    rw [cellsL_cons, List.getD_cons_succ, List.getElem?_append_right (by rw [cs_len]; omega), ← h]
    congr 1
    rw [cs_len]
    omega
theorem cellsL_take (l : List Ls) (j : Nat) : (cellsL l).take (j * 4) = cellsL (l.take j) := by
  induction l generalizing j with
  | nil => simp [cellsL]
  | cons e l ih =>
    cases j with
    | zero => simp [cellsL]
    | succ j =>
      rw [List.take_succ_cons, cellsL_cons, cellsL_cons, List.take_append, List.take_of_length_le (by rw [cs_len]; omega), ← ih]
      congr 2
      rw [cs_len]
      omega
theorem cellsL_drop (l : List Ls) (j : Nat) : (cellsL l).drop (j * 4) = cellsL (l.drop j) := by
  induction l generalizing j with
  | nil => simp [cellsL]
  | cons e l ih =>
    cases j with
    | zero => simp [cellsL]
    | succ j =>
      rw [List.drop_succ_cons, cellsL_cons, List.drop_append, List.drop_of_length_le (by rw [cs_len]; omega), List.nil_append, ← ih]
      congr 1
      rw [cs_len]
      omega
theorem cs_one (e : Ls) : ∀ u ∈ e.cs, u.oneCell' = true := by
  intro u hu
  simp only [Ls.cs, List.mem_cons, List.not_mem_nil, or_false] at hu
  rcases hu with rfl | rfl | rfl | rfl <;> rfl
theorem cellsL_one1 (l : List Ls) : ∀ u ∈ cellsL l, u.oneCell' = true := by
  intro u hu
  unfold cellsL at hu
  obtain ⟨e, _, he⟩ := List.mem_flatMap.1 hu
  exact cs_one e u he
def i64b (n : Int) : Prop := -9223372036854775808 ≤ n ∧ n ≤ 9223372036854775807
def TyL (x : Ls) : Prop := (0 ≤ x.vip ∧ x.vip < 4294967296) ∧ i64b x.first ∧ (0 ≤ x.dip ∧ x.dip < 4294967296) ∧ i64b x.exp
theorem ty_ls0 : TyL ls0 := by
  refine ⟨?_, ?_, ?_, ?_⟩ <;> (show _ ∧ _; decide)
/-- A lease lies in memory. -/
def LsAt (w : World) (b off : Nat) (x : Ls) : Prop := w.cell? ⟨b, off, none⟩ = some (.int .u32 x.vip) ∧ w.cell? ⟨b, off + 1, none⟩ = some (.int .i64 x.first) ∧ w.cell? ⟨b, off + 2, none⟩ = some (.int .u32 x.dip) ∧ w.cell? ⟨b, off + 3, none⟩ = some (.int .i64 x.exp)
theorem LsAt.map {w w' : World} {b off : Nat} {e : Ls} (h : LsAt w b off e) (hm : ∀ (o : Nat) (v : Value), w.cell? ⟨b, o, none⟩ = some v → w'.cell? ⟨b, o, none⟩ = some v) : LsAt w' b off e :=
  ⟨hm _ _ h.1, hm _ _ h.2.1, hm _ _ h.2.2.1, hm _ _ h.2.2.2⟩
theorem LsAt.below {w w' : World} {B b off : Nat} {e : Ls} (h : LsAt w b off e) (hb : Below B w w') (hB : b < B) : LsAt w' b off e :=
  h.map (fun o v hc => (hb.cell (p := ⟨b, o, none⟩) hB).trans hc)
theorem LsAt.lt {w : World} {b off : Nat} {e : Ls} (h : LsAt w b off e) : b < w.heap.size := block_lt_of_cell h.1
theorem lsAt_new (w : World) (e : Ls) : LsAt (w.alloc e.obj) w.heap.size 0 e := by
  refine ⟨?_, ?_, ?_, ?_⟩ <;> simp [go_sem]
/-- A row of leases that came in. -/
structure InL (w : World) (a : Option Addr) (n cap : Nat) (l : List Ls) : Prop where
  len : l.length = n
  room : n ≤ cap
  none : a = Option.none → cap = 0
  here : l = [] ∨ ∃ b off, a = some ⟨b, off, .none⟩ ∧ ∀ t u, (cellsL l)[t]? = some u → w.cell? ⟨b, off + t, .none⟩ = some u
  typ : ∀ x ∈ l, TyL x
theorem InL.below {w w' : World} {a : Option Addr} {n cap : Nat} {l : List Ls} (h : InL w a n cap l) (hb : Below w.heap.size w w') : InL w' a n cap l := by
  refine ⟨h.len, h.room, h.none, ?_, h.typ⟩
  rcases h.here with h0 | ⟨b, off, ha, hc⟩
  · exact .inl h0
  · exact .inr ⟨b, off, ha, fun t u hu => (hb.cell (p := ⟨b, off + t, .none⟩) (block_lt_of_cell (hc t u hu))).trans (hc t u hu)⟩
theorem InL.block {w : World} {a : Option Addr} {n c : Nat} {l : List Ls} (h : InL w a n c l) (hn : 0 < n) : ∃ b off, a = some ⟨b, off, .none⟩ := by
  rcases h.here with h0 | ⟨b, off, ha, _⟩
  · have := h.len; rw [h0] at this; simp at this; omega
  · exact ⟨b, off, ha⟩
theorem InL.cell {w : World} {b off n c : Nat} {l : List Ls} (h : InL w (some ⟨b, off, .none⟩) n c l) {j : Nat} (hj : j < n) : LsAt w b (off + j * 4) (l.getD j ls0) := by
  have hl := h.len
  rcases h.here with h0 | ⟨b', off', ha, hc⟩
  · rw [h0] at hl; simp at hl; omega
  · cases ha
    have h0 := hc (j * 4 + 0) _ (by rw [cellsL_at (by omega) (by omega)]; rfl)
    have h1 := hc (j * 4 + 1) _ (by rw [cellsL_at (by omega) (by omega)]; rfl)
    have h2 := hc (j * 4 + 2) _ (by rw [cellsL_at (by omega) (by omega)]; rfl)
    have h3 := hc (j * 4 + 3) _ (by rw [cellsL_at (by omega) (by omega)]; rfl)
    refine ⟨h0, ?_, ?_, ?_⟩
    · rw [Nat.add_assoc]; exact h1
    · rw [Nat.add_assoc]; exact h2
    · rw [Nat.add_assoc]; exact h3
theorem InL.ty {w : World} {a : Option Addr} {n c : Nat} {l : List Ls} (h : InL w a n c l) {j : Nat} (hj : j < n) : TyL (l.getD j ls0) := h.typ _ (memL (by have := h.len; omega))
theorem InL.zero {w : World} {a : Option Addr} {n cap : Nat} {l : List Ls} (h : InL w a n cap l) : a = Option.none → n = 0 ∧ cap = 0 := fun e => by
  have h1 := h.none e
  have h2 := h.room
  exact ⟨by omega, h1⟩
/-- The cells that an append takes from it. -/
theorem InL.cells {w : World} {a : Option Addr} {n cap : Nat} {l : List Ls} (h : InL w a n cap l) : ∀ ad, a = some ad → ∀ j u, (cellsL l)[j]? = some u → w.cell? (ad.add j) = some u := by
  intro ad ha j u hu
  rcases h.here with h0 | ⟨b, off, ha', hc⟩
  · rw [h0] at hu; simp [cellsL] at hu
  · rw [ha] at ha'
    cases ha'
    rw [Go.WideShapes.add_plain]
    exact hc j u hu
theorem own_inL {w : World} {B n c : Nat} {ao : Option Addr} {l : List Ls} (h : w.ownsRow B tyL 4 (.slice ao n c) n (cellsL l)) (ht : ∀ e ∈ l, TyL e) : InL w ao n c l := by
  have hl : l.length = n := by have := h.1; rw [cellsL_len] at this; omega
  rcases h.2 with ⟨e, h0⟩ | ⟨g, cap, cur, e, _, hg, h1, h2, h3, h4⟩
  · simp only [Value.slice.injEq] at e
    obtain ⟨rfl, rfl, rfl⟩ := e
    exact ⟨hl, Nat.le_refl _, fun _ => rfl, .inl (List.eq_nil_of_length_eq_zero hl), ht⟩
  · simp only [Value.slice.injEq] at e
    obtain ⟨rfl, _, rfl⟩ := e
    refine ⟨hl, h1, (fun e => by cases e), .inr ⟨g, 0, rfl, fun t u hu => ?_⟩, ht⟩
    rw [Nat.zero_add, cell_of_row w g t _ _ _ hg, ← Array.getElem?_toList]
    rw [← h4, List.getElem?_take] at hu
    split at hu
    · exact hu
    · cases hu
/-- A row of the call's own is a row that came in. -/
theorem own_isL {w : World} {B n : Nat} {v : Value} {l : List Ls} (h : w.ownsRow B tyL 4 v n (cellsL l)) (ht : ∀ e ∈ l, TyL e) : ∃ ao c, v = .slice ao n c ∧ InL w ao n c l := by
  obtain ⟨ao, c, rfl⟩ := own_form h
  exact ⟨ao, c, rfl, own_inL h ht⟩
theorem ownL_len {w : World} {B n : Nat} {v : Value} {l : List Ls} (h : w.ownsRow B tyL 4 v n (cellsL l)) : l.length = n := by have := h.1; rw [cellsL_len] at this; omega
theorem InL.take {w : World} {a : Option Addr} {n cap : Nat} {l : List Ls} (h : InL w a n cap l) (k : Nat) (hk : k ≤ n) : InL w a k cap (l.take k) := by
  have hl := h.len
  refine ⟨by rw [List.length_take]; omega, Nat.le_trans hk h.room, h.none, ?_, fun e he => h.typ e (List.mem_of_mem_take he)⟩
  rcases h.here with h0 | ⟨b, off, ha, hc⟩
  · exact .inl (by rw [h0]; simp)
  · refine .inr ⟨b, off, ha, fun t u hu => ?_⟩
    rw [← cellsL_take, List.getElem?_take] at hu
    split at hu
    · exact hc t u hu
    · cases hu
theorem InL.drop {w : World} {b off n cap : Nat} {l : List Ls} (h : InL w (some ⟨b, off, .none⟩) n cap l) (k : Nat) (hk : k ≤ n) (off2 n2 c2 : Nat) (ho : off2 = off + k * 4) (hn : n2 = n - k) (hc2 : n2 ≤ c2) : InL w (some ⟨b, off2, .none⟩) n2 c2 (l.drop k) := by
  subst ho hn
  have hl := h.len
  refine ⟨by rw [List.length_drop]; omega, hc2, (by intro e; cases e), ?_, fun e he => h.typ e (List.mem_of_mem_drop he)⟩
  rcases h.here with h0 | ⟨b', off', ha, hc⟩
  · exact .inl (by rw [h0]; simp)
  · cases ha
    refine .inr ⟨b, _, rfl, fun t u hu => ?_⟩
    rw [← cellsL_drop, List.getElem?_drop] at hu
    rw [Nat.add_assoc]
    exact hc _ u hu
theorem inL_nil (w : World) : InL w none 0 0 [] := ⟨rfl, Nat.le_refl _, fun _ => rfl, .inl rfl, fun x h => by simp at h⟩
theorem InL.nilAt (w : World) (a : Option Addr) (c : Nat) (h : a = Option.none → c = 0) : InL w a 0 c [] := ⟨rfl, Nat.zero_le _, h, .inl rfl, fun x h => by simp at h⟩
theorem ls_new (w : World) (e : Ls) : ∀ j u, (e.cs)[j]? = some u → (w.alloc (.cells (e.cs).toArray tyL)).cell? ((⟨w.heap.size, 0, none⟩ : Addr).add j) = some u := fun j u h => by
  rw [Go.WideShapes.add_plain]
  exact cells_new w e.cs tyL (0, 0) j u h
/-- Leases compared. -/
def eqL (a b : Ls) : Bool := decide (a.vip = b.vip ∧ a.first = b.first ∧ a.dip = b.dip ∧ a.exp = b.exp)
theorem eqL_is (a b : Ls) : eqL a b = decide (a = b) := by
  unfold eqL
  exact decide_eq_decide.2 Ls.same.symm
theorem lease_eql (a b : Ls) (w : World) : (binOp .eql tyL a.val b.val).run Tryd.prog w = .ok (.bool (eqL a b)) w := by
  unfold eqL
  by_cases h0 : a.vip = b.vip
  · by_cases h1 : a.first = b.first
    · by_cases h2 : a.dip = b.dip
      · by_cases h3 : a.exp = b.exp
        · go_simp
        · go_simp
      · go_simp
    · go_simp
  · go_simp
theorem lease_neq (a b : Ls) (w : World) : (binOp .neq tyL a.val b.val).run Tryd.prog w = .ok (.bool (!eqL a b)) w := by
  unfold eqL
  by_cases h0 : a.vip = b.vip
  · by_cases h1 : a.first = b.first
    · by_cases h2 : a.dip = b.dip
      · by_cases h3 : a.exp = b.exp
        · go_simp
        · go_simp
      · go_simp
    · go_simp
  · go_simp
theorem below_drewNT {B : Nat} {w w' : World} (h : Below B w w') (n : Nat) : Below B w (w'.drewN n) := below_drewN h n
end Go.Proofs.YtanajblldlgalaaDoor
