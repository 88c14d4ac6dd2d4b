/- The document's wheel in memory: timers in a row of its own. No conditions but those stated. -/
import Derived.Test.YthoegmcdohppoaaWhP
import Derived.Test.YthoegmcdohppoaaTch
import Derived.Test.YthoegmcdohppoaaIntA
namespace Go.Proofs.Ythoegmcdohppoaa
open Go Go.RowKit
set_option linter.unusedVariables false
set_option linter.unusedSimpArgs false

abbrev tyT : TypeId := 64
theorem infoT : (Try.prog.info? 64).map (fun i => (i.zero, i.size, i.bytes)) = some (some (.agg #[.int .i64 0, .int .i64 0]), 2, 16) := by kernel_rfl
def tm0 : Wy := (0, 0)
def csT (t : Wy) : List Value := [.int .i64 t.2, .int .i64 t.1]
def cellsT (l : List Wy) : List Value := l.flatMap csT
theorem cellsT_app (l m : List Wy) : cellsT (l ++ m) = cellsT l ++ cellsT m := by unfold cellsT; rw [List.flatMap_append]
theorem cellsT_one (t : Wy) : cellsT [t] = csT t := by simp [cellsT]
theorem cellsT_cons (t : Wy) (l : List Wy) : cellsT (t :: l) = csT t ++ cellsT l := rfl
theorem cellsT_len (l : List Wy) : (cellsT l).length = l.length * 2 := by
  induction l with
  | nil => rfl
  | cons t l ih =>
    rw [cellsT_cons, List.length_append, ih, List.length_cons]
    simp only [csT, List.length_cons, List.length_nil]
    omega
theorem cellsT_at : ∀ {l : List Wy} {j i : Nat}, j < l.length → i < 2 → (cellsT l)[j * 2 + i]? = (csT (l.getD j tm0))[i]?
  | [], j, i, hj, _ => by simp at hj
  | t :: l, 0, i, _, hi => by
    rw [cellsT_cons, Nat.zero_mul, Nat.zero_add, List.getD_cons_zero]
    exact List.getElem?_append_left (by simp [csT]; omega)
  | t :: l, j + 1, i, hj, hi => by
    have h := cellsT_at (l := l) (j := j) (i := i) (by simpa using hj) hi
    rw [cellsT_cons, List.getD_cons_succ, List.getElem?_append_right (by simp [csT]; omega), ← h]
    congr 1
    simp [csT]
    omega
theorem cellsT_one1 (l : List Wy) : ∀ u ∈ cellsT l, u.oneCell' = true := by
  intro u hu
  unfold cellsT at hu
  obtain ⟨t, _, ht⟩ := List.mem_flatMap.1 hu
  simp only [csT, List.mem_cons, List.not_mem_nil, or_false] at ht
  rcases ht with rfl | rfl <;> rfl
theorem csT_one1 (t : Wy) : ∀ u ∈ csT t, u.oneCell' = true := by
  have := cellsT_one1 [t]
  rwa [cellsT_one] at this
/-- A row of timers of the call's own: its cells. -/
theorem ownT_cell {w : World} {B n c : Nat} {ao : Option Addr} {ts : List Wy} (h : w.ownsRow B tyT 2 (.slice ao n c) n (cellsT ts)) {j : Nat} (hj : j < n) : ∃ g, ao = some ⟨g, 0, none⟩ ∧ B ≤ g ∧ w.cell? ⟨g, j * 2, none⟩ = some (.int .i64 (ts.getD j tm0).2) ∧ w.cell? ⟨g, j * 2 + 1, none⟩ = some (.int .i64 (ts.getD j tm0).1) := by
  have hl : ts.length = n := by have := h.1; rw [cellsT_len] at this; omega
  rcases h.2 with ⟨_, h0⟩ | ⟨g, cap, cur, e, hB, hg, h1, h2, h3, h4⟩
  · omega
  · simp only [Value.slice.injEq] at e
    obtain ⟨rfl, _, rfl⟩ := e
    have hc : ∀ i, i < 2 → w.cell? ⟨g, j * 2 + i, none⟩ = (csT (ts.getD j tm0))[i]? := fun i hi => by
      rw [cell_of_row w g _ _ _ _ hg, ← cellsT_at (by omega) hi, ← h4, List.getElem?_take, if_pos (by omega), Array.getElem?_toList]
    exact ⟨g, rfl, hB, hc 0 (by omega), hc 1 (by omega)⟩
theorem ownT_len {w : World} {B n : Nat} {v : Value} {ts : List Wy} (h : w.ownsRow B tyT 2 v n (cellsT ts)) : ts.length = n := by have := h.1; rw [cellsT_len] at this; omega
/-- The document's wheel: its block, its row. -/
structure RwM (w : World) (B m : Nat) (ts : List Wy) (ao : Option Addr) (n c : Nat) : Prop where
  here : w.heap[m]? = some (.cells #[.slice ao n c] 34 (0, 0))
  hm : B ≤ m
  row : w.ownsRow B tyT 2 (.slice ao n c) n (cellsT ts)
  away : (Value.slice ao n c).ownBlock ≠ some m
theorem RwM.c0 {w : World} {B m n c : Nat} {ts : List Wy} {ao : Option Addr} (h : RwM w B m ts ao n c) : w.cell? ⟨m, 0, none⟩ = some (.slice ao n c) := cell_of_one h.here
theorem RwM.free {w : World} {B m n c : Nat} {ts : List Wy} {ao : Option Addr} (h : RwM w B m ts ao n c) : w.frozen? ⟨m, 0, none⟩ = false := free_of_one h.here
theorem RwM.lt {w : World} {B m n c : Nat} {ts : List Wy} {ao : Option Addr} (h : RwM w B m ts ao n c) : m < w.heap.size := lt_of_block h.here
theorem RwM.keep {T : Nat → Prop} {w w' : World} {B m n c : Nat} {ts : List Wy} {ao : Option Addr} (h : RwM w B m ts ao n c) (ht : Tch T w w') (hm : ¬ T m) (hn : ∀ k, (Value.slice ao n c).ownBlock = some k → ¬ T k) : RwM w' B m ts ao n c :=
  ⟨ht.at h.here hm, h.hm, ht.own h.row hn, h.away⟩
theorem RwM.blk {w : World} {B m n c : Nat} {ts : List Wy} {ao : Option Addr} (h : RwM w B m ts ao n c) {k : Nat} (hk : (Value.slice ao n c).ownBlock = some k) : B ≤ k ∧ k < w.heap.size := h.row.lt k hk
structure RwS (w : World) (B : Nat) (F : Nat → Prop) (m : Nat) (ts : List Wy) : Prop where
  here : ∃ ao n c, RwM w B m ts ao n c ∧ ∀ k, F k ↔ k = m ∨ (Value.slice ao n c).ownBlock = some k
theorem RwS.keep {T : Nat → Prop} {w w' : World} {B m : Nat} {F : Nat → Prop} {ts : List Wy} (h : RwS w B F m ts) (ht : Tch T w w') (hn : ∀ k, F k → ¬ T k) : RwS w' B F m ts := by
  obtain ⟨ao, n, c, hM, hF⟩ := h.here
  exact ⟨ao, n, c, hM.keep ht (hn m ((hF m).2 (.inl rfl))) (fun k hk => hn k ((hF k).2 (.inr hk))), hF⟩
theorem RwS.blocks {w : World} {B m : Nat} {F : Nat → Prop} {ts : List Wy} (h : RwS w B F m ts) : ∀ k, F k → B ≤ k ∧ k < w.heap.size := fun k hk => by
  obtain ⟨ao, n, c, hM, hF⟩ := h.here
  rcases (hF k).1 hk with rfl | hk
  · exact ⟨hM.hm, hM.lt⟩
  · exact hM.blk hk
/-- What a call on it leaves. -/
def RwTo (w : World) (B : Nat) (F : Nat → Prop) (m : Nat) (ts : List Wy) (F2 : Nat → Prop) (w' : World) : Prop :=
  RwS w' B F2 m ts ∧ (∀ k, F2 k → F k ∨ w.heap.size ≤ k) ∧ Tch F w w'
theorem RwTo.same {w w' : World} {B m : Nat} {F : Nat → Prop} {ts : List Wy} (h : RwS w B F m ts) (ht : Tch Non w w') : RwTo w B F m ts F w' :=
  ⟨h.keep ht (fun _ _ h => h), fun k hk => .inl hk, ht.mono (fun _ h => h.elim)⟩
theorem RwTo.trans {a b c : World} {B m : Nat} {F F2 F3 : Nat → Prop} {ts us : List Wy} (h : RwTo a B F m ts F2 b) (h2 : RwTo b B F2 m us F3 c) : RwTo a B F m us F3 c := by
  refine ⟨h2.1, fun k hk => ?_, h.2.2.trans' h2.2.2 (fun k hk h3 => ?_)⟩
  · rcases h2.2.1 k hk with h3 | h3
    · exact h.2.1 k h3
    · exact .inr (Nat.le_trans h.2.2.size h3)
  · rcases h.2.1 k h3 with h4 | h4
    · exact h4
    · omega
/-- Numbers that came in, apart from what is touched. -/
theorem InI.tch {T : Nat → Prop} {w w' : World} {a : Option Addr} {n c : Nat} {l : List Int} (h : InI w a n c l) (ht : Tch T w w') (hn : ∀ b off, a = some ⟨b, off, .none⟩ → 0 < n → ¬ T b) : InI w' a n c l := by
  refine ⟨h.len, h.room, h.none, ?_, h.fit⟩
  obtain ⟨a2, c2, e, h2⟩ := h.here
  refine ⟨a2, c2, e, ?_⟩
  rcases h2 with h0 | ⟨b, off, rfl, hc⟩
  · exact .inl h0
  · by_cases hl : l = []
    · exact .inl hl
    · have hp : 0 < l.length := List.length_pos_iff.2 hl
      refine .inr ⟨b, off, rfl, fun j hj => ht.cell (hc j hj) ?_⟩
      simp only [Value.slice.injEq] at e
      exact hn b off e.1 (by have := h.len; omega)
end Go.Proofs.Ythoegmcdohppoaa
