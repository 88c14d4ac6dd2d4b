/- Rows of addresses in memory. No conditions but those stated. -/
import Derived.Test.YtlmkmbpikhagiaaGenB
namespace Go.Proofs.Ytlmkmbpikhagiaa
open Go Go.RowKit
set_option linter.unusedVariables false
set_option linter.unusedSimpArgs false

def fitA (l : List Int) : Prop := ∀ b ∈ l, 0 ≤ b ∧ b < 4294967296
/-- A row of bytes in memory. -/
def AtA (w : World) (v : Value) (l : List Int) : Prop :=
  ∃ a cap, v = .slice a l.length cap ∧ (l = [] ∨ ∃ b off, a = some ⟨b, off, none⟩ ∧ ∀ j, j < l.length → w.cell? ⟨b, off + j, none⟩ = some (.int .u32 (l.getD j 0)))
theorem fitA_take {l : List Int} (h : fitA l) (j : Nat) : fitA (l.take j) := fun b hb => h b (List.mem_of_mem_take hb)
theorem fitA_app {l m : List Int} (h : fitA l) (h2 : fitA m) : fitA (l ++ m) := fun b hb => (List.mem_append.1 hb).elim (h b) (h2 b)
theorem fitA_at {l : List Int} (h : fitA l) {j : Nat} (hj : j < l.length) : 0 ≤ l.getD j 0 ∧ l.getD j 0 < 4294967296 := by
  rw [List.getD_eq_getElem?_getD, List.getElem?_eq_getElem hj]
  exact h _ (List.getElem_mem hj)
theorem AtA.below {w w' : World} {v : Value} {l : List Int} (h : AtA w v l) (hb : Below w.heap.size w w') : AtA w' v l := by
  obtain ⟨a, cap, e, h0 | ⟨b, off, ha, hc⟩⟩ := h
  · exact ⟨a, cap, e, .inl h0⟩
  · refine ⟨a, cap, e, .inr ⟨b, off, ha, fun j hj => ?_⟩⟩
    have := hc j hj
    exact (hb.cell (p := ⟨b, off + j, none⟩) (block_lt_of_cell this)).trans this
theorem AtA.nil (w : World) (a : Option Addr) (c : Nat) : AtA w (.slice a 0 c) [] := ⟨a, c, rfl, .inl rfl⟩
theorem AtA.new (w : World) (l : List Int) (C : Array Value) (hC : C = (l.map (Value.int .u32)).toArray) (t : TypeId) (m : Nat × Nat) (c : Nat) (n : Nat) (hn : n = w.heap.size) (k : Nat) (hk : k = l.length) : AtA (w.alloc (.cells C t m)) (.slice (some ⟨n, 0, none⟩) k c) l := by
  subst hC hn hk
  refine ⟨_, c, rfl, .inr ⟨w.heap.size, 0, rfl, fun j hj => ?_⟩⟩
  apply cells_new
  rw [List.getElem?_map, List.getElem?_eq_getElem hj, List.getD_eq_getElem?_getD, List.getElem?_eq_getElem hj]
  rfl
def a32s (l : List Int) : List Value := l.map (Value.int .u32)
theorem a32s_one (l : List Int) : ∀ u ∈ a32s l, u.oneCell' = true := by
  intro u hu
  obtain ⟨x, _, rfl⟩ := List.mem_map.1 hu
  rfl
theorem a32s_cells {w : World} {b off : Nat} {l : List Int} (h : ∀ j, j < l.length → w.cell? ⟨b, off + j, none⟩ = some (.int .u32 (l.getD j 0))) : ∀ j u, (a32s l)[j]? = some u → w.cell? ((⟨b, off, none⟩ : Addr).add j) = some u := by
  intro j u hu
  rw [Go.WideShapes.add_plain]
  unfold a32s at hu
  rw [List.getElem?_map] at hu
  by_cases hj : j < l.length
  · rw [List.getElem?_eq_getElem hj] at hu
    rw [h j hj, List.getD_eq_getElem?_getD, List.getElem?_eq_getElem hj]
    exact hu
  · rw [List.getElem?_eq_none (by omega)] at hu
    cases hu
theorem a32s_at {l : List Int} {j : Nat} (hj : j < l.length) : (a32s l)[j]? = some (.int .u32 (l.getD j 0)) := by
  unfold a32s
  rw [List.getElem?_map, List.getElem?_eq_getElem hj, List.getD_eq_getElem?_getD, List.getElem?_eq_getElem hj]
  rfl
theorem a32s_app (l m : List Int) : a32s l ++ a32s m = a32s (l ++ m) := by unfold a32s; rw [List.map_append]
theorem AtA.own {w : World} {B : Nat} {v : Value} {l : List Int} (h : w.ownsRow B 44 1 v l.length (a32s l)) : AtA w v l := by
  rcases h.2 with ⟨rfl, h0⟩ | ⟨g, cap, cur, rfl, hb, hg, h1, h2, h3, h4⟩
  · have : l = [] := List.eq_nil_of_length_eq_zero h0
    subst this
    exact AtA.nil w none 0
  · refine ⟨_, cap, rfl, .inr ⟨g, 0, rfl, fun j hj => ?_⟩⟩
    have := h.cellAt (g := g) (cap := cap) (0 + j) (by omega)
    rw [this, Nat.zero_add]
    unfold a32s
    rw [List.getElem?_map, List.getElem?_eq_getElem hj, List.getD_eq_getElem?_getD, List.getElem?_eq_getElem hj]
    rfl
/-- A row of bytes that came in. -/
structure InA (w : World) (a : Option Addr) (n cap : Nat) (l : List Int) : Prop where
  len : l.length = n
  room : n ≤ cap
  none : a = Option.none → cap = 0
  here : AtA w (.slice a n cap) l
  fit : fitA l
theorem InA.below {w w' : World} {a : Option Addr} {n cap : Nat} {l : List Int} (h : InA w a n cap l) (hb : Below w.heap.size w w') : InA w' a n cap l := ⟨h.len, h.room, h.none, h.here.below hb, h.fit⟩
theorem AtA.take {w : World} {a : Option Addr} {n cap : Nat} {l : List Int} (h : AtA w (.slice a n cap) l) (hn : l.length = n) (k : Nat) (hk : k ≤ n) : AtA w (.slice a k cap) (l.take k) := by
  have hlk : (l.take k).length = k := by rw [List.length_take]; omega
  obtain ⟨a', cap', e, hA⟩ := h
  cases e
  refine ⟨a, cap, by rw [hlk], ?_⟩
  rcases hA with rfl | ⟨b, off, ha, hc⟩
  · exact .inl (by simp)
  · refine .inr ⟨b, off, ha, fun j hj => ?_⟩
    rw [hlk] at hj
    rw [hc j (by omega), List.getD_eq_getElem?_getD, List.getD_eq_getElem?_getD, List.getElem?_take, if_pos hj]
theorem InA.take {w : World} {a : Option Addr} {n cap : Nat} {l : List Int} (h : InA w a n cap l) (k : Nat) (hk : k ≤ n) : InA w a k cap (l.take k) :=
  ⟨by rw [List.length_take, h.len]; omega, Nat.le_trans hk h.room, h.none, h.here.take h.len k hk, fitA_take h.fit k⟩
/-- The cells that an append takes from it. -/
theorem InA.cells {w : World} {a : Option Addr} {n cap : Nat} {l : List Int} (h : InA w a n cap l) : ∀ ad, a = some ad → ∀ j u, (a32s l)[j]? = some u → w.cell? (ad.add j) = some u := by
  intro ad ha j u hu
  obtain ⟨a', cap', e, hA⟩ := h.here
  cases e
  rcases hA with rfl | ⟨b, off, ha', hc⟩
  · simp [a32s] at hu
  · rw [ha] at ha'
    cases ha'
    exact a32s_cells hc j u hu
theorem InA.zero {w : World} {a : Option Addr} {n cap : Nat} {l : List Int} (h : InA w a n cap l) : a = Option.none → n = 0 ∧ cap = 0 := fun e => by
  have h1 := h.none e
  have h2 := h.room
  exact ⟨by omega, h1⟩
theorem infoA : (Try.prog.info? 44).map (fun i => (i.zero, i.size, i.bytes)) = some (some (.int .u32 0), 1, 4) := by kernel_rfl
theorem own_inA {w : World} {B n c : Nat} {ao : Option Addr} {l : List Int} (h : w.ownsRow B 44 1 (.slice ao n c) n (a32s l)) (hl : l.length = n) (hf : fitA l) : InA w ao n c l := by
  have hA := AtA.own (w := w) (B := B) (v := .slice ao n c) (l := l) (by rw [hl]; exact h)
  rcases h.2 with ⟨e, h0⟩ | ⟨g, cap, cur, e, _, _, h1, _⟩
  · simp only [Value.slice.injEq] at e
    obtain ⟨rfl, rfl, rfl⟩ := e
    exact ⟨hl, Nat.le_refl _, fun _ => rfl, hA, hf⟩
  · simp only [Value.slice.injEq] at e
    obtain ⟨rfl, _, rfl⟩ := e
    exact ⟨hl, h1, (fun e => by cases e), hA, hf⟩
theorem in_nilA (w : World) : InA w none 0 0 [] := ⟨rfl, Nat.le_refl _, fun _ => rfl, AtA.nil _ _ _, by intro b hb; cases hb⟩
theorem AtA.sub {w : World} {b off n c : Nat} {l : List Int} (h : AtA w (.slice (some ⟨b, off, none⟩) n c) l) (hn : l.length = n) (lo hi : Nat) (h1 : lo ≤ hi) (h2 : hi ≤ n) (k c2 off2 : Nat) (hk : k = hi - lo) (ho : off2 = off + lo) : AtA w (.slice (some ⟨b, off2, none⟩) k c2) ((l.drop lo).take k) := by
  subst hk ho
  have hl : ((l.drop lo).take (hi - lo)).length = hi - lo := by rw [List.length_take, List.length_drop]; omega
  refine ⟨_, c2, by rw [hl], ?_⟩
  obtain ⟨a', cap', e, hA⟩ := h
  simp only [Value.slice.injEq] at e
  obtain ⟨rfl, _, rfl⟩ := e
  rcases hA with h0 | ⟨b', off', e, hc⟩
  · rw [h0]; exact .inl (by simp)
  · cases e
    refine .inr ⟨b, off + lo, rfl, fun j hj => ?_⟩
    rw [hl] at hj
    rw [Nat.add_assoc, hc (lo + j) (by omega), List.getD_eq_getElem?_getD, List.getD_eq_getElem?_getD, List.getElem?_take, if_pos hj, List.getElem?_drop]
theorem in_cellA {w : World} {b off n c : Nat} {l : List Int} (h : InA w (some ⟨b, off, none⟩) n c l) (j : Nat) (hj : j < n) : w.cell? ⟨b, off + j, none⟩ = some (.int .u32 (l.getD j 0)) := by
  obtain ⟨a', cap', e, hA⟩ := h.here
  simp only [Value.slice.injEq] at e
  obtain ⟨rfl, _, rfl⟩ := e
  rcases hA with h0 | ⟨b', off', e, hc⟩
  · have := h.len
    rw [h0] at this
    simp at this
    omega
  · cases e
    exact hc j (by rw [h.len]; exact hj)
theorem in_blockA {w : World} {a : Option Addr} {n c : Nat} {l : List Int} (h : InA w a n c l) (hn : 0 < n) : ∃ b off, a = some ⟨b, off, none⟩ := by
  obtain ⟨a', cap', e, h0 | ⟨b, off, ha, hc⟩⟩ := h.here
  · have := h.len; rw [h0] at this; simp at this; omega
  · simp only [Value.slice.injEq] at e
    exact ⟨b, off, by rw [e.1, ha]⟩
theorem own_litA (w : World) (l : List Int) (C : Array Value) (hC : C = (l.map (Value.int .u32)).toArray) (n B : Nat) (hn : n = l.length) (hB : B ≤ w.heap.size) (hm : n ≤ maxLen) :
    (w.alloc (.cells C 44)).ownsRow B 44 1 (.slice (some ⟨w.heap.size, 0, none⟩) n n) n (a32s l) := by
  subst hC hn
  exact ⟨by simp [a32s], .inr ⟨w.heap.size, l.length, _, rfl, hB, heap_alloc_new w _, Nat.le_refl _, hm, by simp, by simp only [a32s, Nat.mul_one]; exact List.take_of_length_le (by simp)⟩⟩
end Go.Proofs.Ytlmkmbpikhagiaa
