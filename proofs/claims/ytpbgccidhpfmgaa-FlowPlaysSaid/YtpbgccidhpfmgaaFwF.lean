/- Rows of flows in memory; boxes that hold an entry. No conditions but those stated. -/
import Derived.Test.YtpbgccidhpfmgaaFwC
namespace Go.Proofs.Ytpbgccidhpfmgaa
open Go Go.RowKit
set_option linter.unusedVariables false
set_option linter.unusedSimpArgs false

abbrev tyF : TypeId := 38
theorem infoF : (Try.prog.info? 38).map (fun i => (i.zero, i.size, i.bytes)) = some (some (.agg #[.int .i64 0, .int .u32 0, .int .i64 0, .int .u32 0, .int .i64 0]), 5, 40) := by kernel_rfl
def csF (f : Fl) : List Value := [.int .i64 f.p, .int .u32 f.s, .int .i64 f.sp, .int .u32 f.d, .int .i64 f.dp]
def cellsF (l : List Fl) : List Value := l.flatMap csF
theorem cellsF_app (l m : List Fl) : cellsF (l ++ m) = cellsF l ++ cellsF m := by unfold cellsF; rw [List.flatMap_append]
theorem cellsF_one (f : Fl) : cellsF [f] = csF f := by simp [cellsF]
theorem cellsF_cons (f : Fl) (l : List Fl) : cellsF (f :: l) = csF f ++ cellsF l := rfl
theorem csF_len (f : Fl) : (csF f).length = 5 := rfl
theorem cellsF_len (l : List Fl) : (cellsF l).length = l.length * 5 := by
  induction l with
  | nil => rfl
  | cons e l ih =>
    rw [cellsF_cons, List.length_append, ih, List.length_cons, csF_len]
    omega
theorem cellsF_at : ∀ {l : List Fl} {j i : Nat}, j < l.length → i < 5 → (cellsF l)[j * 5 + i]? = (csF (l.getD j fl0))[i]?
  | [], j, i, hj, _ => by simp at hj
  | e :: l, 0, i, _, hi => by
    rw [cellsF_cons, Nat.zero_mul, Nat.zero_add, List.getD_cons_zero]
    exact List.getElem?_append_left (by rw [csF_len]; omega)
  | e :: l, j + 1, i, hj, hi => by
    have h := cellsF_at (l := l) (j := j) (i := i) (by simpa using hj) hi
    rw [cellsF_cons, List.getD_cons_succ, List.getElem?_append_right (by rw [csF_len]; omega), ← h]
    congr 1
    rw [csF_len]
    omega
theorem csF_one1 (f : Fl) : ∀ u ∈ csF f, u.oneCell' = true := by
  intro u hu
  simp only [csF, List.mem_cons, List.not_mem_nil, or_false] at hu
  rcases hu with rfl | rfl | rfl | rfl | rfl <;> rfl
theorem cellsF_one1 (l : List Fl) : ∀ u ∈ cellsF l, u.oneCell' = true := by
  intro u hu
  unfold cellsF at hu
  obtain ⟨e, _, he⟩ := List.mem_flatMap.1 hu
  exact csF_one1 e u he
theorem flIn_of {w : World} {b off : Nat} {f : Fl} (h : ∀ i, i < 5 → w.cell? ⟨b, off + i, none⟩ = (csF f)[i]?) : FlIn w b off f := ⟨h 0 (by omega), h 1 (by omega), h 2 (by omega), h 3 (by omega), h 4 (by omega)⟩
theorem FlIn.map {w w' : World} {b off : Nat} {f : Fl} (h : FlIn w b off f) (hm : ∀ (o : Nat) (v : Value), w.cell? ⟨b, o, none⟩ = some v → w'.cell? ⟨b, o, none⟩ = some v) : FlIn w' b off f := by
  obtain ⟨h0, h1, h2, h3, h4⟩ := h
  exact ⟨hm _ _ h0, hm _ _ h1, hm _ _ h2, hm _ _ h3, hm _ _ h4⟩
theorem FlIn.tch {T : Nat → Prop} {w w' : World} {b off : Nat} {f : Fl} (h : FlIn w b off f) (ht : Tch T w w') (hn : ¬ T b) : FlIn w' b off f := h.map (fun o v hc => ht.cell hc hn)
theorem FlIn.lt {w : World} {b off : Nat} {f : Fl} (h : FlIn w b off f) : b < w.heap.size := block_lt_of_cell h.1
/-- Flows in memory. -/
structure InF (w : World) (a : Option Addr) (n : Nat) (l : List Fl) : Prop where
  len : l.length = n
  here : l = [] ∨ ∃ b off, a = some ⟨b, off, none⟩ ∧ ∀ j, j < l.length → FlIn w b (off + j * 5) (l.getD j fl0)
theorem InF.tch {T : Nat → Prop} {w w' : World} {a : Option Addr} {n : Nat} {l : List Fl} (h : InF w a n l) (ht : Tch T w w') (hn : ∀ b off, a = some ⟨b, off, none⟩ → 0 < n → ¬ T b) : InF w' a n l := by
  refine ⟨h.len, ?_⟩
  rcases h.here with h0 | ⟨b, off, ha, hc⟩
  · exact .inl h0
  · exact .inr ⟨b, off, ha, fun j hj => (hc j hj).tch ht (hn b off ha (by have := h.len; omega))⟩
theorem InF.below {w w' : World} {a : Option Addr} {n : Nat} {l : List Fl} (h : InF w a n l) (hb : Below w.heap.size w w') : InF w' a n l := h.tch (tch_new hb) (fun _ _ _ _ h => h)
theorem InF.at {w : World} {a : Option Addr} {n : Nat} {l : List Fl} (h : InF w a n l) {j : Nat} (hj : j < n) : ∃ b off, a = some ⟨b, off, none⟩ ∧ FlIn w b (off + j * 5) (l.getD j fl0) := by
  have hl := h.len
  rcases h.here with h0 | ⟨b, off, ha, hc⟩
  · rw [h0] at hl; simp at hl; omega
  · exact ⟨b, off, ha, hc j (by omega)⟩
theorem ownF_in {w : World} {B n c : Nat} {ao : Option Addr} {l : List Fl} (h : w.ownsRow B tyF 5 (.slice ao n c) n (cellsF l)) : InF w ao n l := by
  have hl : l.length = n := by have := h.1; rw [cellsF_len] at this; omega
  refine ⟨hl, ?_⟩
  rcases h.2 with ⟨_, h0⟩ | ⟨g, cap, cur, e, hB, hg, h1, h2, h3, h4⟩
  · exact .inl (List.eq_nil_of_length_eq_zero (by omega))
  · simp only [Value.slice.injEq] at e
    obtain ⟨rfl, _, rfl⟩ := e
    refine .inr ⟨g, 0, rfl, fun j hj => flIn_of (fun i hi => ?_)⟩
    rw [Nat.zero_add, cell_of_row w g _ _ _ _ hg, ← cellsF_at hj hi, ← h4, List.getElem?_take, if_pos (by omega), Array.getElem?_toList]
theorem fl_newr (w : World) (f : Fl) : ∀ j u, (csF f)[j]? = some u → (w.alloc (.cells (csF f).toArray tyF)).cell? ((⟨w.heap.size, 0, none⟩ : Addr).add j) = some u := fun j u h => by
  rw [Go.WideShapes.add_plain]
  exact cells_new w (csF f) tyF (0, 0) j u h
/-- A box that holds an entry. -/
def BxE (w : World) (q : Nat) (e : En) : Prop := w.heap[q]? = some e.obj
theorem BxE.new (w : World) (e : En) : BxE (w.alloc e.obj) w.heap.size e := (MapKept.heap_alloc w _).1
theorem BxE.keep {T : Nat → Prop} {w w' : World} {q : Nat} {e : En} (h : BxE w q e) (ht : Tch T w w') (hn : ¬ T q) : BxE w' q e := ht.at h hn
theorem BxE.at {w : World} {q : Nat} {e : En} (h : BxE w q e) : EnAt w q 0 e := by
  refine enAt_of (fun i hi => ?_)
  have h2 : w.heap[q]? = some (.cells (csE e).toArray tyE (0, 0)) := h
  rw [Nat.zero_add, cell_of_row w q i _ _ _ h2, List.getElem?_toArray]
theorem BxE.cs {w : World} {q : Nat} {e : En} (h : BxE w q e) : w.cell? ⟨q, 0, none⟩ = some (.int .i64 e.f.p) ∧ w.cell? ⟨q, 1, none⟩ = some (.int .u32 e.f.s) ∧ w.cell? ⟨q, 2, none⟩ = some (.int .i64 e.f.sp) ∧ w.cell? ⟨q, 3, none⟩ = some (.int .u32 e.f.d) ∧ w.cell? ⟨q, 4, none⟩ = some (.int .i64 e.f.dp) ∧ w.cell? ⟨q, 5, none⟩ = some (.int .u32 e.dip) ∧ w.cell? ⟨q, 6, none⟩ = some (.int .i64 e.ep) ∧ w.cell? ⟨q, 7, none⟩ = some (.bool e.tr) ∧ w.cell? ⟨q, 8, none⟩ = some (.bool e.cl) ∧ w.cell? ⟨q, 9, none⟩ = some (.int .i64 e.la) := by
  obtain ⟨h0, h1, h2, h3, h4, h5, h6, h7, h8, h9⟩ := h.at
  exact ⟨h0, h1, h2, h3, h4, h5, h6, h7, h8, h9⟩
theorem BxE.free {w : World} {q : Nat} {e : En} (h : BxE w q e) (o : Nat) : w.frozen? ⟨q, o, none⟩ = false := frozen_of_row w q o _ _ h
theorem BxE.lt {w : World} {q : Nat} {e : En} (h : BxE w q e) : q < w.heap.size := lt_of_block h
abbrev stE (W : World) (q : Nat) (e : En) : World := (((((((((W.setCell ⟨q, 0, none⟩ (.int .i64 e.f.p)).setCell ⟨q, 1, none⟩ (.int .u32 e.f.s)).setCell ⟨q, 2, none⟩ (.int .i64 e.f.sp)).setCell ⟨q, 3, none⟩ (.int .u32 e.f.d)).setCell ⟨q, 4, none⟩ (.int .i64 e.f.dp)).setCell ⟨q, 5, none⟩ (.int .u32 e.dip)).setCell ⟨q, 6, none⟩ (.int .i64 e.ep)).setCell ⟨q, 7, none⟩ (.bool e.tr)).setCell ⟨q, 8, none⟩ (.bool e.cl)).setCell ⟨q, 9, none⟩ (.int .i64 e.la)
theorem tch_cell (W : World) (q i : Nat) (v : Value) : Tch (· = q) W (W.setCell ⟨q, i, none⟩ v) := tch_set W ⟨q, i, none⟩ v
theorem stE_tch (W : World) (q : Nat) (e : En) : Tch (· = q) W (stE W q e) :=
  ((((((((((tch_cell W q 0 _).trans (tch_cell _ q 1 _)).trans (tch_cell _ q 2 _)).trans (tch_cell _ q 3 _)).trans (tch_cell _ q 4 _)).trans (tch_cell _ q 5 _)).trans (tch_cell _ q 6 _)).trans (tch_cell _ q 7 _)).trans (tch_cell _ q 8 _)).trans (tch_cell _ q 9 _))
theorem put_row {w : World} {g i : Nat} {cs : Array Value} {t : TypeId} (h : w.heap[g]? = some (.cells cs t (0, 0))) (v : Value) : (w.setCell ⟨g, i, none⟩ v).heap[g]? = some (.cells (cs.setIfInBounds i v) t (0, 0)) := heap_setCell_same w g i cs t v h
theorem BxE.set {W : World} {q : Nat} {x : En} (h : BxE W q x) (e : En) : BxE (stE W q e) q e := by
  have h0 : W.heap[q]? = some (.cells (csE x).toArray tyE (0, 0)) := h
  have := put_row (i := 9) (put_row (i := 8) (put_row (i := 7) (put_row (i := 6) (put_row (i := 5) (put_row (i := 4) (put_row (i := 3) (put_row (i := 2) (put_row (i := 1) (put_row (i := 0) h0 (.int .i64 e.f.p)) (.int .u32 e.f.s)) (.int .i64 e.f.sp)) (.int .u32 e.f.d)) (.int .i64 e.f.dp)) (.int .u32 e.dip)) (.int .i64 e.ep)) (.bool e.tr)) (.bool e.cl)) (.int .i64 e.la)
  simp only [csE, List.setIfInBounds_toArray, List.set_cons_succ, List.set_cons_zero] at this
  exact this
end Go.Proofs.Ytpbgccidhpfmgaa
