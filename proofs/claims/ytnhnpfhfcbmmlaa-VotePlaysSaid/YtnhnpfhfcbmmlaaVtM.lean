/- Commands in memory: rows that came in, rows of a call's own; boxes of one. No conditions but those stated. -/
import Derived.Test.YtnhnpfhfcbmmlaaVtP
import Derived.Deep.CutRange
import Derived.Deep.RegionHeld3
import Derived.Deep.RegionWith
namespace Go.Proofs.Ytnhnpfhfcbmmlaa
open Go Go.RowKit
set_option linter.unusedVariables false
set_option linter.unusedSimpArgs false

abbrev tyC : TypeId := 42
theorem infoE : (Try.prog.info? 74).map (fun i => (i.zero, i.size, i.bytes)) = some (some (.agg #[.int .u32 0, .int .i64 0, .int .i64 0]), 3, 24) := by kernel_rfl
theorem infoC : (Try.prog.info? 42).map (fun i => (i.zero, i.size, i.bytes)) = some (some (.agg #[.int .i64 0, .int .i64 0, .int .i64 0, .int .i64 0, .int .i64 0, .int .u32 0, .int .i64 0, .int .i64 0, .slice none 0 0, .int .u32 0, .int .u32 0, .bool false]), 12, 104) := by kernel_rfl
def Cm.cs (x : Cm) (v : Value) : List Value := [.int .i64 x.node, .int .i64 x.boot, .int .i64 x.seq, .int .i64 x.time, .int .i64 x.kind, .int .u32 x.vip, .int .i64 x.proto, .int .i64 x.port, v, .int .u32 x.dip, .int .u32 x.cvip, .bool x.up]
abbrev Cm.arr (x : Cm) (v : Value) : Array Value := #[.int .i64 x.node, .int .i64 x.boot, .int .i64 x.seq, .int .i64 x.time, .int .i64 x.kind, .int .u32 x.vip, .int .i64 x.proto, .int .i64 x.port, v, .int .u32 x.dip, .int .u32 x.cvip, .bool x.up]
abbrev Cm.val (x : Cm) (v : Value) : Value := .agg (x.arr v)
abbrev Cm.obj (x : Cm) (v : Value) : Obj := .cells (x.arr v) tyC
def cellsC : List Cm → List Value → List Value
  | l :: ls, v :: vs => l.cs v ++ cellsC ls vs
  | _, _ => []
theorem cellsC_len : ∀ {ls : List Cm} {vs : List Value}, vs.length = ls.length → (cellsC ls vs).length = ls.length * 12
  | [], [], _ => rfl
  | l :: ls, v :: vs, h => by
    have := cellsC_len (ls := ls) (vs := vs) (by simpa using h)
    simp only [cellsC, Cm.cs, List.length_append, List.length_cons, List.length_nil, this]
    omega
  | [], _ :: _, h => by simp at h
  | _ :: _, [], h => by simp at h
theorem cellsC_app : ∀ {ls : List Cm} {vs : List Value}, vs.length = ls.length → ∀ {ms : List Cm} {us : List Value}, cellsC (ls ++ ms) (vs ++ us) = cellsC ls vs ++ cellsC ms us
  | [], [], _, _, _ => rfl
  | l :: ls, v :: vs, h, ms, us => by
    have := cellsC_app (ls := ls) (vs := vs) (by simpa using h) (ms := ms) (us := us)
    simp only [List.cons_append, cellsC, this, List.append_assoc]
  | [], _ :: _, h, _, _ => by simp at h
  | _ :: _, [], h, _, _ => by simp at h
theorem cellsC_one (l : Cm) (v : Value) : cellsC [l] [v] = l.cs v := by simp [cellsC]
theorem cellsC_at : ∀ {ls : List Cm} {vs : List Value}, vs.length = ls.length → ∀ {j i : Nat}, j < ls.length → i < 12 → (cellsC ls vs)[j * 12 + i]? = ((ls.getD j cm0).cs (vs.getD j undef))[i]?
  | [], [], _, j, i, hj, _ => by simp at hj
  | l :: ls, v :: vs, h, 0, i, _, hi => by
    simp only [cellsC, Nat.zero_mul, Nat.zero_add, List.getD_cons_zero]
    exact List.getElem?_append_left (by simp [Cm.cs]; omega)
  | l :: ls, v :: vs, h, j + 1, i, hj, hi => by
    have := cellsC_at (ls := ls) (vs := vs) (by simpa using h) (j := j) (i := i) (by simpa using hj) hi
    simp only [cellsC, List.getD_cons_succ]
    rw [List.getElem?_append_right (by simp [Cm.cs]; omega), ← this]
    congr 1
    simp [Cm.cs]
    omega
  | [], _ :: _, h, _, _, _, _ => by simp at h
  | _ :: _, [], h, _, _, _, _ => by simp at h
theorem cs_one1 (l : Cm) {v : Value} (h : v.oneCell' = true) : ∀ u ∈ l.cs v, u.oneCell' = true := by
  intro u hu
  simp only [Cm.cs, List.mem_cons, List.not_mem_nil, or_false] at hu
  rcases hu with rfl | rfl | rfl | rfl | rfl | rfl | rfl | rfl | rfl | rfl | rfl | rfl <;> first | rfl | exact h
theorem cellsC_one1 : ∀ {ls : List Cm} {vs : List Value}, (∀ v ∈ vs, v.oneCell' = true) → ∀ u ∈ cellsC ls vs, u.oneCell' = true
  | [], _, _, u, hu => by simp [cellsC] at hu
  | _ :: _, [], _, u, hu => by simp [cellsC] at hu
  | l :: ls, v :: vs, h, u, hu => by
    simp only [cellsC, List.mem_append] at hu
    rcases hu with hu | hu
    · exact cs_one1 l (h v List.mem_cons_self) u hu
    · exact cellsC_one1 (fun v hv => h v (List.mem_cons_of_mem _ hv)) u hu
/-- A row of commands that can be read. -/
structure InC (w : World) (a : Option Addr) (n cap : Nat) (ls : List Cm) (vs : List Value) : Prop where
  len : ls.length = n
  vlen : vs.length = ls.length
  room : n ≤ cap
  none : a = Option.none → cap = 0
  here : ls = [] ∨ ∃ b off, a = some ⟨b, off, .none⟩ ∧ ∀ t u, (cellsC ls vs)[t]? = some u → w.cell? ⟨b, off + t, .none⟩ = some u
  ends : ∀ j, j < n → ∃ ao k c, vs.getD j undef = .slice ao k c ∧ InE w ao k c (ls.getD j cm0).es
  typ : ∀ c ∈ ls, TyC c
/-- The blocks that it reads. -/
def BkC (a : Option Addr) (vs : List Value) (k : Nat) : Prop := (∃ ad, a = some ad ∧ ad.block = k) ∨ ∃ v ∈ vs, ∃ ad n c, v = .slice (some ad) n c ∧ ad.block = k
theorem InE.keep {T : Nat → Prop} {w w' : World} {a : Option Addr} {n cap : Nat} {es : List En} (h : InE w a n cap es) (ht : Tch T w w') (hn : ∀ ad, a = some ad → ¬ T ad.block) : InE w' a n cap es := by
  refine ⟨h.len, h.room, h.none, ?_, h.typ⟩
  rcases h.here with h0 | ⟨b, off, ha, hc⟩
  · exact .inl h0
  · exact .inr ⟨b, off, ha, fun t u hu => ht.cell (hc t u hu) (hn ⟨b, off, .none⟩ ha)⟩
theorem InC.keep {T : Nat → Prop} {w w' : World} {a : Option Addr} {n cap : Nat} {ls : List Cm} {vs : List Value} (h : InC w a n cap ls vs) (ht : Tch T w w') (hn : ∀ k, BkC a vs k → ¬ T k) : InC w' a n cap ls vs := by
  refine ⟨h.len, h.vlen, h.room, h.none, ?_, fun j hj => ?_, h.typ⟩
  · rcases h.here with h0 | ⟨b, off, ha, hc⟩
    · exact .inl h0
    · exact .inr ⟨b, off, ha, fun t u hu => ht.cell (hc t u hu) (hn b (.inl ⟨_, ha, rfl⟩))⟩
  · obtain ⟨ao, k, c, e, hE⟩ := h.ends j hj
    refine ⟨ao, k, c, e, hE.keep ht (fun ad ha => hn _ (.inr ⟨vs.getD j undef, ?_, ad, k, c, by rw [e, ha], rfl⟩))⟩
    rw [List.getD_eq_getElem?_getD, List.getElem?_eq_getElem (by rw [h.vlen, h.len]; exact hj)]
    exact List.getElem_mem _
theorem InC.below {w w' : World} {a : Option Addr} {n cap : Nat} {ls : List Cm} {vs : List Value} (h : InC w a n cap ls vs) (hb : Below w.heap.size w w') : InC w' a n cap ls vs := by
  refine ⟨h.len, h.vlen, h.room, h.none, ?_, fun j hj => ?_, h.typ⟩
  · rcases h.here with h0 | ⟨b, off, ha, hc⟩
    · exact .inl h0
    · exact .inr ⟨b, off, ha, fun t u hu => (hb.cell (p := ⟨b, off + t, .none⟩) (block_lt_of_cell (hc t u hu))).trans (hc t u hu)⟩
  · obtain ⟨ao, k, c, e, hE⟩ := h.ends j hj
    exact ⟨ao, k, c, e, hE.below hb⟩
theorem InC.block {w : World} {a : Option Addr} {n c : Nat} {ls : List Cm} {vs : List Value} (h : InC w a n c ls vs) (hn : 0 < n) : ∃ b off, a = some ⟨b, off, .none⟩ := by
  rcases h.here with h0 | ⟨b, off, ha, _⟩
  · have := h.len; rw [h0] at this; simp at this; omega
  · exact ⟨b, off, ha⟩
/-- One command in memory. -/
structure CAt (w : World) (b o : Nat) (x : Cm) (v : Value) : Prop where
  c0 : w.cell? ⟨b, o, none⟩ = some (.int .i64 x.node)
  c1 : w.cell? ⟨b, o + 1, none⟩ = some (.int .i64 x.boot)
  c2 : w.cell? ⟨b, o + 2, none⟩ = some (.int .i64 x.seq)
  c3 : w.cell? ⟨b, o + 3, none⟩ = some (.int .i64 x.time)
  c4 : w.cell? ⟨b, o + 4, none⟩ = some (.int .i64 x.kind)
  c5 : w.cell? ⟨b, o + 5, none⟩ = some (.int .u32 x.vip)
  c6 : w.cell? ⟨b, o + 6, none⟩ = some (.int .i64 x.proto)
  c7 : w.cell? ⟨b, o + 7, none⟩ = some (.int .i64 x.port)
  c8 : w.cell? ⟨b, o + 8, none⟩ = some v
  c9 : w.cell? ⟨b, o + 9, none⟩ = some (.int .u32 x.dip)
  c10 : w.cell? ⟨b, o + 10, none⟩ = some (.int .u32 x.cvip)
  c11 : w.cell? ⟨b, o + 11, none⟩ = some (.bool x.up)
theorem InC.cell {w : World} {b off n c : Nat} {ls : List Cm} {vs : List Value} (h : InC w (some ⟨b, off, .none⟩) n c ls vs) {j : Nat} (hj : j < n) : CAt w b (off + j * 12) (ls.getD j cm0) (vs.getD j undef) := by
  have hl := h.len
  rcases h.here with h0 | ⟨b', off', ha, hc⟩
  · rw [h0] at hl; simp at hl; omega
  · cases ha
    have g : ∀ i, i < 12 → ∀ u, ((ls.getD j cm0).cs (vs.getD j undef))[i]? = some u → w.cell? ⟨b, off + (j * 12 + i), .none⟩ = some u := fun i hi u hu => hc (j * 12 + i) u ((cellsC_at h.vlen (by omega) hi).trans hu)
    have e := fun i => Nat.add_assoc off (j * 12) i
    refine ⟨g 0 (by omega) _ rfl, ?_, ?_, ?_, ?_, ?_, ?_, ?_, ?_, ?_, ?_, ?_⟩
    · rw [e]; exact g 1 (by omega) _ rfl
    · rw [e]; exact g 2 (by omega) _ rfl
    · rw [e]; exact g 3 (by omega) _ rfl
    · rw [e]; exact g 4 (by omega) _ rfl
    · rw [e]; exact g 5 (by omega) _ rfl
    · rw [e]; exact g 6 (by omega) _ rfl
    · rw [e]; exact g 7 (by omega) _ rfl
    · rw [e]; exact g 8 (by omega) _ rfl
    · rw [e]; exact g 9 (by omega) _ rfl
    · rw [e]; exact g 10 (by omega) _ rfl
    · rw [e]; exact g 11 (by omega) _ rfl
theorem memC {ls : List Cm} {i : Nat} (hi : i < ls.length) : ls.getD i cm0 ∈ ls := by
  rw [List.getD_eq_getElem?_getD, List.getElem?_eq_getElem hi]
  exact List.getElem_mem _
theorem InC.ty {w : World} {a : Option Addr} {n c : Nat} {ls : List Cm} {vs : List Value} (h : InC w a n c ls vs) {j : Nat} (hj : j < n) : TyC (ls.getD j cm0) := h.typ _ (memC (by rw [h.len]; exact hj))
theorem CAt.map {w w' : World} {b o : Nat} {x : Cm} {v : Value} (h : CAt w b o x v) (hm : ∀ (k : Nat) (v : Value), w.cell? ⟨b, k, none⟩ = some v → w'.cell? ⟨b, k, none⟩ = some v) : CAt w' b o x v :=
  ⟨hm _ _ h.c0, hm _ _ h.c1, hm _ _ h.c2, hm _ _ h.c3, hm _ _ h.c4, hm _ _ h.c5, hm _ _ h.c6, hm _ _ h.c7, hm _ _ h.c8, hm _ _ h.c9, hm _ _ h.c10, hm _ _ h.c11⟩
theorem CAt.below {w w' : World} {b o : Nat} {x : Cm} {v : Value} (h : CAt w b o x v) (hb : Below w.heap.size w w') : CAt w' b o x v :=
  h.map (fun k u hc => (hb.cell (p := ⟨b, k, none⟩) (block_lt_of_cell hc)).trans hc)
theorem CAt.tch {T : Nat → Prop} {w w' : World} {b o : Nat} {x : Cm} {v : Value} (h : CAt w b o x v) (ht : Tch T w w') (hn : ¬ T b) : CAt w' b o x v :=
  h.map (fun k u hc => ht.cell hc hn)
theorem CAt.lt {w : World} {b o : Nat} {x : Cm} {v : Value} (h : CAt w b o x v) : b < w.heap.size := block_lt_of_cell h.c0
theorem cAt_new (w : World) (x : Cm) (v : Value) : CAt (w.alloc (x.obj v)) w.heap.size 0 x v := by
  refine ⟨?_, ?_, ?_, ?_, ?_, ?_, ?_, ?_, ?_, ?_, ?_, ?_⟩ <;> (rw [World.cell?_alloc_mark]; rfl)
theorem inC_nil (w : World) : InC w none 0 0 [] [] := ⟨rfl, rfl, Nat.le_refl _, fun _ => rfl, .inl rfl, fun j hj => by omega, fun c hc => by cases hc⟩
theorem inC_nilAt (w : World) (a : Option Addr) (c : Nat) (h : a = Option.none → c = 0) : InC w a 0 c [] [] := ⟨rfl, rfl, Nat.zero_le _, h, .inl rfl, fun j hj => by omega, fun c hc => by cases hc⟩
theorem InC.zero {w : World} {a : Option Addr} {n cap : Nat} {ls : List Cm} {vs : List Value} (h : InC w a n cap ls vs) : a = Option.none → n = 0 ∧ cap = 0 := fun e => by
  have h1 := h.none e
  have h2 := h.room
  exact ⟨by omega, h1⟩
theorem own_inC {w : World} {B n c : Nat} {ao : Option Addr} {ls : List Cm} {vs : List Value} (h : w.ownsRow B tyC 12 (.slice ao n c) n (cellsC ls vs)) (hv : vs.length = ls.length) (he : ∀ j, j < n → ∃ ao k c, vs.getD j undef = .slice ao k c ∧ InE w ao k c (ls.getD j cm0).es) (ht : ∀ c ∈ ls, TyC c) : InC w ao n c ls vs := by
  have hl : ls.length = n := by have := h.1; rw [cellsC_len hv] at this; omega
  rcases h.2 with ⟨e, h0⟩ | ⟨g, cap, cur, e, _, hg, h1, h2, h3, h4⟩
  · simp only [Value.slice.injEq] at e
    obtain ⟨rfl, rfl, rfl⟩ := e
    exact ⟨hl, hv, Nat.le_refl _, fun _ => rfl, .inl (List.eq_nil_of_length_eq_zero hl), he, ht⟩
  · simp only [Value.slice.injEq] at e
    obtain ⟨rfl, _, rfl⟩ := e
    refine ⟨hl, hv, h1, (fun e => by cases e), .inr ⟨g, 0, rfl, fun t u hu => ?_⟩, he, ht⟩
    rw [Nat.zero_add, cell_of_row w g t _ _ _ hg, ← Array.getElem?_toList]
    rw [← h4, List.getElem?_take] at hu
    split at hu
    · exact hu
    · cases hu
theorem take_moreC (ls : List Cm) {i : Nat} (hi : i < ls.length) : ls.take (i + 1) = ls.take i ++ [ls.getD i cm0] := take_more ls cm0 hi
theorem memV {vs : List Value} {i : Nat} (hi : i < vs.length) : vs.getD i undef ∈ vs := by
  rw [List.getD_eq_getElem?_getD, List.getElem?_eq_getElem hi]
  exact List.getElem_mem _
end Go.Proofs.Ytnhnpfhfcbmmlaa
