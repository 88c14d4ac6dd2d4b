/- Letters; a list of letters in memory with the number of the last one. No conditions but those stated. -/
import Derived.Test.YtkiccdgfhahdlaaTch
import Derived.Test.YtkiccdgfhahdlaaQStB
import Derived.Laws.Pointers
namespace Go.Proofs.Ytkiccdgfhahdlaa
open Go Go.RowKit
set_option linter.unusedVariables false
set_option linter.unusedSimpArgs false

structure Lt where
  id : Int
  frm : Int
  dst : Int
  ctl : Bool
  bs : List Int
def lt0 : Lt := ⟨0, 0, 0, false, []⟩
instance : Inhabited Lt := ⟨lt0⟩
/-- A letter as a value, its bytes at v. -/
def Lt.val (l : Lt) (v : Value) : Value := .agg #[.int .i64 l.id, .int .i64 l.frm, .int .i64 l.dst, .bool l.ctl, v]
def Lt.cs (l : Lt) (v : Value) : List Value := [.int .i64 l.id, .int .i64 l.frm, .int .i64 l.dst, .bool l.ctl, v]
def cellsL : List Lt → List Value → List Value
  | l :: ls, v :: vs => l.cs v ++ cellsL ls vs
  | _, _ => []
theorem cellsL_len : ∀ {ls : List Lt} {vs : List Value}, vs.length = ls.length → (cellsL ls vs).length = ls.length * 5
  | [], [], _ => rfl
  | l :: ls, v :: vs, h => by
    have := cellsL_len (ls := ls) (vs := vs) (by simpa using h)
    simp only [cellsL, Lt.cs, List.length_append, List.length_cons, List.length_nil, this]
    omega
  | [], _ :: _, h => by simp at h
  | _ :: _, [], h => by simp at h
theorem cellsL_app : ∀ {ls : List Lt} {vs : List Value}, vs.length = ls.length → ∀ {ms : List Lt} {us : List Value}, cellsL (ls ++ ms) (vs ++ us) = cellsL ls vs ++ cellsL ms us
  | [], [], _, _, _ => rfl
  | l :: ls, v :: vs, h, ms, us => by
    have := cellsL_app (ls := ls) (vs := vs) (by simpa using h) (ms := ms) (us := us)
    simp only [List.cons_append, cellsL, this, List.append_assoc]
  | [], _ :: _, h, _, _ => by simp at h
  | _ :: _, [], h, _, _ => by simp at h
theorem cellsL_one (l : Lt) (v : Value) : cellsL [l] [v] = l.cs v := by simp [cellsL]
theorem cellsL_at : ∀ {ls : List Lt} {vs : List Value}, vs.length = ls.length → ∀ {j i : Nat}, j < ls.length → i < 5 → (cellsL ls vs)[j * 5 + i]? = ((ls.getD j lt0).cs (vs.getD j undef))[i]?
  | [], [], _, j, i, hj, _ => by simp at hj
  | l :: ls, v :: vs, h, 0, i, _, hi => by
    simp only [cellsL, Nat.zero_mul, Nat.zero_add, List.getD_cons_zero]
    exact List.getElem?_append_left (by simp [Lt.cs]; omega)
  | l :: ls, v :: vs, h, j + 1, i, hj, hi => by
    have := cellsL_at (ls := ls) (vs := vs) (by simpa using h) (j := j) (i := i) (by simpa using hj) hi
    simp only [cellsL, List.getD_cons_succ]
    rw [List.getElem?_append_right (by simp [Lt.cs]; omega), ← this]
    congr 1
    simp [Lt.cs]
    omega
  | [], _ :: _, h, _, _, _, _ => by simp at h
  | _ :: _, [], h, _, _, _, _ => by simp at h
theorem cellsL_take : ∀ {ls : List Lt} {vs : List Value}, vs.length = ls.length → ∀ j, (cellsL ls vs).take (j * 5) = cellsL (ls.take j) (vs.take j)
  | [], [], _, j => by simp [cellsL]
  | l :: ls, v :: vs, h, 0 => by simp [cellsL]
  | l :: ls, v :: vs, h, j + 1 => by
    have := cellsL_take (ls := ls) (vs := vs) (by simpa using h) j
    simp only [cellsL, List.take_succ_cons]
    rw [List.take_append, List.take_of_length_le (by simp [Lt.cs]; omega), ← this]
    congr 2
    simp [Lt.cs]
    omega
  | [], _ :: _, h, _ => by simp at h
  | _ :: _, [], h, _ => by simp at h
theorem cellsL_drop : ∀ {ls : List Lt} {vs : List Value}, vs.length = ls.length → ∀ j, (cellsL ls vs).drop (j * 5) = cellsL (ls.drop j) (vs.drop j)
  | [], [], _, j => by simp [cellsL]
  | l :: ls, v :: vs, h, 0 => by simp [cellsL]
  | l :: ls, v :: vs, h, j + 1 => by
    have := cellsL_drop (ls := ls) (vs := vs) (by simpa using h) j
    simp only [cellsL, List.drop_succ_cons]
    rw [List.drop_append, List.drop_eq_nil_of_le (by simp [Lt.cs]; omega), List.nil_append, ← this]
    congr 1
    simp [Lt.cs]
    omega
  | [], _ :: _, h, _ => by simp at h
  | _ :: _, [], h, _ => by simp at h
theorem cellsL_one1 : ∀ {ls : List Lt} {vs : List Value}, (∀ v ∈ vs, v.oneCell' = true) → ∀ u ∈ cellsL ls vs, u.oneCell' = true
  | [], _, _, u, hu => by simp [cellsL] at hu
  | _ :: _, [], _, u, hu => by simp [cellsL] at hu
  | l :: ls, v :: vs, h, u, hu => by
    simp only [cellsL, List.mem_append] at hu
    rcases hu with hu | hu
    · simp only [Lt.cs, List.mem_cons, List.not_mem_nil, or_false] at hu
      rcases hu with rfl | rfl | rfl | rfl | rfl
      · rfl
      · rfl
      · rfl
      · rfl
      · exact h _ List.mem_cons_self
    · exact cellsL_one1 (fun v hv => h v (List.mem_cons_of_mem _ hv)) u hu
theorem Rws.cells {w : World} {B : Nat} : ∀ {vs : List Value} {ps : List (List Int)}, Rws w B vs ps → ∀ u ∈ vs, u.oneCell' = true
  | [], [], _, u, hu => by cases hu
  | v :: vs, p :: ps, h, u, hu => (List.mem_cons.1 hu).elim (fun e => by
      obtain ⟨a, c, hv⟩ := own_form h.1.1
      rw [e, hv]
      rfl) (fun hu => Rws.cells h.2 u hu)
  | [], _ :: _, h, _, _ => h.elim
  | _ :: _, [], h, _, _ => h.elim
theorem Rws.erase {w : World} {B : Nat} : ∀ {vs : List Value} {ps : List (List Int)}, Rws w B vs ps → ∀ j, Rws w B (vs.eraseIdx j) (ps.eraseIdx j)
  | [], [], _, j => by simp [Rws]
  | _ :: _, _ :: _, h, 0 => h.2
  | _ :: vs, _ :: ps, h, j + 1 => ⟨h.1, Rws.erase h.2 j⟩
  | [], _ :: _, h, _ => h.elim
  | _ :: _, [], h, _ => h.elim
theorem own_kinds {w : World} {B B' n k s s' : Nat} {e e' : TypeId} {v u : Value} {xs ys : List Value} (h : w.ownsRow B e s v n xs) (h2 : w.ownsRow B' e' s' u k ys) (hne : e ≠ e') : Aprt v u := by
  intro g hg hg2
  rcases h.2 with ⟨rfl, _⟩ | ⟨g1, _, _, rfl, _, e1, _⟩
  · cases hg
  rcases h2.2 with ⟨rfl, _⟩ | ⟨g2, _, _, rfl, _, e2, _⟩
  · cases hg2
  have i1 : g1 = g := by cases hg; rfl
  have i2 : g2 = g := by cases hg2; rfl
  subst i1
  subst i2
  rw [e1] at e2
  simp at e2
  exact hne e2.2
abbrev tyL : TypeId := 45
/-- The letters at m, and the last one's number. -/
structure LsM (w : World) (B m : Nat) (ls : List Lt) (last : Nat) (ao : Option Addr) (n c : Nat) (vs : List Value) : Prop where
  c0 : w.cell? ⟨m, 0, none⟩ = some (.slice ao n c)
  c1 : w.cell? ⟨m, 1, none⟩ = some (.int .i64 last)
  free : ∀ o, w.frozen? ⟨m, o, none⟩ = false
  hm : B ≤ m
  row : w.ownsRow B tyL 5 (.slice ao n c) n (cellsL ls vs)
  rows : Rws w B vs (ls.map (·.bs))
  apart : vs.Pairwise Aprt
  away : ∀ v ∈ vs, v.ownBlock ≠ some m
  away0 : (Value.slice ao n c).ownBlock ≠ some m
/-- The blocks that it lies in, but for its own. -/
def RfB (ao : Option Addr) (n c : Nat) (vs : List Value) (k : Nat) : Prop := (Value.slice ao n c).ownBlock = some k ∨ ∃ v ∈ vs, v.ownBlock = some k
section
variable {w w' : World} {B m last n c : Nat} {ls : List Lt} {ao : Option Addr} {vs : List Value}
theorem LsM.vlen (h : LsM w B m ls last ao n c vs) : vs.length = ls.length := by
  have := h.rows.len
  simpa using this
theorem LsM.len (h : LsM w B m ls last ao n c vs) : ls.length = n := by
  have h1 := h.row.1
  rw [cellsL_len h.vlen] at h1
  omega
theorem LsM.lt (h : LsM w B m ls last ao n c vs) : m < w.heap.size := World.block_lt_of_cell? _ _ h.c0
theorem LsM.far (h : LsM w B m ls last ao n c vs) : ∀ v ∈ vs, Aprt (.slice ao n c) v := fun v hv => by
  obtain ⟨j, hj, rfl⟩ := List.getElem_of_mem hv
  have := h.rows.at (j := j) (by have := h.vlen; simp; omega)
  rw [List.getD_eq_getElem?_getD, List.getElem?_eq_getElem hj] at this
  exact own_kinds h.row this.1 (by decide)
theorem frozen_keep {T : Nat → Prop} (h : Tch T w w') {p : Addr} {v : Value} (hc : w.cell? p = some v) (hn : ¬ T p.block) (o : Nat) : w'.frozen? ⟨p.block, o, none⟩ = w.frozen? ⟨p.block, o, none⟩ :=
  World.frozen?_of_block (h.block p.block (World.block_lt_of_cell? _ _ hc) hn)
theorem LsM.keep {T : Nat → Prop} (h : LsM w B m ls last ao n c vs) (ht : Tch T w w') (hm : ¬ T m) (hn : ∀ k, RfB ao n c vs k → ¬ T k) : LsM w' B m ls last ao n c vs :=
  ⟨ht.cell h.c0 hm, ht.cell h.c1 hm, fun o => (frozen_keep ht h.c0 hm o).trans (h.free o), h.hm, ht.own h.row (fun g hg => hn g (.inl hg)), h.rows.keep ht (fun v hv g hg => hn g (.inr ⟨v, hv, hg⟩)), h.apart, h.away, h.away0⟩
theorem LsM.blocks (h : LsM w B m ls last ao n c vs) : ∀ k, RfB ao n c vs k → B ≤ k ∧ k < w.heap.size := fun k hk => by
  rcases hk with hk | ⟨v, hv, hk⟩
  · exact h.row.lt k hk
  · exact h.rows.blocks v hv k hk
theorem LsM.lower {B' : Nat} (h : LsM w B m ls last ao n c vs) (hb : B' ≤ B) : LsM w B' m ls last ao n c vs :=
  ⟨h.c0, h.c1, h.free, Nat.le_trans hb h.hm, own_base h.row hb, h.rows.base hb, h.apart, h.away, h.away0⟩
/-- A cell of letter j. -/
theorem LsM.cell (h : LsM w B m ls last ao n c vs) {j i : Nat} (hj : j < n) (hi : i < 5) : ∃ g, ao = some ⟨g, 0, none⟩ ∧ w.cell? ⟨g, j * 5 + i, none⟩ = ((ls.getD j lt0).cs (vs.getD j undef))[i]? := by
  have hl := h.len
  rcases h.row.2 with ⟨e, h0⟩ | ⟨g, cap, cur, e, _, hg, h1, h2, h3, h4⟩
  · omega
  · cases e
    refine ⟨g, rfl, ?_⟩
    rw [← cellsL_at h.vlen (by omega) hi, ← h4, List.getElem?_take, if_pos (by omega), cell_of_row w g (j * 5 + i) _ _ _ hg, Array.getElem?_toList]
end
/-- A list of letters: F are all its blocks. -/
structure LSt (w : World) (B : Nat) (F : Nat → Prop) (m : Nat) (ls : List Lt) (last : Nat) : Prop where
  here : ∃ ao n c vs, LsM w B m ls last ao n c vs ∧ ∀ k, F k ↔ k = m ∨ RfB ao n c vs k
theorem LSt.keep {T : Nat → Prop} {w w' : World} {B m last : Nat} {F : Nat → Prop} {ls : List Lt} (h : LSt w B F m ls last) (ht : Tch T w w') (hn : ∀ k, F k → ¬ T k) : LSt w' B F m ls last := by
  obtain ⟨ao, n, c, vs, hM, hF⟩ := h.here
  exact ⟨ao, n, c, vs, hM.keep ht (hn m ((hF m).2 (.inl rfl))) (fun k hk => hn k ((hF k).2 (.inr hk))), hF⟩
theorem LSt.blocks {w : World} {B m last : Nat} {F : Nat → Prop} {ls : List Lt} (h : LSt w B F m ls last) : ∀ k, F k → B ≤ k ∧ k < w.heap.size := fun k hk => by
  obtain ⟨ao, n, c, vs, hM, hF⟩ := h.here
  rcases (hF k).1 hk with rfl | hk
  · exact ⟨hM.hm, hM.lt⟩
  · exact hM.blocks k hk
theorem LSt.lower {w : World} {B B' m last : Nat} {F : Nat → Prop} {ls : List Lt} (h : LSt w B F m ls last) (hb : B' ≤ B) : LSt w B' F m ls last := by
  obtain ⟨ao, n, c, vs, hM, hF⟩ := h.here
  exact ⟨ao, n, c, vs, hM.lower hb, hF⟩
theorem LSt.fits {w : World} {B m last : Nat} {F : Nat → Prop} {ls : List Lt} (h : LSt w B F m ls last) : ∀ l ∈ ls, fit l.bs := fun l hl => by
  obtain ⟨ao, n, c, vs, hM, hF⟩ := h.here
  exact hM.rows.fit l.bs (List.mem_map.2 ⟨l, hl, rfl⟩)
/-- A call has turned it: only its own blocks, and it took new ones. -/
def LTo (w : World) (B : Nat) (F : Nat → Prop) (m : Nat) (ls : List Lt) (last : Nat) (F2 : Nat → Prop) (w' : World) : Prop :=
  LSt w' B F2 m ls last ∧ (∀ k, F2 k → F k ∨ w.heap.size ≤ k) ∧ Tch F w w'
theorem LTo.same {T : Nat → Prop} {w w' : World} {B m last : Nat} {F : Nat → Prop} {ls : List Lt} (h : LSt w B F m ls last) (ht : Tch Non w w') : LTo w B F m ls last F w' :=
  ⟨h.keep ht (fun _ _ h => h), fun k hk => .inl hk, ht.mono (fun _ h => h.elim)⟩

/-- Is it a node? -/
def IsNode (n : Int) : Prop := n = 0 ∨ (16 ≤ n ∧ n ≤ 23) ∨ (32 ≤ n ∧ n ≤ 39) ∨ (48 ≤ n ∧ n ≤ 55)
instance (n : Int) : Decidable (IsNode n) := by unfold IsNode; infer_instance
/-- What is sent: the number, an error's number, the letters, the last number. -/
def putR (ls : List Lt) (last : Nat) (l : Lt) : Nat × Nat × List Lt × Nat := if 4096 ≤ ls.length then (0, 5, ls, last) else (last + 1, 0, ls ++ [{ l with id := last + 1 }], last + 1)
def sendR (ls : List Lt) (last : Nat) (frm dst : Int) (ctl : Bool) (bs : List Int) : Nat × Nat × List Lt × Nat := if IsNode frm ∧ IsNode dst then putR ls last ⟨0, frm, dst, ctl, bs⟩ else (0, 12, ls, last)
/-- Where the n-th stands. -/
def plc (n : Int) (c : Nat) : Nat := (n % (c : Int)).toNat
theorem plc_lt (n : Int) {c : Nat} (h : 0 < c) : plc n c < c := by
  unfold plc
  have h1 := Int.emod_nonneg n (show (c : Int) ≠ 0 by omega)
  have h2 := Int.emod_lt_of_pos n (show 0 < (c : Int) by omega)
  omega
def copyR (ls : List Lt) (last : Nat) (n : Int) : Nat × Nat × List Lt × Nat := if ls = [] then (0, 6, ls, last) else putR ls last (ls.getD (plc n ls.length) lt0)
/-- The numbers of letters from a node to a node. -/
def btw (ls : List Lt) (frm dst : Int) : List Int := (ls.filter (fun l => decide (l.frm = frm ∧ l.dst = dst))).map (·.id)
end Go.Proofs.Ytkiccdgfhahdlaa
