/- Rows of entries in memory; the document's table. No conditions but those stated. -/
import Derived.Test.YtpbgccidhpfmgaaFwP
import Derived.Test.YtpbgccidhpfmgaaTch
import Derived.Test.YtpbgccidhpfmgaaRowI
namespace Go.Proofs.Ytpbgccidhpfmgaa
open Go Go.RowKit
set_option linter.unusedVariables false
set_option linter.unusedSimpArgs false

abbrev tyE : TypeId := 43
theorem infoE : (Try.prog.info? 43).map (fun i => (i.zero, i.size, i.bytes)) = some (some (.agg #[.int .i64 0, .int .u32 0, .int .i64 0, .int .u32 0, .int .i64 0, .int .u32 0, .int .i64 0, .bool false, .bool false, .int .i64 0]), 10, 72) := by kernel_rfl
def csE (e : En) : List Value := [.int .i64 e.f.p, .int .u32 e.f.s, .int .i64 e.f.sp, .int .u32 e.f.d, .int .i64 e.f.dp, .int .u32 e.dip, .int .i64 e.ep, .bool e.tr, .bool e.cl, .int .i64 e.la]
abbrev En.val (e : En) : Value := .agg #[.int .i64 e.f.p, .int .u32 e.f.s, .int .i64 e.f.sp, .int .u32 e.f.d, .int .i64 e.f.dp, .int .u32 e.dip, .int .i64 e.ep, .bool e.tr, .bool e.cl, .int .i64 e.la]
abbrev En.obj (e : En) : Obj := .cells #[.int .i64 e.f.p, .int .u32 e.f.s, .int .i64 e.f.sp, .int .u32 e.f.d, .int .i64 e.f.dp, .int .u32 e.dip, .int .i64 e.ep, .bool e.tr, .bool e.cl, .int .i64 e.la] tyE
def cellsE (l : List En) : List Value := l.flatMap csE
theorem cellsE_app (l m : List En) : cellsE (l ++ m) = cellsE l ++ cellsE m := by unfold cellsE; rw [List.flatMap_append]
theorem cellsE_one (e : En) : cellsE [e] = csE e := by simp [cellsE]
theorem cellsE_cons (e : En) (l : List En) : cellsE (e :: l) = csE e ++ cellsE l := rfl
theorem csE_len (e : En) : (csE e).length = 10 := rfl
theorem cellsE_len (l : List En) : (cellsE l).length = l.length * 10 := by
  induction l with
  | nil => rfl
  | cons e l ih =>
    rw [cellsE_cons, List.length_append, ih, List.length_cons, csE_len]
    omega
theorem cellsE_at : ∀ {l : List En} {j i : Nat}, j < l.length → i < 10 → (cellsE l)[j * 10 + i]? = (csE (l.getD j en0))[i]?
  | [], j, i, hj, _ => by simp at hj
  | e :: l, 0, i, _, hi => by
    rw [cellsE_cons, Nat.zero_mul, Nat.zero_add, List.getD_cons_zero]
    exact List.getElem?_append_left (by rw [csE_len]; omega)
  | e :: l, j + 1, i, hj, hi => by
    have h := cellsE_at (l := l) (j := j) (i := i) (by simpa using hj) hi
    rw [cellsE_cons, List.getD_cons_succ, List.getElem?_append_right (by rw [csE_len]; omega), ← h]
    congr 1
    rw [csE_len]
    omega
theorem csE_one1 (e : En) : ∀ u ∈ csE e, u.oneCell' = true := by
  intro u hu
  simp only [csE, List.mem_cons, List.not_mem_nil, or_false] at hu
  rcases hu with rfl | rfl | rfl | rfl | rfl | rfl | rfl | rfl | rfl | rfl <;> rfl
theorem cellsE_one1 (l : List En) : ∀ u ∈ cellsE l, u.oneCell' = true := by
  intro u hu
  unfold cellsE at hu
  obtain ⟨e, _, he⟩ := List.mem_flatMap.1 hu
  exact csE_one1 e u he
/-- An entry lies in memory; a flow does. -/
def EnAt (w : World) (b off : Nat) (e : En) : Prop := w.cell? ⟨b, off, none⟩ = some (.int .i64 e.f.p) ∧ w.cell? ⟨b, off + 1, none⟩ = some (.int .u32 e.f.s) ∧ w.cell? ⟨b, off + 2, none⟩ = some (.int .i64 e.f.sp) ∧ w.cell? ⟨b, off + 3, none⟩ = some (.int .u32 e.f.d) ∧ w.cell? ⟨b, off + 4, none⟩ = some (.int .i64 e.f.dp) ∧ w.cell? ⟨b, off + 5, none⟩ = some (.int .u32 e.dip) ∧ w.cell? ⟨b, off + 6, none⟩ = some (.int .i64 e.ep) ∧ w.cell? ⟨b, off + 7, none⟩ = some (.bool e.tr) ∧ w.cell? ⟨b, off + 8, none⟩ = some (.bool e.cl) ∧ w.cell? ⟨b, off + 9, none⟩ = some (.int .i64 e.la)
def FlIn (w : World) (b off : Nat) (f : Fl) : Prop := w.cell? ⟨b, off, none⟩ = some (.int .i64 f.p) ∧ w.cell? ⟨b, off + 1, none⟩ = some (.int .u32 f.s) ∧ w.cell? ⟨b, off + 2, none⟩ = some (.int .i64 f.sp) ∧ w.cell? ⟨b, off + 3, none⟩ = some (.int .u32 f.d) ∧ w.cell? ⟨b, off + 4, none⟩ = some (.int .i64 f.dp)
theorem enAt_of {w : World} {b off : Nat} {e : En} (h : ∀ i, i < 10 → w.cell? ⟨b, off + i, none⟩ = (csE e)[i]?) : EnAt w b off e :=
  ⟨h 0 (by omega), h 1 (by omega), h 2 (by omega), h 3 (by omega), h 4 (by omega), h 5 (by omega), h 6 (by omega), h 7 (by omega), h 8 (by omega), h 9 (by omega)⟩
theorem EnAt.map {w w' : World} {b off : Nat} {e : En} (h : EnAt w b off e) (hm : ∀ (o : Nat) (v : Value), w.cell? ⟨b, o, none⟩ = some v → w'.cell? ⟨b, o, none⟩ = some v) : EnAt w' b off e := by
  obtain ⟨h0, h1, h2, h3, h4, h5, h6, h7, h8, h9⟩ := h
  exact ⟨hm _ _ h0, hm _ _ h1, hm _ _ h2, hm _ _ h3, hm _ _ h4, hm _ _ h5, hm _ _ h6, hm _ _ h7, hm _ _ h8, hm _ _ h9⟩
theorem EnAt.below {w w' : World} {B b off : Nat} {e : En} (h : EnAt w b off e) (hb : Below B w w') (hB : b < B) : EnAt w' b off e :=
  h.map (fun o v hc => (hb.cell (p := ⟨b, o, none⟩) hB).trans hc)
theorem EnAt.tch {T : Nat → Prop} {w w' : World} {b off : Nat} {e : En} (h : EnAt w b off e) (ht : Tch T w w') (hn : ¬ T b) : EnAt w' b off e :=
  h.map (fun o v hc => ht.cell hc hn)
theorem EnAt.flow {w : World} {b off : Nat} {e : En} (h : EnAt w b off e) : FlIn w b off e.f := by
  obtain ⟨h0, h1, h2, h3, h4, _⟩ := h
  exact ⟨h0, h1, h2, h3, h4⟩
theorem EnAt.lt {w : World} {b off : Nat} {e : En} (h : EnAt w b off e) : b < w.heap.size := block_lt_of_cell h.1
theorem enAt_new (w : World) (e : En) : EnAt (w.alloc e.obj) w.heap.size 0 e := by
  refine enAt_of (fun i hi => ?_)
  have := cells_new w (csE e) tyE (0, 0) i ((csE e)[i]'hi) (List.getElem?_eq_getElem hi)
  rw [show w.alloc e.obj = w.alloc (.cells (csE e).toArray tyE (0, 0)) from rfl, this, List.getElem?_eq_getElem hi]
/-- A row of entries of the call's own: its cells. -/
theorem ownE_len {w : World} {B n : Nat} {v : Value} {l : List En} (h : w.ownsRow B tyE 10 v n (cellsE l)) : l.length = n := by have := h.1; rw [cellsE_len] at this; omega
theorem ownE_cell {w : World} {B n c : Nat} {ao : Option Addr} {l : List En} (h : w.ownsRow B tyE 10 (.slice ao n c) n (cellsE l)) {j : Nat} (hj : j < n) : ∃ g, ao = some ⟨g, 0, none⟩ ∧ B ≤ g ∧ EnAt w g (j * 10) (l.getD j en0) := by
  have hl := ownE_len h
  rcases h.2 with ⟨_, h0⟩ | ⟨g, cap, cur, e, hB, hg, h1, h2, h3, h4⟩
  · omega
  · simp only [Value.slice.injEq] at e
    obtain ⟨rfl, _, rfl⟩ := e
    refine ⟨g, rfl, hB, enAt_of (fun i hi => ?_)⟩
    rw [cell_of_row w g _ _ _ _ hg, ← cellsE_at (by omega) hi, ← h4, List.getElem?_take, if_pos (by omega), Array.getElem?_toList]
theorem own_blkE {w : World} {B n size : Nat} {e : TypeId} {v : Value} {xs : List Value} (h : w.ownsRow B e size v n xs) {k : Nat} (hk : v.ownBlock = some k) : B ≤ k := (h.lt k hk).1
theorem en_new (w : World) (e : En) : ∀ j u, (csE e)[j]? = some u → (w.alloc (.cells (csE e).toArray tyE)).cell? ((⟨w.heap.size, 0, none⟩ : Addr).add j) = some u := fun j u h => by
  rw [Go.WideShapes.add_plain]
  exact cells_new w (csE e) tyE (0, 0) j u h
/-- The document's table: its block, its row, its quotas. -/
structure RtM (w : World) (B m : Nat) (qt qu : Int) (l : List En) (ao : Option Addr) (n c : Nat) : Prop where
  here : w.heap[m]? = some (.cells #[.slice ao n c, .int .i64 qt, .int .i64 qu] 34 (0, 0))
  hm : B ≤ m
  row : w.ownsRow B tyE 10 (.slice ao n c) n (cellsE l)
  away : (Value.slice ao n c).ownBlock ≠ some m
theorem RtM.c0 {w : World} {B m n c : Nat} {qt qu : Int} {l : List En} {ao : Option Addr} (h : RtM w B m qt qu l ao n c) : w.cell? ⟨m, 0, none⟩ = some (.slice ao n c) := cell_of_row w m 0 _ _ _ h.here
theorem RtM.c1 {w : World} {B m n c : Nat} {qt qu : Int} {l : List En} {ao : Option Addr} (h : RtM w B m qt qu l ao n c) : w.cell? ⟨m, 1, none⟩ = some (.int .i64 qt) := cell_of_row w m 1 _ _ _ h.here
theorem RtM.c2 {w : World} {B m n c : Nat} {qt qu : Int} {l : List En} {ao : Option Addr} (h : RtM w B m qt qu l ao n c) : w.cell? ⟨m, 2, none⟩ = some (.int .i64 qu) := cell_of_row w m 2 _ _ _ h.here
theorem RtM.free {w : World} {B m n c : Nat} {qt qu : Int} {l : List En} {ao : Option Addr} (h : RtM w B m qt qu l ao n c) : w.frozen? ⟨m, 0, none⟩ = false := frozen_of_row w m 0 _ _ h.here
theorem RtM.lt {w : World} {B m n c : Nat} {qt qu : Int} {l : List En} {ao : Option Addr} (h : RtM w B m qt qu l ao n c) : m < w.heap.size := lt_of_block h.here
theorem RtM.keep {T : Nat → Prop} {w w' : World} {B m n c : Nat} {qt qu : Int} {l : List En} {ao : Option Addr} (h : RtM w B m qt qu l ao n c) (ht : Tch T w w') (hm : ¬ T m) (hn : ∀ k, (Value.slice ao n c).ownBlock = some k → ¬ T k) : RtM w' B m qt qu l ao n c :=
  ⟨ht.at h.here hm, h.hm, ht.own h.row hn, h.away⟩
theorem RtM.blk {w : World} {B m n c : Nat} {qt qu : Int} {l : List En} {ao : Option Addr} (h : RtM w B m qt qu l ao n c) {k : Nat} (hk : (Value.slice ao n c).ownBlock = some k) : B ≤ k ∧ k < w.heap.size := h.row.lt k hk
structure RtS (w : World) (B : Nat) (F : Nat → Prop) (m : Nat) (qt qu : Int) (l : List En) : Prop where
  here : ∃ ao n c, RtM w B m qt qu l ao n c ∧ ∀ k, F k ↔ k = m ∨ (Value.slice ao n c).ownBlock = some k
theorem RtS.keep {T : Nat → Prop} {w w' : World} {B m : Nat} {F : Nat → Prop} {qt qu : Int} {l : List En} (h : RtS w B F m qt qu l) (ht : Tch T w w') (hn : ∀ k, F k → ¬ T k) : RtS w' B F m qt qu l := by
  obtain ⟨ao, n, c, hM, hF⟩ := h.here
  exact ⟨ao, n, c, hM.keep ht (hn m ((hF m).2 (.inl rfl))) (fun k hk => hn k ((hF k).2 (.inr hk))), hF⟩
theorem RtS.blocks {w : World} {B m : Nat} {F : Nat → Prop} {qt qu : Int} {l : List En} (h : RtS w B F m qt qu l) : ∀ k, F k → B ≤ k ∧ k < w.heap.size := fun k hk => by
  obtain ⟨ao, n, c, hM, hF⟩ := h.here
  rcases (hF k).1 hk with rfl | hk
  · exact ⟨hM.hm, hM.lt⟩
  · exact hM.blk hk
/-- What a call on it leaves. -/
def RtTo (w : World) (B : Nat) (F : Nat → Prop) (m : Nat) (qt qu : Int) (l : List En) (F2 : Nat → Prop) (w' : World) : Prop :=
  RtS w' B F2 m qt qu l ∧ (∀ k, F2 k → F k ∨ w.heap.size ≤ k) ∧ Tch F w w'
theorem RtTo.same {w w' : World} {B m : Nat} {F : Nat → Prop} {qt qu : Int} {l : List En} (h : RtS w B F m qt qu l) (ht : Tch Non w w') : RtTo w B F m qt qu l F w' :=
  ⟨h.keep ht (fun _ _ h => h), fun k hk => .inl hk, ht.mono (fun _ h => h.elim)⟩
theorem RtTo.trans {a b c : World} {B m : Nat} {F F2 F3 : Nat → Prop} {qt qu : Int} {l k : List En} (h : RtTo a B F m qt qu l F2 b) (h2 : RtTo b B F2 m qt qu k F3 c) : RtTo a B F m qt qu k F3 c := by
  refine ⟨h2.1, fun k hk => ?_, h.2.2.trans' h2.2.2 (fun k hk h3 => ?_)⟩
  · rcases h2.2.1 k hk with h3 | h3
    · exact h.2.1 k h3
    · exact .inr (Nat.le_trans h.2.2.size h3)
  · rcases h.2.1 k h3 with h4 | h4
    · exact h4
    · omega
/-- Its new row laid. -/
theorem RtM.put {w w2 : World} {B m n c n2 c2 : Nat} {qt qu : Int} {l k : List En} {ao a2 : Option Addr} (h : RtM w B m qt qu l ao n c) (hB : B ≤ w.heap.size) (hb : Below w.heap.size w w2) (ho : w2.ownsRow w.heap.size tyE 10 (.slice a2 n2 c2) n2 (cellsE k)) :
    RtM (w2.setCell ⟨m, 0, none⟩ (.slice a2 n2 c2)) B m qt qu k a2 n2 c2 ∧ Tch (· = m) w (w2.setCell ⟨m, 0, none⟩ (.slice a2 n2 c2)) := by
  have hl := h.lt
  have h2 := h.keep (tch_new hb) (fun h => h) (fun _ _ h => h)
  have ha : ∀ k, (Value.slice a2 n2 c2).ownBlock = some k → w.heap.size ≤ k := fun k hk => own_blkE ho hk
  have ht := tch_set w2 ⟨m, 0, none⟩ (.slice a2 n2 c2)
  refine ⟨⟨?_, h.hm, own_base (ht.own ho (fun k hk e => ?_)) hB, fun e => ?_⟩, ((tch_new hb).mono (fun _ h => h.elim)).trans ht⟩
  · exact heap_setCell_same w2 m 0 _ _ _ h2.here
  · have := ha k hk
    have e' : k = m := e
    omega
  · have := ha m e
    omega
end Go.Proofs.Ytpbgccidhpfmgaa
