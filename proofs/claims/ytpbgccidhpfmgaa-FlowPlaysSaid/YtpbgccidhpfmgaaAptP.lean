/- Facts for towpathnum's Apart: rows of the call's own in blocks of their own, marked, grown. No conditions but those stated. -/
import Derived.Test.YtpbgccidhpfmgaaRow
import Derived.Deep.AppendLies
import Derived.ArgAppend
namespace Go.Proofs.Ytpbgccidhpfmgaa
open Go Go.RowKit
set_option linter.unusedVariables false
set_option linter.unusedSimpArgs false

/-- The mark of place j of row k. -/
def pat (k j : Nat) : Int := (31 * (k : Int) + 7 * (j : Int) + 1) % 256
def pats (k n : Nat) : List Int := (List.range n).map (pat k)
theorem pats_len (k n : Nat) : (pats k n).length = n := by simp [pats]
theorem pats_snoc (k n : Nat) : pats k (n + 1) = pats k n ++ [pat k n] := by simp [pats, List.range_succ]
theorem pats_get {k n j : Nat} (h : j < n) : (pats k n).getD j 0 = pat k j := by
  rw [List.getD_eq_getElem?_getD]
  simp [pats, List.getElem?_map, List.getElem?_range h]
theorem fit_pats (k n : Nat) : fit (pats k n) := by
  intro b hb
  obtain ⟨j, _, rfl⟩ := List.mem_map.1 hb
  unfold pat
  omega
theorem take_set {L : List Int} {k j : Nat} (h : L.take j = pats k j) (hj : j < L.length) : (L.set j (pat k j)).take (j + 1) = pats k (j + 1) := by
  rw [pats_snoc, List.take_succ_eq_append_getElem (by simpa using hj), List.getElem_set_self, List.take_set, h, List.set_eq_of_length_le (by rw [pats_len]; omega)]

theorem grown_new {a b c : World} {r : Option Nat} {g : Nat} (h : a.grownBy b r) (h2 : b.grownBy c (some g)) (hg : a.heap.size ≤ g) : a.grownBy c r :=
  ⟨h2.os.trans h.os, h2.tape.trans h.tape, h2.output.trans h.output, Nat.le_trans h.size h2.size, fun i hi hne => (h2.block i (Nat.lt_of_lt_of_le hi h.size) (fun e => by cases e; omega)).trans (h.block i hi hne)⟩
theorem grown_none {a b c : World} {r : Option Nat} (h : a.grownBy b r) (h2 : b.grownBy c none) : a.grownBy c r :=
  ⟨h2.os.trans h.os, h2.tape.trans h.tape, h2.output.trans h.output, Nat.le_trans h.size h2.size, fun i hi hne => (h2.block i (Nat.lt_of_lt_of_le hi h.size) (fun e => by cases e)).trans (h.block i hi hne)⟩
/-- A row that is read, behind a step that writes one block. -/
theorem At.far {w w' : World} {v : Value} {l : List Int} {r : Option Nat} (h : At w v l) (hg : w.grownBy w' r) (hne : ∀ b off n c, v = .slice (some ⟨b, off, none⟩) n c → some b ≠ r) : At w' v l := by
  obtain ⟨a, cap, rfl, h0 | ⟨b, off, rfl, hc⟩⟩ := h
  · exact ⟨a, cap, rfl, .inl h0⟩
  · refine ⟨_, cap, rfl, .inr ⟨b, off, rfl, fun j hj => ?_⟩⟩
    exact hg.cell (hc j hj) (hne b off _ _ rfl)

/-- The rows' geometry: each has a block of its own. -/
structure Geo (B Lb m : Nat) (vs : Nat → Value) : Prop where
  dist : ∀ i j, i < m → j < m → i ≠ j → (vs i).ownBlock = none ∨ (vs i).ownBlock ≠ (vs j).ownBlock
  away : ∀ i, i < m → (vs i).ownBlock ≠ some Lb
/-- While the rows are marked. -/
structure Mk (w0 : World) (B Lb m : Nat) (vs : Nat → Value) (ns : Nat → Nat) (k j : Nat) (wr : World) : Prop where
  lists : ∀ i, i < m → wr.cell? ⟨Lb, i, none⟩ = some (vs i)
  rows : ∀ i, i < m → ∃ L : List Int, L.length = ns i ∧ wr.ownsRow B 5 1 (vs i) (ns i) (u8s L) ∧ (i < k → L = pats i (ns i)) ∧ (i = k → L.take j = pats k j)
  below : Below B w0 wr
theorem own_block {w : World} {B size n : Nat} {e : TypeId} {v : Value} {xs : List Value} (h : w.ownsRow B e size v n xs) {g cap : Nat} (hv : v = .slice (some ⟨g, 0, none⟩) n cap) : B ≤ g ∧ g < w.heap.size := by
  subst hv
  exact h.lt g rfl
theorem Mk.store {w0 : World} {B Lb m : Nat} {vs : Nat → Value} {ns : Nat → Nat} {k j : Nat} {wr : World} (h : Mk w0 B Lb m vs ns k j wr) (G : Geo B Lb m vs) (hk : k < m) (hj : j < ns k) {g cap : Nat} (hv : vs k = .slice (some ⟨g, 0, none⟩) (ns k) cap) :
    Mk w0 B Lb m vs ns k (j + 1) (wr.setCell ⟨g, j, none⟩ (.int .u8 (pat k j))) := by
  have hg : wr.grownBy (wr.setCell ⟨g, j, none⟩ (.int .u8 (pat k j))) (some g) := ⟨rfl, rfl, rfl, by simp, fun i _ hne => Below.heap_setCell wr ⟨g, j, none⟩ _ i (fun e => hne (by rw [e]))⟩
  have hb : (vs k).ownBlock = some g := by rw [hv]; rfl
  refine ⟨fun i hi => hg.cell (h.lists i hi) ?_, fun i hi => ?_, ?_⟩
  · intro e
    have := G.away k hk
    rw [hb] at this
    exact this (by simpa using e.symm)
  · obtain ⟨L, hl, ho, h1, h2⟩ := h.rows i hi
    by_cases e : i = k
    · subst e
      refine ⟨L.set j (pat i j), by rw [List.length_set, hl], ?_, fun e => absurd e (Nat.lt_irrefl _), fun _ => take_set (h2 rfl) (by omega)⟩
      rw [hv] at ho ⊢
      have := (ho.stored j (.int .u8 (pat i j))).1
      rw [u8s_set] at this
      exact this
    · refine ⟨L, hl, ho.kept hg ?_, h1, fun e' => absurd e' e⟩
      rcases G.dist i k hi hk e with hd | hd
      · exact .inl hd
      · rw [hb] at hd; exact .inr hd
  · obtain ⟨L, hl, ho, _⟩ := h.rows k hk
    exact h.below.setCell (p := ⟨g, j, none⟩) (own_block ho hv).1 _
theorem Mk.next {w0 : World} {B Lb m : Nat} {vs : Nat → Value} {ns : Nat → Nat} {k : Nat} {wr : World} (h : Mk w0 B Lb m vs ns k (ns k) wr) : Mk w0 B Lb m vs ns (k + 1) 0 wr := by
  refine ⟨h.lists, fun i hi => ?_, h.below⟩
  obtain ⟨L, hl, ho, h1, h2⟩ := h.rows i hi
  refine ⟨L, hl, ho, fun e => ?_, fun _ => by simp [pats]⟩
  by_cases e2 : i = k
  · subst e2
    rw [← h2 rfl, List.take_of_length_le (by omega)]
  · exact h1 (by omega)

/-- While the rows are grown: k of them are, as gs; gv holds these. -/
structure Gr (w0 : World) (B Lb m H : Nat) (vs : Nat → Value) (ns : Nat → Nat) (k : Nat) (gs : Nat → Value) (gv : Value) (wr : World) : Prop where
  lists : ∀ i, i < m → wr.cell? ⟨Lb, i, none⟩ = some (vs i)
  old : ∀ i, i < m → At wr (vs i) (pats i (ns i))
  rest : ∀ i, k ≤ i → i < m → wr.ownsRow B 5 1 (vs i) (ns i) (u8s (pats i (ns i)))
  new : ∀ i, i < k → wr.ownsRow B 5 1 (gs i) (ns i + 12) (u8s (pats i (ns i + 12)))
  row : wr.ownsRow B 74 1 gv k ((List.range k).map gs)
  small : ∀ i g, i < m → (vs i).ownBlock = some g → g < H
  lsmall : Lb < H
  from_ : ∀ i, i < k → (gs i).ownBlock = (vs i).ownBlock ∨ ∃ g, (gs i).ownBlock = some g ∧ H ≤ g
  gvb : ∃ g, gv.ownBlock = some g ∧ H ≤ g
  d1 : ∀ i j, i < k → j < k → i ≠ j → (gs i).ownBlock ≠ (gs j).ownBlock
  d3 : ∀ i, i < k → (gs i).ownBlock ≠ gv.ownBlock
  size : H ≤ wr.heap.size
  below : Below B w0 wr
theorem at_block {w : World} {B n : Nat} {v : Value} {l : List Int} (h : w.ownsRow B 5 1 v n (u8s l)) (hn : l.length = n) : ∀ b off k c, v = .slice (some ⟨b, off, none⟩) k c → v.ownBlock = some b := by
  intro b off k c e
  subst e
  rfl
/-- What is held while row k grows from world wk. -/
structure Gw (wk : World) (B k n : Nat) (v l : Value) (n' : Nat) (wr : World) : Prop where
  own : wr.ownsRow B 5 1 l n' (u8s (pats k n'))
  blk : l.ownBlock = v.ownBlock ∨ ∃ g, l.ownBlock = some g ∧ wk.heap.size ≤ g
  grown : wk.grownBy wr v.ownBlock
  at_ : At wr v (pats k n)
theorem Gw.alloc {wk : World} {B k n : Nat} {v l : Value} {n' : Nat} {wr : World} (h : Gw wk B k n v l n' wr) (o : Obj) : Gw wk B k n v l n' (wr.alloc o) :=
  ⟨h.own.alloc o, h.blk, grown_none h.grown (World.grownBy_alloc _ _ _), h.at_.below (bl_al (Below.refl _ _) _)⟩
theorem Gw.fits {wk : World} {B k n : Nat} {v l : Value} {n' : Nat} {wr wr' : World} (h : Gw wk B k n v l n' wr) (hn : n ≤ n') (hvn : ∃ a c, v = .slice a n c) (hvb : ∀ b off m c, v = .slice (some ⟨b, off, none⟩) m c → off = 0 ∧ b < wk.heap.size) {g cap : Nat} (hl : l = .slice (some ⟨g, 0, none⟩) n' cap)
    (ho : wr'.ownsRow B 5 1 (.slice (some ⟨g, 0, none⟩) (n' + 1) cap) (n' + 1) (u8s (pats k (n' + 1)))) (hg : wr.grownBy wr' (some g)) : Gw wk B k n v (.slice (some ⟨g, 0, none⟩) (n' + 1) cap) (n' + 1) wr' := by
  have hlb : l.ownBlock = some g := by rw [hl]; rfl
  refine ⟨ho, ?_, ?_, ?_⟩
  · rcases h.blk with e | ⟨g', e, hg'⟩
    · exact .inl (by rw [← e, hlb]; rfl)
    · rw [hlb] at e
      cases e
      exact .inr ⟨g, rfl, hg'⟩
  · rcases h.blk with e | ⟨g', e, hg'⟩
    · rw [hlb] at e
      rw [← e]
      have hgr := h.grown
      rw [← e] at hgr
      exact hgr.trans hg
    · rw [hlb] at e
      cases e
      exact grown_new h.grown hg hg'
  · obtain ⟨a, c, hv⟩ := hvn
    cases a with
    | none =>
      subst hv
      obtain ⟨a', cap', e, h0 | ⟨b, off, e', _⟩⟩ := h.at_
      · simp only [Value.slice.injEq] at e
        obtain ⟨rfl, e2, rfl⟩ := e
        exact ⟨none, c, by rw [pats_len], .inl h0⟩
      · simp only [Value.slice.injEq] at e
        obtain ⟨rfl, _, _⟩ := e
        cases e'
    | some ad =>
      by_cases hb : some ad.block = some g
      · obtain ⟨b, off, sp⟩ := ad
        obtain ⟨a', cap', e, h0 | ⟨b', off', e', hc⟩⟩ := h.at_
        · refine ⟨a', cap', e, .inl h0⟩
        · subst e'
          rw [hv] at e
          simp only [Value.slice.injEq, Option.some.injEq] at e
          obtain ⟨e1, e2, rfl⟩ := e
          cases e1
          obtain ⟨rfl, hbk⟩ := hvb b off n c hv
          simp only [Option.some.injEq] at hb
          subst hb
          refine ⟨_, c, by rw [hv, pats_len], .inr ⟨b, 0, rfl, fun j hj => ?_⟩⟩
          rw [pats_len] at hj
          rw [Nat.zero_add, (ho.cellAt j (by omega)), u8s_at (by rw [pats_len]; omega), pats_get (by omega), pats_get hj]
      · refine h.at_.far hg ?_
        intro b off m c' e
        rw [hv] at e
        simp only [Value.slice.injEq, Option.some.injEq] at e
        obtain ⟨rfl, _, _⟩ := e
        exact hb
theorem Gw.grows {wk : World} {B k n : Nat} {v l l' : Value} {n' : Nat} {wr wr' : World} (h : Gw wk B k n v l n' wr) (hB : B ≤ wr.heap.size)
    (ho : wr'.ownsRow wr.heap.size 5 1 l' (n' + 1) (u8s (pats k (n' + 1)))) (hg : wr.grownBy wr' none) : Gw wk B k n v l' (n' + 1) wr' := by
  refine ⟨⟨ho.1, ho.2.imp id fun ⟨g, cap, cur, h1, h2, h3⟩ => ⟨g, cap, cur, h1, Nat.le_trans hB h2, h3⟩⟩, ?_, grown_none h.grown hg, h.at_.far hg (fun _ _ _ _ _ e => by cases e)⟩
  obtain ⟨g, cap, e, hgB⟩ := own_shape ho (by omega)
  exact .inr ⟨g, by rw [e]; rfl, Nat.le_trans h.grown.size hgB⟩
theorem own_some {w : World} {B size n : Nat} {e : TypeId} {v : Value} {xs : List Value} (h : w.ownsRow B e size v n xs) (hn : 0 < n) : ∃ g, v.ownBlock = some g ∧ B ≤ g ∧ g < w.heap.size := by
  obtain ⟨g, cap, rfl, _⟩ := own_shape h hn
  exact ⟨g, rfl, h.lt g rfl⟩
theorem kept_ne {w w' : World} {B size n : Nat} {e : TypeId} {v : Value} {xs : List Value} {r : Option Nat} (h : w.ownsRow B e size v n xs) (hg : w.grownBy w' r) (hne : ∀ g, v.ownBlock = some g → r ≠ some g) : w'.ownsRow B e size v n xs := by
  refine h.kept hg ?_
  cases hv : v.ownBlock with
  | none => exact .inl rfl
  | some g => exact .inr (fun e => hne g hv e.symm)
def upd (gs : Nat → Value) (k : Nat) (l : Value) (i : Nat) : Value := if i = k then l else gs i
theorem upd_self (gs : Nat → Value) (k : Nat) (l : Value) : upd gs k l k = l := if_pos rfl
theorem upd_ne {gs : Nat → Value} {k i : Nat} {l : Value} (h : i ≠ k) : upd gs k l i = gs i := if_neg h
theorem Gr.step {w0 : World} {B Lb m H : Nat} {vs : Nat → Value} {ns : Nat → Nat} {k : Nat} {gs : Nat → Value} {gv : Value} {wk wr w' : World} {l : Value} (h : Gr w0 B Lb m H vs ns k gs gv wk) (G : Geo B Lb m vs) (hk : k < m)
    (hw : Gw wk B k (ns k) (vs k) l (ns k + 12) wr) (o : Obj) {g cap : Nat} (ho : w'.ownsRow B 74 1 (.slice (some ⟨g, 0, none⟩) (k + 1) cap) (k + 1) (((List.range k).map gs) ++ [l])) (hg : (wr.alloc o).grownBy w' gv.ownBlock) (hat : gv.ownBlock = some g ∨ g = (wr.alloc o).heap.size) (hHB : B ≤ H) :
    Gr w0 B Lb m H vs ns (k + 1) (upd gs k l) (.slice (some ⟨g, 0, none⟩) (k + 1) cap) w' := by
  obtain ⟨gb, hgb, hgH⟩ := h.gvb
  have hgl := (h.row.lt gb hgb).2
  rw [hgb] at hg
  have hsz : (wr.alloc o).heap.size = wr.heap.size + 1 := by simp
  have hwk := hw.grown.size
  -- blocks
  have bvk : ∀ x, (vs k).ownBlock = some x → x < H := fun x hx => h.small k x hk hx
  have bl : ∃ x, l.ownBlock = some x ∧ x < wr.heap.size ∧ ((vs k).ownBlock = some x ∨ wk.heap.size ≤ x) := by
    obtain ⟨x, hx, _, hlt⟩ := own_some hw.own (by omega)
    refine ⟨x, hx, hlt, ?_⟩
    rcases hw.blk with e | ⟨y, e, hy⟩
    · exact .inl (by rw [← e, hx])
    · rw [hx] at e; cases e; exact .inr hy
  have bg : ∀ i, i < k → ∃ x, (gs i).ownBlock = some x ∧ x < wk.heap.size ∧ (vs k).ownBlock ≠ some x := by
    intro i hi
    obtain ⟨x, hx, _, hlt⟩ := own_some (h.new i hi) (by omega)
    refine ⟨x, hx, hlt, fun e => ?_⟩
    rcases h.from_ i hi with e1 | ⟨y, e1, hy⟩
    · rw [hx] at e1
      rcases G.dist i k (by omega) hk (by omega) with d | d
      · rw [d] at e1; cases e1
      · exact d (by rw [← e1, e])
    · rw [hx] at e1
      cases e1
      have := bvk x e
      omega
  obtain ⟨lx, hlx, hlxl, hlxo⟩ := bl
  have lgb : lx ≠ gb := by
    rcases hlxo with e | e
    · have := bvk lx e; omega
    · omega
  have hnew : ∀ i, i < k + 1 → w'.ownsRow B 5 1 (upd gs k l i) (ns i + 12) (u8s (pats i (ns i + 12))) := by
    intro i hi
    by_cases e : i = k
    · subst e
      rw [upd_self]
      exact kept_ne (hw.own.alloc o) hg (fun x hx e => by rw [hlx] at hx; cases hx; cases e; exact lgb rfl)
    · rw [upd_ne e]
      obtain ⟨x, hx, hlt, hne⟩ := bg i (by omega)
      have h1 := kept_ne (h.new i (by omega)) hw.grown (fun y hy e => by rw [hx] at hy; cases hy; exact hne e)
      refine kept_ne (h1.alloc o) hg (fun y hy e => ?_)
      rw [hx] at hy
      cases hy
      cases e
      have := h.d3 i (by omega)
      rw [hx, hgb] at this
      exact this rfl
  refine ⟨?_, ?_, ?_, hnew, ?_, h.small, h.lsmall, ?_, ?_, ?_, ?_, ?_, ?_⟩
  · intro i hi
    have h1 := hw.grown.cell (h.lists i hi) (by simpa using (G.away k hk).symm)
    have h2 := (World.grownBy_alloc wr o none).cell h1 (by simp)
    refine hg.cell h2 ?_
    simp
    have := h.lsmall
    omega
  · intro i hi
    have h1 : At wr (vs i) (pats i (ns i)) := by
      by_cases e : i = k
      · subst e; exact hw.at_
      · refine (h.old i hi).far hw.grown (fun b off n c hv hb => ?_)
        rcases G.dist i k hi hk e with d | d
        · rw [hv] at d; cases d
        · rw [← hb] at d; rw [hv] at d; exact d rfl
    refine (h1.below (bl_al (Below.refl _ _) o)).far hg (fun b off n c hv hb => ?_)
    have := h.small i b hi (by rw [hv]; rfl)
    cases hb
    omega
  · intro i hi1 hi2
    have h1 := kept_ne (h.rest i (by omega) hi2) hw.grown (fun x hx e => by
      rcases G.dist i k hi2 hk (by omega) with d | d
      · rw [d] at hx; cases hx
      · exact d (by rw [hx, e]))
    refine kept_ne (h1.alloc o) hg (fun x hx e => ?_)
    have := h.small i x hi2 hx
    cases e
    omega
  · have e : (List.range (k + 1)).map (upd gs k l) = (List.range k).map gs ++ [l] := by
      rw [List.range_succ, List.map_append]
      congr 1
      · refine List.map_congr_left (fun i hi => upd_ne ?_)
        have := List.mem_range.1 hi
        omega
      · simp [upd_self]
    rw [e]
    exact ho
  · intro i hi
    by_cases e : i = k
    · subst e
      rw [upd_self]
      rcases hw.blk with e | ⟨y, e, hy⟩
      · exact .inl e
      · exact .inr ⟨y, e, Nat.le_trans h.size hy⟩
    · rw [upd_ne e]
      exact h.from_ i (by omega)
  · rcases hat with e | e
    · rw [hgb] at e
      cases e
      exact ⟨_, rfl, hgH⟩
    · exact ⟨g, rfl, by have := h.size; omega⟩
  · have key : ∀ j, j < k → l.ownBlock ≠ (gs j).ownBlock := by
      intro j hj
      obtain ⟨x, hx, hlt, hne⟩ := bg j hj
      rw [hlx, hx]
      intro e
      cases e
      rcases hlxo with e | e
      · exact hne e
      · omega
    intro i j hi hj hij
    by_cases ei : i = k
    · subst ei
      rw [upd_self, upd_ne (fun e => hij e.symm)]
      exact key j (by omega)
    · by_cases ej : j = k
      · subst ej
        rw [upd_self, upd_ne ei]
        exact (key i (by omega)).symm
      · rw [upd_ne ei, upd_ne ej]
        exact h.d1 i j (by omega) (by omega) hij
  · intro i hi
    show _ ≠ some g
    by_cases ei : i = k
    · subst ei
      rw [upd_self, hlx]
      intro e
      cases e
      rcases hat with e | e
      · rw [hgb] at e; cases e; exact lgb rfl
      · omega
    · rw [upd_ne ei]
      obtain ⟨x, hx, hlt, hne⟩ := bg i (by omega)
      rw [hx]
      intro e
      cases e
      rcases hat with e | e
      · have := h.d3 i (by omega)
        rw [hx, e] at this
        exact this rfl
      · omega
  · have := hg.size; have := h.size; omega
  · have b1 : Below B w0 wr := h.below.grown hw.grown (by have := h.size; omega) (fun x hx => (h.rest k (Nat.le_refl k) hk).lt x hx |>.1)
    have b2 : Below B w0 (wr.alloc o) := b1.alloc (by have := h.size; omega) o
    exact b2.grown hg (by have := h.size; omega) (fun x hx => by cases hx; omega)
end Go.Proofs.Ytpbgccidhpfmgaa
