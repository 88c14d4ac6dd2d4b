/- towpathnum's Apart of rows: only the rows' own blocks turn. No conditions but those stated. -/
import Derived.Test.YtpbgccidhpfmgaaTch
namespace Go.Proofs.Ytpbgccidhpfmgaa
open Go Go.RowKit
set_option linter.unusedVariables false
set_option linter.unusedSimpArgs false

/-- While the rows are marked. -/
structure MkT (w0 : World) (B Lb m : Nat) (vs : Nat → Value) (ns : Nat → Nat) (k j : Nat) (wr : World) : Prop where
  lists : ∀ i, i < m → wr.cell? ⟨Lb, i, none⟩ = some (vs i)
  rows : ∀ i, i < m → ∃ L : List Int, L.length = ns i ∧ wr.ownsRow B 5 1 (vs i) (ns i) (u8s L) ∧ (i < k → L = pats i (ns i)) ∧ (i = k → L.take j = pats k j)
  below : Tch (fun x => ∃ i, i < m ∧ (vs i).ownBlock = some x) w0 wr
theorem MkT.store {w0 : World} {B Lb m : Nat} {vs : Nat → Value} {ns : Nat → Nat} {k j : Nat} {wr : World} (h : MkT w0 B Lb m vs ns k j wr) (G : Geo B Lb m vs) (hk : k < m) (hj : j < ns k) {g cap : Nat} (hv : vs k = .slice (some ⟨g, 0, none⟩) (ns k) cap) :
    MkT w0 B Lb m vs ns k (j + 1) (wr.setCell ⟨g, j, none⟩ (.int .u8 (pat k j))) := by
  have hg : wr.grownBy (wr.setCell ⟨g, j, none⟩ (.int .u8 (pat k j))) (some g) := ⟨rfl, rfl, rfl, by simp, fun i _ hne => Below.heap_setCell wr ⟨g, j, none⟩ _ i (fun e => hne (by rw [e]))⟩
  have hb : (vs k).ownBlock = some g := by rw [hv]; rfl
  refine ⟨fun i hi => hg.cell (h.lists i hi) ?_, fun i hi => ?_, ?_⟩
  · intro e
    have := G.away k hk
    rw [hb] at this
    exact this (by simpa using e.symm)
  · obtain ⟨L, hl, ho, h1, h2⟩ := h.rows i hi
    by_cases e : i = k
    · subst e
      refine ⟨L.set j (pat i j), by rw [List.length_set, hl], ?_, fun e => absurd e (Nat.lt_irrefl _), fun _ => take_set (h2 rfl) (by omega)⟩
      rw [hv] at ho ⊢
      have := (ho.stored j (.int .u8 (pat i j))).1
      rw [u8s_set] at this
      exact this
    · refine ⟨L, hl, ho.kept hg ?_, h1, fun e' => absurd e' e⟩
      rcases G.dist i k hi hk e with hd | hd
      · exact .inl hd
      · rw [hb] at hd; exact .inr hd
  · obtain ⟨L, hl, ho, _⟩ := h.rows k hk
    exact h.below.trans ((tch_set wr ⟨g, j, none⟩ _).mono (fun x hx => by subst hx; exact ⟨k, hk, hb⟩))
theorem MkT.next {w0 : World} {B Lb m : Nat} {vs : Nat → Value} {ns : Nat → Nat} {k : Nat} {wr : World} (h : MkT w0 B Lb m vs ns k (ns k) wr) : MkT w0 B Lb m vs ns (k + 1) 0 wr := by
  refine ⟨h.lists, fun i hi => ?_, h.below⟩
  obtain ⟨L, hl, ho, h1, h2⟩ := h.rows i hi
  refine ⟨L, hl, ho, fun e => ?_, fun _ => by simp [pats]⟩
  by_cases e2 : i = k
  · subst e2
    rw [← h2 rfl, List.take_of_length_le (by omega)]
  · exact h1 (by omega)

/-- While the rows are grown: k of them are, as gs; gv holds these. -/
structure GrT (w0 : World) (B Lb m H : Nat) (vs : Nat → Value) (ns : Nat → Nat) (k : Nat) (gs : Nat → Value) (gv : Value) (wr : World) : Prop where
  lists : ∀ i, i < m → wr.cell? ⟨Lb, i, none⟩ = some (vs i)
  old : ∀ i, i < m → At wr (vs i) (pats i (ns i))
  rest : ∀ i, k ≤ i → i < m → wr.ownsRow B 5 1 (vs i) (ns i) (u8s (pats i (ns i)))
  new : ∀ i, i < k → wr.ownsRow B 5 1 (gs i) (ns i + 12) (u8s (pats i (ns i + 12)))
  row : wr.ownsRow B 74 1 gv k ((List.range k).map gs)
  small : ∀ i g, i < m → (vs i).ownBlock = some g → g < H
  lsmall : Lb < H
  from_ : ∀ i, i < k → (gs i).ownBlock = (vs i).ownBlock ∨ ∃ g, (gs i).ownBlock = some g ∧ H ≤ g
  gvb : ∃ g, gv.ownBlock = some g ∧ H ≤ g
  d1 : ∀ i j, i < k → j < k → i ≠ j → (gs i).ownBlock ≠ (gs j).ownBlock
  d3 : ∀ i, i < k → (gs i).ownBlock ≠ gv.ownBlock
  size : H ≤ wr.heap.size
  below : Tch (fun x => ∃ i, i < m ∧ (vs i).ownBlock = some x) w0 wr
  base : w0.heap.size ≤ H
theorem GrT.step {w0 : World} {B Lb m H : Nat} {vs : Nat → Value} {ns : Nat → Nat} {k : Nat} {gs : Nat → Value} {gv : Value} {wk wr w' : World} {l : Value} (h : GrT w0 B Lb m H vs ns k gs gv wk) (G : Geo B Lb m vs) (hk : k < m)
    (hw : Gw wk B k (ns k) (vs k) l (ns k + 12) wr) (o : Obj) {g cap : Nat} (ho : w'.ownsRow B 74 1 (.slice (some ⟨g, 0, none⟩) (k + 1) cap) (k + 1) (((List.range k).map gs) ++ [l])) (hg : (wr.alloc o).grownBy w' gv.ownBlock) (hat : gv.ownBlock = some g ∨ g = (wr.alloc o).heap.size) (hHB : B ≤ H) :
    GrT w0 B Lb m H vs ns (k + 1) (upd gs k l) (.slice (some ⟨g, 0, none⟩) (k + 1) cap) w' := by
  obtain ⟨gb, hgb, hgH⟩ := h.gvb
  have hgl := (h.row.lt gb hgb).2
  rw [hgb] at hg
  have hsz : (wr.alloc o).heap.size = wr.heap.size + 1 := by simp
  have hwk := hw.grown.size
  -- blocks
  have bvk : ∀ x, (vs k).ownBlock = some x → x < H := fun x hx => h.small k x hk hx
  have bl : ∃ x, l.ownBlock = some x ∧ x < wr.heap.size ∧ ((vs k).ownBlock = some x ∨ wk.heap.size ≤ x) := by
    obtain ⟨x, hx, _, hlt⟩ := own_some hw.own (by omega)
    refine ⟨x, hx, hlt, ?_⟩
    rcases hw.blk with e | ⟨y, e, hy⟩
    · exact .inl (by rw [← e, hx])
    · rw [hx] at e; cases e; exact .inr hy
  have bg : ∀ i, i < k → ∃ x, (gs i).ownBlock = some x ∧ x < wk.heap.size ∧ (vs k).ownBlock ≠ some x := by
    intro i hi
    obtain ⟨x, hx, _, hlt⟩ := own_some (h.new i hi) (by omega)
    refine ⟨x, hx, hlt, fun e => ?_⟩
    rcases h.from_ i hi with e1 | ⟨y, e1, hy⟩
    · rw [hx] at e1
      rcases G.dist i k (by omega) hk (by omega) with d | d
      · rw [d] at e1; cases e1
      · exact d (by rw [← e1, e])
    · rw [hx] at e1
      cases e1
      have := bvk x e
      omega
  obtain ⟨lx, hlx, hlxl, hlxo⟩ := bl
  have lgb : lx ≠ gb := by
    rcases hlxo with e | e
    · have := bvk lx e; omega
    · omega
  have hnew : ∀ i, i < k + 1 → w'.ownsRow B 5 1 (upd gs k l i) (ns i + 12) (u8s (pats i (ns i + 12))) := by
    intro i hi
    by_cases e : i = k
    · subst e
      rw [upd_self]
      exact kept_ne (hw.own.alloc o) hg (fun x hx e => by rw [hlx] at hx; cases hx; cases e; exact lgb rfl)
    · rw [upd_ne e]
      obtain ⟨x, hx, hlt, hne⟩ := bg i (by omega)
      have h1 := kept_ne (h.new i (by omega)) hw.grown (fun y hy e => by rw [hx] at hy; cases hy; exact hne e)
      refine kept_ne (h1.alloc o) hg (fun y hy e => ?_)
      rw [hx] at hy
      cases hy
      cases e
      have := h.d3 i (by omega)
      rw [hx, hgb] at this
      exact this rfl
  refine ⟨?_, ?_, ?_, hnew, ?_, h.small, h.lsmall, ?_, ?_, ?_, ?_, ?_, ?_, h.base⟩
  · intro i hi
    have h1 := hw.grown.cell (h.lists i hi) (by simpa using (G.away k hk).symm)
    have h2 := (World.grownBy_alloc wr o none).cell h1 (by simp)
    refine hg.cell h2 ?_
    simp
    have := h.lsmall
    omega
  · intro i hi
    have h1 : At wr (vs i) (pats i (ns i)) := by
      by_cases e : i = k
      · subst e; exact hw.at_
      · refine (h.old i hi).far hw.grown (fun b off n c hv hb => ?_)
        rcases G.dist i k hi hk e with d | d
        · rw [hv] at d; cases d
        · rw [← hb] at d; rw [hv] at d; exact d rfl
    refine (h1.below (bl_al (Below.refl _ _) o)).far hg (fun b off n c hv hb => ?_)
    have := h.small i b hi (by rw [hv]; rfl)
    cases hb
    omega
  · intro i hi1 hi2
    have h1 := kept_ne (h.rest i (by omega) hi2) hw.grown (fun x hx e => by
      rcases G.dist i k hi2 hk (by omega) with d | d
      · rw [d] at hx; cases hx
      · exact d (by rw [hx, e]))
    refine kept_ne (h1.alloc o) hg (fun x hx e => ?_)
    have := h.small i x hi2 hx
    cases e
    omega
  · have e : (List.range (k + 1)).map (upd gs k l) = (List.range k).map gs ++ [l] := by
      rw [List.range_succ, List.map_append]
      congr 1
      · refine List.map_congr_left (fun i hi => upd_ne ?_)
        have := List.mem_range.1 hi
        omega
      · simp [upd_self]
    rw [e]
    exact ho
  · intro i hi
    by_cases e : i = k
    · subst e
      rw [upd_self]
      rcases hw.blk with e | ⟨y, e, hy⟩
      · exact .inl e
      · exact .inr ⟨y, e, Nat.le_trans h.size hy⟩
    · rw [upd_ne e]
      exact h.from_ i (by omega)
  · rcases hat with e | e
    · rw [hgb] at e
      cases e
      exact ⟨_, rfl, hgH⟩
    · exact ⟨g, rfl, by have := h.size; omega⟩
  · have key : ∀ j, j < k → l.ownBlock ≠ (gs j).ownBlock := by
      intro j hj
      obtain ⟨x, hx, hlt, hne⟩ := bg j hj
      rw [hlx, hx]
      intro e
      cases e
      rcases hlxo with e | e
      · exact hne e
      · omega
    intro i j hi hj hij
    by_cases ei : i = k
    · subst ei
      rw [upd_self, upd_ne (fun e => hij e.symm)]
      exact key j (by omega)
    · by_cases ej : j = k
      · subst ej
        rw [upd_self, upd_ne ei]
        exact (key i (by omega)).symm
      · rw [upd_ne ei, upd_ne ej]
        exact h.d1 i j (by omega) (by omega) hij
  · intro i hi
    show _ ≠ some g
    by_cases ei : i = k
    · subst ei
      rw [upd_self, hlx]
      intro e
      cases e
      rcases hat with e | e
      · rw [hgb] at e; cases e; exact lgb rfl
      · omega
    · rw [upd_ne ei]
      obtain ⟨x, hx, hlt, hne⟩ := bg i (by omega)
      rw [hx]
      intro e
      cases e
      rcases hat with e | e
      · have := h.d3 i (by omega)
        rw [hx, e] at this
        exact this rfl
      · omega
  · have := hg.size; have := h.size; omega
  · have b1 := h.below.trans ((tch_grown hw.grown).mono (fun x hx => ⟨k, hk, hx.symm⟩))
    have b2 := b1.trans' (U := Non) (tch_new (bl_al (Below.refl _ _) o)) (fun _ _ h => h.elim)
    exact b2.trans' (tch_grown hg) (fun x hx hT => by cases hT; have := h.base; omega)
end Go.Proofs.Ytpbgccidhpfmgaa
