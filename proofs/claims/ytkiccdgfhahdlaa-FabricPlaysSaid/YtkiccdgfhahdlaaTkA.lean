/- What FabricTakes holds: letters sent, numbers taken. No conditions but those stated. -/
import Derived.Test.YtkiccdgfhahdlaaFBt
namespace Go.Proofs.Ytkiccdgfhahdlaa
open Go Go.RowKit
set_option linter.unusedVariables false
set_option linter.unusedSimpArgs false

/-- The plain invariant: S was sent, ls are under way, T are the numbers taken. -/
structure PInv (S ls : List Lt) (T : List Int) : Prop where
  sid : ∀ i, i < S.length → (S.getD i lt0).id = (i : Int) + 1
  mem : ∀ x ∈ ls, 1 ≤ x.id ∧ x.id ≤ S.length ∧ S.getD (x.id - 1).toNat lt0 = x
  tak : ∀ t ∈ T, t ≤ S.length
  dup : (ls.map (·.id) ++ T).Nodup
  cnt : ls.length + T.length = S.length
theorem getD_old {S : List Lt} {x : Lt} {i : Nat} (h : i < S.length) : (S ++ [x]).getD i lt0 = S.getD i lt0 := by
  rw [List.getD_eq_getElem?_getD, List.getD_eq_getElem?_getD, List.getElem?_append_left h]
theorem getD_new {S : List Lt} {x : Lt} : (S ++ [x]).getD S.length lt0 = x := by
  rw [List.getD_eq_getElem?_getD, List.getElem?_append_right (Nat.le_refl _), Nat.sub_self]
  rfl
theorem PInv.put {S ls : List Lt} {T : List Int} (h : PInv S ls T) {x : Lt} (hx : x.id = (S.length : Int) + 1) : PInv (S ++ [x]) (ls ++ [x]) T := by
  have hl : (S ++ [x]).length = S.length + 1 := by simp
  refine ⟨fun i hi => ?_, fun y hy => ?_, fun t ht => ?_, ?_, ?_⟩
  · rw [hl] at hi
    rcases Nat.lt_or_ge i S.length with h1 | h1
    · rw [getD_old h1]
      exact h.sid i h1
    · rw [show i = S.length by omega, getD_new, hx]
  · rw [hl]
    rcases List.mem_append.1 hy with hy | hy
    · obtain ⟨h1, h2, h3⟩ := h.mem y hy
      refine ⟨h1, by omega, ?_⟩
      rw [getD_old (by omega)]
      exact h3
    · rw [List.mem_singleton] at hy
      subst hy
      refine ⟨by omega, by omega, ?_⟩
      rw [show (y.id - 1).toNat = S.length by omega, getD_new]
  · rw [hl]
    have := h.tak t ht
    omega
  · rw [List.map_append, List.append_assoc, List.nodup_append]
    have hd := List.nodup_append.1 h.dup
    refine ⟨hd.1, ?_, fun a ha b hb => ?_⟩
    · show (x.id :: T).Nodup
      refine List.nodup_cons.2 ⟨fun e => ?_, hd.2.1⟩
      have := h.tak _ e
      omega
    · rcases List.mem_append.1 hb with hb | hb
      · have e : b = x.id := by simpa using hb
        obtain ⟨y, hy, rfl⟩ := List.mem_map.1 ha
        have := (h.mem y hy).2.1
        show y.id ≠ b
        omega
      · exact hd.2.2 a ha b hb
  · rw [hl, List.length_append]
    have := h.cnt
    simp
    omega
theorem erase_perm {α : Type} : ∀ (l : List α) (j : Nat) (h : j < l.length), l.Perm (l[j] :: l.eraseIdx j)
  | [], j, h => by simp at h
  | a :: l, 0, _ => List.Perm.refl _
  | a :: l, j + 1, h => by
    have := erase_perm l j (by simpa using h)
    simp only [List.getElem_cons_succ, List.eraseIdx_cons_succ]
    exact (this.cons a).trans (List.Perm.swap _ _ _)
theorem PInv.take {S ls : List Lt} {T : List Int} (h : PInv S ls T) {j : Nat} (hj : j < ls.length) : PInv S (ls.eraseIdx j) (T ++ [(ls.getD j lt0).id]) := by
  have e : ls.getD j lt0 = ls[j] := by rw [List.getD_eq_getElem?_getD, List.getElem?_eq_getElem hj]; rfl
  have hp : ls.Perm (ls[j] :: ls.eraseIdx j) := erase_perm ls j hj
  refine ⟨h.sid, fun y hy => h.mem y (List.mem_of_mem_eraseIdx hy), fun t ht => ?_, ?_, ?_⟩
  · rcases List.mem_append.1 ht with ht | ht
    · exact h.tak t ht
    · rw [List.mem_singleton] at ht
      rw [ht, e]
      exact (h.mem _ (List.getElem_mem hj)).2.1
  · rw [e]
    have p1 : (ls.map (·.id) ++ T).Perm ((ls.eraseIdx j).map (·.id) ++ (T ++ [ls[j].id])) := by
      have p2 := (hp.map (·.id)).append_right T
      refine p2.trans ?_
      rw [← List.append_assoc]
      exact (List.perm_append_comm (l₁ := [ls[j].id]) (l₂ := (ls.eraseIdx j).map (·.id) ++ T))
    exact p1.nodup_iff.1 h.dup
  · rw [List.length_eraseIdx_of_lt hj, List.length_append]
    have := h.cnt
    simp
    omega
theorem At.tch {T : Nat → Prop} {w w' : World} {a : Option Addr} {n c : Nat} {l : List Int} (h : At w (.slice a n c) l) (ht : Tch T w w') (hn : l ≠ [] → ∀ ad, a = some ad → ¬ T ad.block) : At w' (.slice a n c) l := by
  obtain ⟨a', c', e, h0 | ⟨b, off, ha, hc⟩⟩ := h
  · exact ⟨a', c', e, .inl h0⟩
  · refine ⟨a', c', e, ?_⟩
    rcases l with _ | ⟨x, l⟩
    · exact .inl rfl
    · refine .inr ⟨b, off, ha, fun j hj => ht.cell (hc j hj) ?_⟩
      cases e
      exact hn (by simp) ⟨b, off, none⟩ ha
/-- The letters sent (their bytes lie in vs), the numbers taken; F are the fabric's blocks. -/
structure Sns (w : World) (B : Nat) (F : Nat → Prop) (S : List Lt) (vs : List Value) (sa : Option Addr) (sn sc : Nat) (T : List Int) (ta : Option Addr) (tn tc : Nat) : Prop where
  srow : w.ownsRow B tyL 5 (.slice sa sn sc) sn (cellsL S vs)
  slen : vs.length = S.length
  trow : w.ownsRow B 3 1 (.slice ta tn tc) tn (i64s T)
  rows : ∀ j, j < S.length → ∃ a c, vs.getD j undef = .slice a (S.getD j lt0).bs.length c ∧ At w (.slice a (S.getD j lt0).bs.length c) (S.getD j lt0).bs ∧ ((S.getD j lt0).bs ≠ [] → ∀ ad, a = some ad → ad.block < w.heap.size ∧ ¬ F ad.block ∧ (Value.slice sa sn sc).ownBlock ≠ some ad.block ∧ (Value.slice ta tn tc).ownBlock ≠ some ad.block)
  sfar : ∀ k, (Value.slice sa sn sc).ownBlock = some k → ¬ F k
  tfar : ∀ k, (Value.slice ta tn tc).ownBlock = some k → ¬ F k
section
variable {w w' : World} {B : Nat} {F F2 : Nat → Prop} {S : List Lt} {vs : List Value} {sa ta : Option Addr} {sn sc tn tc : Nat} {T : List Int}
theorem Sns.turn (h : Sns w B F S vs sa sn sc T ta tn tc) (ht : Tch F w w') (hF : ∀ k, F2 k → F k ∨ w.heap.size ≤ k) : Sns w' B F2 S vs sa sn sc T ta tn tc := by
  refine ⟨ht.own h.srow h.sfar, h.slen, ht.own h.trow h.tfar, fun j hj => ?_, fun k hk e => ?_, fun k hk e => ?_⟩
  · obtain ⟨a, c, e, hA, hs⟩ := h.rows j hj
    refine ⟨a, c, e, hA.tch ht (fun hne ad had => (hs hne ad had).2.1), fun hne ad had => ?_⟩
    obtain ⟨s1, s2, s3, s4⟩ := hs hne ad had
    exact ⟨Nat.lt_of_lt_of_le s1 ht.size, fun e2 => by
      rcases hF _ e2 with h1 | h1
      · exact s2 h1
      · omega, s3, s4⟩
  · rcases hF k e with h1 | h1
    · exact h.sfar k hk h1
    · have := (h.srow.lt k hk).2; omega
  · rcases hF k e with h1 | h1
    · exact h.tfar k hk h1
    · have := (h.trow.lt k hk).2; omega
theorem Sns.new (h : Sns w B F S vs sa sn sc T ta tn tc) (ht : Tch Non w w') : Sns w' B F S vs sa sn sc T ta tn tc :=
  h.turn (ht.mono (fun _ h => h.elim)) (fun k hk => .inl hk)
theorem Sns.len (h : Sns w B F S vs sa sn sc T ta tn tc) : S.length = sn ∧ T.length = tn := by
  have h1 := h.srow.1
  have h2 := h.trow.1
  rw [cellsL_len h.slen] at h1
  unfold i64s at h2
  rw [List.length_map] at h2
  omega
/-- One more letter sent. -/
theorem Sns.addS (h : Sns w B F S vs sa sn sc T ta tn tc) {x : Lt} {a : Option Addr} {c g8 c8 : Nat} (hA : At w (.slice a x.bs.length c) x.bs) (hs : x.bs ≠ [] → ∀ ad, a = some ad → ad.block < w.heap.size ∧ ¬ F ad.block ∧ (Value.slice sa sn sc).ownBlock ≠ some ad.block ∧ (Value.slice ta tn tc).ownBlock ≠ some ad.block)
    (h8 : w'.ownsRow B tyL 5 (.slice (some ⟨g8, 0, none⟩) (sn + 1) c8) (sn + 1) (cellsL S vs ++ x.cs (.slice a x.bs.length c))) (ht : Tch (fun k => some k = (Value.slice sa sn sc).ownBlock) w w') (hg : (Value.slice sa sn sc).ownBlock = some g8 ∨ w.heap.size ≤ g8) (hFl : ∀ k, F k → k < w.heap.size) :
    Sns w' B F (S ++ [x]) (vs ++ [.slice a x.bs.length c]) (some ⟨g8, 0, none⟩) (sn + 1) c8 T ta tn tc := by
  have hfar : ∀ k, (Value.slice ta tn tc).ownBlock = some k → ¬ some k = (Value.slice sa sn sc).ownBlock := fun k hk e => own_kinds h.srow h.trow (by decide) k e.symm hk
  have hg8 : ¬ F g8 := fun e => by
    rcases hg with h1 | h1
    · exact h.sfar _ h1 e
    · have := hFl _ e; omega
  have safe : ∀ (ad : Addr), (ad.block < w.heap.size ∧ ¬ F ad.block ∧ (Value.slice sa sn sc).ownBlock ≠ some ad.block ∧ (Value.slice ta tn tc).ownBlock ≠ some ad.block) → (ad.block < w'.heap.size ∧ ¬ F ad.block ∧ (Value.slice (some ⟨g8, 0, none⟩) (sn + 1) c8).ownBlock ≠ some ad.block ∧ (Value.slice ta tn tc).ownBlock ≠ some ad.block) := fun ad h1 => ⟨Nat.lt_of_lt_of_le h1.1 ht.size, h1.2.1, fun e => by
    have e2 : g8 = ad.block := by cases e; rfl
    rcases hg with h2 | h2
    · exact h1.2.2.1 (by rw [h2, e2])
    · have := h1.1; omega, h1.2.2.2⟩
  refine ⟨by rw [cellsL_app h.slen, cellsL_one]; exact h8, by rw [List.length_append, List.length_append, h.slen]; rfl, ht.own h.trow hfar, fun j hj => ?_, fun k hk => by cases hk; exact hg8, h.tfar⟩
  rw [List.length_append] at hj
  rcases Nat.lt_or_ge j S.length with h1 | h1
  · obtain ⟨a1, c1, e1, hA1, hs1⟩ := h.rows j h1
    rw [getD_old h1, List.getD_eq_getElem?_getD, List.getElem?_append_left (by rw [h.slen]; exact h1), ← List.getD_eq_getElem?_getD]
    exact ⟨a1, c1, e1, hA1.tch ht (fun hne ad had e => (hs1 hne ad had).2.2.1 e.symm), fun hne ad had => safe ad (hs1 hne ad had)⟩
  · obtain rfl : j = S.length := by simp at hj; omega
    rw [getD_new, List.getD_eq_getElem?_getD, List.getElem?_append_right (by rw [h.slen]; exact Nat.le_refl _), h.slen, Nat.sub_self]
    exact ⟨a, c, rfl, hA.tch ht (fun hne ad had e => (hs hne ad had).2.2.1 e.symm), fun hne ad had => safe ad (hs hne ad had)⟩
/-- One more number taken. -/
theorem Sns.addT (h : Sns w B F S vs sa sn sc T ta tn tc) {x : Int} {g8 c8 : Nat}
    (h8 : w'.ownsRow B 3 1 (.slice (some ⟨g8, 0, none⟩) (tn + 1) c8) (tn + 1) (i64s (T ++ [x]))) (ht : Tch (fun k => some k = (Value.slice ta tn tc).ownBlock) w w') (hg : (Value.slice ta tn tc).ownBlock = some g8 ∨ w.heap.size ≤ g8) (hFl : ∀ k, F k → k < w.heap.size) :
    Sns w' B F S vs sa sn sc (T ++ [x]) (some ⟨g8, 0, none⟩) (tn + 1) c8 := by
  have hfar : ∀ k, (Value.slice sa sn sc).ownBlock = some k → ¬ some k = (Value.slice ta tn tc).ownBlock := fun k hk e => own_kinds h.srow h.trow (by decide) k hk e.symm
  have hg8 : ¬ F g8 := fun e => by
    rcases hg with h1 | h1
    · exact h.tfar _ h1 e
    · have := hFl _ e; omega
  refine ⟨ht.own h.srow hfar, h.slen, h8, fun j hj => ?_, h.sfar, fun k hk => by cases hk; exact hg8⟩
  obtain ⟨a1, c1, e1, hA1, hs1⟩ := h.rows j hj
  refine ⟨a1, c1, e1, hA1.tch ht (fun hne ad had e => (hs1 hne ad had).2.2.2 e.symm), fun hne ad had => ?_⟩
  obtain ⟨s1, s2, s3, s4⟩ := hs1 hne ad had
  refine ⟨Nat.lt_of_lt_of_le s1 ht.size, s2, s3, fun e => ?_⟩
  have e2 : g8 = ad.block := by cases e; rfl
  rcases hg with h2 | h2
  · exact s4 (by rw [h2, e2])
  · omega
end
end Go.Proofs.Ytkiccdgfhahdlaa
