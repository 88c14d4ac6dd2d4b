/- The document's table: an entry put in its place. No conditions but those stated. -/
import Derived.Test.YtpbgccidhpfmgaaFwT
import Derived.Laws.OwnMore
namespace Go.Proofs.Ytpbgccidhpfmgaa
open Go Go.RowKit
set_option linter.unusedVariables false
set_option linter.unusedSimpArgs false

abbrev stO (W : World) (g o : Nat) (e : En) : World := (((((((((W.setCell ⟨g, o, none⟩ (.int .i64 e.f.p)).setCell ⟨g, o + 1, none⟩ (.int .u32 e.f.s)).setCell ⟨g, o + 2, none⟩ (.int .i64 e.f.sp)).setCell ⟨g, o + 3, none⟩ (.int .u32 e.f.d)).setCell ⟨g, o + 4, none⟩ (.int .i64 e.f.dp)).setCell ⟨g, o + 5, none⟩ (.int .u32 e.dip)).setCell ⟨g, o + 6, none⟩ (.int .i64 e.ep)).setCell ⟨g, o + 7, none⟩ (.bool e.tr)).setCell ⟨g, o + 8, none⟩ (.bool e.cl)).setCell ⟨g, o + 9, none⟩ (.int .i64 e.la)
abbrev stL (xs : List Value) (o : Nat) (e : En) : List Value := (((((((((xs.set o (.int .i64 e.f.p)).set (o + 1) (.int .u32 e.f.s)).set (o + 2) (.int .i64 e.f.sp)).set (o + 3) (.int .u32 e.f.d)).set (o + 4) (.int .i64 e.f.dp)).set (o + 5) (.int .u32 e.dip)).set (o + 6) (.int .i64 e.ep)).set (o + 7) (.bool e.tr)).set (o + 8) (.bool e.cl)).set (o + 9) (.int .i64 e.la)
theorem stL_at (a c : List Value) (x e : En) : stL (a ++ (csE x ++ c)) a.length e = a ++ (csE e ++ c) := by
  have h : ∀ (ys : List Value) (i : Nat) (v : Value), (a ++ ys).set (a.length + i) v = a ++ ys.set i v := fun ys i v => by
    rw [List.set_append_right _ _ (Nat.le_add_right _ _), Nat.add_sub_cancel_left]
  have h0 : ∀ (ys : List Value) (v : Value), (a ++ ys).set a.length v = a ++ ys.set 0 v := fun ys v => by
    rw [List.set_append_right _ _ (Nat.le_refl _), Nat.sub_self]
  unfold stL
  rw [h0, h, h, h, h, h, h, h, h, h]
  rfl
theorem stL_cells {l : List En} {j : Nat} (hj : j < l.length) (e : En) : stL (cellsE l) (j * 10) e = cellsE (l.set j e) := by
  have h1 : l = l.take j ++ l[j] :: l.drop (j + 1) := by
    conv => lhs; rw [← List.take_append_drop j l]
    rw [List.drop_eq_getElem_cons hj]
  have h2 : l.set j e = l.take j ++ e :: l.drop (j + 1) := by rw [List.set_eq_take_append_cons_drop, if_pos hj]
  have h3 : cellsE l = cellsE (l.take j) ++ (csE l[j] ++ cellsE (l.drop (j + 1))) := (congrArg cellsE h1).trans (by rw [cellsE_app, cellsE_cons])
  have h4 : (cellsE (l.take j)).length = j * 10 := by rw [cellsE_len, List.length_take]; omega
  rw [h2, h3, ← h4, stL_at, cellsE_app, cellsE_cons]
theorem stO_tch (W : World) (g o : Nat) (e : En) : Tch (· = g) W (stO W g o e) :=
  ((((((((((tch_set W ⟨g, o, none⟩ _).trans (tch_set _ ⟨g, o + 1, none⟩ _)).trans (tch_set _ ⟨g, o + 2, none⟩ _)).trans (tch_set _ ⟨g, o + 3, none⟩ _)).trans (tch_set _ ⟨g, o + 4, none⟩ _)).trans (tch_set _ ⟨g, o + 5, none⟩ _)).trans (tch_set _ ⟨g, o + 6, none⟩ _)).trans (tch_set _ ⟨g, o + 7, none⟩ _)).trans (tch_set _ ⟨g, o + 8, none⟩ _)).trans (tch_set _ ⟨g, o + 9, none⟩ _))
/-- An entry put in its place. -/
theorem RtM.set {w : World} {B m n c g : Nat} {qt qu : Int} {l : List En} (h : RtM w B m qt qu l (some ⟨g, 0, none⟩) n c) {j : Nat} (hj : j < l.length) (e : En) :
    RtM (stO w g (j * 10) e) B m qt qu (l.set j e) (some ⟨g, 0, none⟩) n c := by
  have ht := stO_tch w g (j * 10) e
  refine ⟨ht.at h.here (fun e => h.away (by rw [e]; rfl)), h.hm, ?_, h.away⟩
  have h1 := ((((((((((h.row.stored (j * 10) (.int .i64 e.f.p)).1.stored (j * 10 + 1) (.int .u32 e.f.s)).1.stored (j * 10 + 2) (.int .i64 e.f.sp)).1.stored (j * 10 + 3) (.int .u32 e.f.d)).1.stored (j * 10 + 4) (.int .i64 e.f.dp)).1.stored (j * 10 + 5) (.int .u32 e.dip)).1.stored (j * 10 + 6) (.int .i64 e.ep)).1.stored (j * 10 + 7) (.bool e.tr)).1.stored (j * 10 + 8) (.bool e.cl)).1.stored (j * 10 + 9) (.int .i64 e.la)).1
  rw [← stL_cells hj e]
  exact h1
theorem RtS.set {w : World} {B m g : Nat} {F : Nat → Prop} {qt qu : Int} {l : List En} {n c : Nat} (hM : RtM w B m qt qu l (some ⟨g, 0, none⟩) n c) (hF : ∀ k, F k ↔ k = m ∨ (Value.slice (some ⟨g, 0, none⟩) n c).ownBlock = some k) {j : Nat} (hj : j < l.length) (e : En) :
    RtTo w B F m qt qu (l.set j e) F (stO w g (j * 10) e) :=
  ⟨⟨_, _, _, hM.set hj e, hF⟩, fun k hk => .inl hk, (stO_tch w g (j * 10) e).mono (fun k hk => by subst hk; exact (hF k).2 (.inr rfl))⟩
theorem RtM.freeR {w : World} {B m n c g : Nat} {qt qu : Int} {l : List En} (h : RtM w B m qt qu l (some ⟨g, 0, none⟩) n c) (o : Nat) : w.frozen? ⟨g, o, none⟩ = false := h.row.frozenAt o
theorem set_is {l : List En} (hs : SrtE l) {i : Nat} (hi : i < l.length) {e : En} (he : e.f = (l.getD i en0).f) : l.set i e = setE e l := by
  have hd : l.getD i en0 = l[i] := by rw [List.getD_eq_getElem?_getD, List.getElem?_eq_getElem hi]; rfl
  have hp := List.pairwise_iff_getElem.1 hs
  rw [hd] at he
  apply List.ext_getElem
  · rw [List.length_set, setE_len]
  · intro k h1 h2
    rw [List.length_set] at h1
    have hm : (setE e l)[k] = if l[k].f = e.f then e else l[k] := by simp [setE]
    rw [List.getElem_set, hm]
    by_cases hk : i = k
    · subst hk
      rw [if_pos rfl, if_pos he.symm]
    · rw [if_neg hk, if_neg]
      intro e2
      rw [he] at e2
      rcases Nat.lt_trichotomy i k with q | q | q
      · exact ltF_irr _ (e2 ▸ hp i k hi h1 q)
      · exact hk q
      · exact ltF_irr _ (e2 ▸ hp k i h1 hi q)
end Go.Proofs.Ytpbgccidhpfmgaa
