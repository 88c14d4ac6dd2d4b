/- The document's table: Put's plain parts. No conditions but those stated. -/
import Derived.Test.YtpbgccidhpfmgaaFwW
namespace Go.Proofs.Ytpbgccidhpfmgaa
open Go Go.RowKit
set_option linter.unusedVariables false
set_option linter.unusedSimpArgs false

theorem insE_no {x : En} : ∀ {a : List En} (b : List En), (∀ e ∈ a, ¬ ltF x.f e.f) → insE x (a ++ b) = a ++ insE x b
  | [], b, _ => rfl
  | e :: a, b, h => by
    have ih := insE_no (x := x) (a := a) b (fun y hy => h y (List.mem_cons_of_mem _ hy))
    rw [List.cons_append, insE, if_neg (h e List.mem_cons_self), ih]
    rfl
theorem insE_yes {x : En} : ∀ {a : List En} (b : List En), (∃ e ∈ a, ltF x.f e.f) → insE x (a ++ b) = insE x a ++ b
  | [], b, h => by obtain ⟨e, he, _⟩ := h; cases he
  | e :: a, b, h => by
    rw [List.cons_append, insE, insE]
    by_cases h1 : ltF x.f e.f
    · rw [if_pos h1, if_pos h1]
      rfl
    · rw [if_neg h1, if_neg h1, insE_yes (x := x) (a := a) b]
      · rfl
      · obtain ⟨y, hy, h2⟩ := h
        rcases List.mem_cons.1 hy with rfl | hy
        · exact absurd h2 h1
        · exact ⟨y, hy, h2⟩
/-- An entry laid into what has been gone over. -/
def InsR (x : En) (l : List En) (k : Nat) (b : Bool) (y : List En) : Prop :=
  (b = false ∧ y = l.take k ∧ ∀ e ∈ l.take k, ¬ ltF x.f e.f) ∨ (b = true ∧ y = insE x (l.take k) ∧ ∃ e ∈ l.take k, ltF x.f e.f)
theorem InsR.start (x : En) (l : List En) : InsR x l 0 false [] := .inl ⟨rfl, rfl, fun e he => by simp at he⟩
theorem InsR.later {x : En} {l : List En} {k : Nat} {y : List En} (h : InsR x l k true y) (hk : k < l.length) : InsR x l (k + 1) true (y ++ [l.getD k en0]) := by
  rcases h with ⟨h, _⟩ | ⟨_, rfl, e, he, hl⟩
  · cases h
  · refine .inr ⟨rfl, ?_, e, ?_, hl⟩
    · rw [take_more l en0 hk, insE_yes _ ⟨e, he, hl⟩]
    · rw [take_more l en0 hk]
      exact List.mem_append_left _ he
theorem InsR.now {x : En} {l : List En} {k : Nat} {y : List En} (h : InsR x l k false y) (hk : k < l.length) (hl : ltF x.f (l.getD k en0).f) : InsR x l (k + 1) true (y ++ [x] ++ [l.getD k en0]) := by
  rcases h with ⟨_, rfl, hn⟩ | ⟨h, _⟩
  · refine .inr ⟨rfl, ?_, l.getD k en0, ?_, hl⟩
    · rw [take_more l en0 hk, insE_no _ hn, insE, if_pos hl, List.append_assoc]
      rfl
    · rw [take_more l en0 hk]
      exact List.mem_append_right _ List.mem_cons_self
  · cases h
theorem InsR.not {x : En} {l : List En} {k : Nat} {y : List En} (h : InsR x l k false y) (hk : k < l.length) (hl : ¬ ltF x.f (l.getD k en0).f) : InsR x l (k + 1) false (y ++ [l.getD k en0]) := by
  rcases h with ⟨_, rfl, hn⟩ | ⟨h, _⟩
  · refine .inl ⟨rfl, (take_more l en0 hk).symm, fun e he => ?_⟩
    rw [take_more l en0 hk] at he
    rcases List.mem_append.1 he with he | he
    · exact hn e he
    · rw [List.mem_singleton.1 he]
      exact hl
  · cases h
theorem InsR.doneT {x : En} {l : List En} {y : List En} (h : InsR x l l.length true y) : y = insE x l := by
  rcases h with ⟨h, _⟩ | ⟨_, h, _⟩
  · cases h
  · rw [h, List.take_of_length_le (Nat.le_refl _)]
theorem InsR.doneF {x : En} {l : List En} {y : List En} (h : InsR x l l.length false y) : y ++ [x] = insE x l := by
  rcases h with ⟨_, h, hn⟩ | ⟨h, _⟩
  · rw [List.take_of_length_le (Nat.le_refl _)] at h hn
    have := insE_no (x := x) (a := l) [] hn
    rw [List.append_nil] at this
    rw [h, this]
    rfl
  · cases h
/-- The oldest one so far. -/
def OldT (l : List En) (k : Nat) (a : Int) : Prop := (a = -1 ∧ (l.take k).foldl oldS none = none) ∨ ∃ i : Nat, a = i ∧ i < k ∧ (l.take k).foldl oldS none = some (l.getD i en0)
theorem old_step {l : List En} {k : Nat} (hk : k < l.length) : (l.take (k + 1)).foldl oldS none = oldS ((l.take k).foldl oldS none) (l.getD k en0) := by
  rw [take_more l en0 hk, List.foldl_append]
  rfl
theorem OldT.skip {l : List En} {k : Nat} {a : Int} (h : OldT l k a) (hk : k < l.length) (ht : (l.getD k en0).tr = true) : OldT l (k + 1) a := by
  have hs : ∀ o, oldS o (l.getD k en0) = o := fun o => by unfold oldS; rw [ht]; rfl
  rcases h with ⟨h1, h2⟩ | ⟨i, h1, h2, h3⟩
  · exact .inl ⟨h1, by rw [old_step hk, hs, h2]⟩
  · exact .inr ⟨i, h1, by omega, by rw [old_step hk, hs, h3]⟩
theorem OldT.first {l : List En} {k : Nat} (h : OldT l k (-1)) (hk : k < l.length) (ht : (l.getD k en0).tr = false) : OldT l (k + 1) k := by
  rcases h with ⟨h1, h2⟩ | ⟨i, h1, h2, h3⟩
  · refine .inr ⟨k, rfl, by omega, ?_⟩
    rw [old_step hk, h2]
    unfold oldS
    rw [ht]
    rfl
  · omega
theorem OldT.less {l : List En} {k i : Nat} (h : OldT l k i) (hk : k < l.length) (ht : (l.getD k en0).tr = false) (hl : (l.getD k en0).la < (l.getD i en0).la) : OldT l (k + 1) k := by
  rcases h with ⟨h1, h2⟩ | ⟨j, h1, h2, h3⟩
  · omega
  · obtain rfl : i = j := by omega
    refine .inr ⟨k, rfl, by omega, ?_⟩
    rw [old_step hk, h3]
    unfold oldS
    rw [ht]
    exact if_pos hl
theorem OldT.stay {l : List En} {k i : Nat} (h : OldT l k i) (hk : k < l.length) (ht : (l.getD k en0).tr = false) (hl : ¬ (l.getD k en0).la < (l.getD i en0).la) : OldT l (k + 1) i := by
  rcases h with ⟨h1, h2⟩ | ⟨j, h1, h2, h3⟩
  · omega
  · obtain rfl : i = j := by omega
    refine .inr ⟨i, rfl, by omega, ?_⟩
    rw [old_step hk, h3]
    unfold oldS
    rw [ht]
    exact if_neg hl
theorem old_none : ∀ {l : List En} {o : Option En}, l.foldl oldS o = none → o = none ∧ ∀ e ∈ l, e.tr = true
  | [], o, h => ⟨h, fun e he => by cases he⟩
  | e :: l, o, h => by
    obtain ⟨h1, h2⟩ := old_none (l := l) (o := oldS o e) h
    unfold oldS at h1
    cases ht : e.tr with
    | true =>
      rw [ht] at h1
      refine ⟨h1, fun y hy => ?_⟩
      rcases List.mem_cons.1 hy with rfl | hy
      · exact ht
      · exact h2 y hy
    | false =>
      rw [ht] at h1
      exfalso
      cases o with
      | none => cases h1
      | some b =>
        simp only [Bool.false_eq_true, if_false] at h1
        split at h1 <;> cases h1
theorem un_none {l : List En} (h : ∀ e ∈ l, e.tr = true) : unE l = 0 := by
  unfold unE
  rw [List.countP_eq_zero]
  intro e he
  rw [h e he]
  simp
/-- The oldest one. -/
theorem OldT.done {l : List En} {a : Int} (h : OldT l l.length a) (hu : 0 < unE l) : ∃ i : Nat, a = i ∧ i < l.length ∧ oldE l = some (l.getD i en0) := by
  unfold OldT at h
  rw [List.take_of_length_le (Nat.le_refl _)] at h
  rcases h with ⟨_, h2⟩ | ⟨i, h1, h2, h3⟩
  · have := un_none (old_none h2).2
    omega
  · exact ⟨i, h1, h2, h3⟩
/-- What Put leaves. -/
def RPut (w : World) (B m : Nat) (F : Nat → Prop) (qt qu : Int) (r : Option En × Int × List En) (e : Ending) (w' : World) : Prop :=
  e = .returned (.tuple #[(r.1.getD en0).val, .bool r.1.isSome, .int .i64 r.2.1]) ∧ ∃ F2, RtTo w B F m qt qu r.2.2 F2 w'
theorem put_form {qu : Int} {f : Fl} {dip ep now : Int} {l : List En} (h : ¬ GoodF f) : putE qu f dip ep now l = (none, 9, l) := if_pos h
theorem put_late {qu : Int} {f : Fl} {dip ep now : Int} {l : List En} (h : GoodF f) (h2 : ¬ OkN now) : putE qu f dip ep now l = (none, 4, l) := by
  unfold putE
  rw [if_neg (fun h3 => h3 h), if_pos h2]
theorem put_old {qu : Int} {f : Fl} {dip ep now : Int} {l : List En} {e : En} (h : GoodF f) (h2 : OkN now) (h3 : findE f l = some e) : putE qu f dip ep now l = (none, 0, setE ⟨f, dip, ep, e.tr, false, now⟩ l) := by
  unfold putE
  rw [if_neg (fun h3 => h3 h), if_neg (fun h4 => h4 h2), h3]
theorem put_no {qu : Int} {f : Fl} {dip ep now : Int} {l : List En} (h : GoodF f) (h2 : OkN now) (h3 : findE f l = none) (h4 : qu = 0) : putE qu f dip ep now l = (none, 5, l) := by
  unfold putE
  rw [if_neg (fun h3 => h3 h), if_neg (fun h4 => h4 h2), h3]
  exact if_pos h4
theorem put_room {qu : Int} {f : Fl} {dip ep now : Int} {l : List En} (h : GoodF f) (h2 : OkN now) (h3 : findE f l = none) (h4 : ¬ qu = 0) (h5 : (unE l : Int) < qu) : putE qu f dip ep now l = (none, 0, insE (newE f dip ep now) l) := by
  unfold putE
  rw [if_neg (fun h3 => h3 h), if_neg (fun h4 => h4 h2), h3]
  simp only
  rw [if_neg h4, if_pos h5]
theorem put_full {qu : Int} {f : Fl} {dip ep now : Int} {l : List En} {o : En} (h : GoodF f) (h2 : OkN now) (h3 : findE f l = none) (h4 : ¬ qu = 0) (h5 : ¬ (unE l : Int) < qu) (h6 : oldE l = some o) : putE qu f dip ep now l = (some o, 0, insE (newE f dip ep now) (cutE o.f l)) := by
  unfold putE
  rw [if_neg (fun h3 => h3 h), if_neg (fun h4 => h4 h2), h3]
  simp only
  rw [if_neg h4, if_neg h5, h6]
end Go.Proofs.Ytpbgccidhpfmgaa
