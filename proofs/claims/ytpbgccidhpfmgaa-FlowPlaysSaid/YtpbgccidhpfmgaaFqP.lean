/- Quotas, plainly: what Put, Touch and Expire keep. No conditions but those stated. -/
import Derived.Test.YtpbgccidhpfmgaaFcS
namespace Go.Proofs.Ytpbgccidhpfmgaa
open Go Go.RowKit
set_option linter.unusedVariables false
set_option linter.unusedSimpArgs false

/-- The quotas are kept. -/
def InvQ (qt qu : Int) (l : List En) : Prop := (trE l : Int) ≤ qt ∧ (unE l : Int) ≤ qu
theorem InvQ.len {qt qu : Int} {l : List En} (h : InvQ qt qu l) (h1 : OkQ qt ∧ OkQ qu) : l.length ≤ 8192 := by
  have := tr_un l
  unfold InvQ at h
  unfold OkQ at h1
  omega
theorem cut_perm {f : Fl} {l : List En} {e : En} (hs : SrtE l) (h : findE f l = some e) : l.Perm (e :: cutE f l) := by
  obtain ⟨h1, h2⟩ := findE_some h
  obtain ⟨i, hi, rfl⟩ := List.mem_iff_getElem.1 h1
  have h3 : l.getD i en0 = l[i] := by rw [List.getD_eq_getElem?_getD, List.getElem?_eq_getElem hi]; rfl
  have h4 := erase_is hs hi
  rw [h3, h2] at h4
  rw [← h4]
  have h5 : l = l.take i ++ l[i] :: l.drop (i + 1) := by
    conv => lhs; rw [← List.take_append_drop i l]
    rw [List.drop_eq_getElem_cons hi]
  rw [List.eraseIdx_eq_take_drop_succ]
  have h6 : (l.take i ++ l[i] :: l.drop (i + 1)).Perm (l[i] :: (l.take i ++ l.drop (i + 1))) := List.perm_middle
  have h7 : l.Perm (l.take i ++ l[i] :: l.drop (i + 1)) := by rw [← h5]
  exact h7.trans h6
theorem set_cut (x : En) (l : List En) : cutE x.f (setE x l) = cutE x.f l := by
  unfold cutE setE
  induction l with
  | nil => rfl
  | cons e l ih =>
    rw [List.map_cons]
    by_cases h : e.f = x.f
    · rw [if_pos h, List.filter_cons_of_neg (by simp), List.filter_cons_of_neg (by simp [h]), ih]
    · rw [if_neg h, List.filter_cons_of_pos (by simp [h]), List.filter_cons_of_pos (by simp [h]), ih]
def one (b : Bool) : Nat := if b then 1 else 0
theorem trE_cons (e : En) (l : List En) : trE (e :: l) = one e.tr + trE l := by
  unfold trE one
  rw [List.countP_cons]
  omega
theorem unE_cons (e : En) (l : List En) : unE (e :: l) = one (!e.tr) + unE l := by
  unfold unE one
  rw [List.countP_cons]
  omega
theorem trE_perm {l m : List En} (h : l.Perm m) : trE l = trE m := h.countP_eq _
theorem unE_perm {l m : List En} (h : l.Perm m) : unE l = unE m := h.countP_eq _
theorem set_cnt {x e : En} {l : List En} (hs : SrtE l) (h : findE x.f l = some e) : trE (setE x l) + one e.tr = trE l + one x.tr ∧ unE (setE x l) + one (!e.tr) = unE l + one (!x.tr) := by
  have h1 := cut_perm hs h
  have h2 : findE x.f (setE x l) = some x := by rw [findE_set hs h, if_pos rfl]
  have h3 := cut_perm (hs.set x) h2
  rw [set_cut] at h3
  rw [trE_perm h1, unE_perm h1, trE_perm h3, unE_perm h3, trE_cons, trE_cons, unE_cons, unE_cons]
  omega
theorem ins_cnt (x : En) (l : List En) : trE (insE x l) = one x.tr + trE l ∧ unE (insE x l) = one (!x.tr) + unE l := by
  rw [trE_perm (insE_perm x l), unE_perm (insE_perm x l), trE_cons, unE_cons]
  exact ⟨rfl, rfl⟩
theorem old_some : ∀ {l : List En} {a : Option En} {o : En}, l.foldl oldS a = some o → a = some o ∨ (o ∈ l ∧ o.tr = false)
  | [], a, o, h => .inl h
  | e :: l, a, o, h => by
    rcases old_some (l := l) (a := oldS a e) (o := o) h with h1 | ⟨h1, h2⟩
    · unfold oldS at h1
      cases ht : e.tr with
      | true =>
        rw [ht] at h1
        exact .inl h1
      | false =>
        rw [ht] at h1
        simp only [Bool.false_eq_true, if_false] at h1
        cases a with
        | none => cases h1; exact .inr ⟨List.mem_cons_self, ht⟩
        | some b =>
          simp only at h1
          split at h1
          · cases h1; exact .inr ⟨List.mem_cons_self, ht⟩
          · exact .inl h1
    · exact .inr ⟨List.mem_cons_of_mem _ h1, h2⟩
theorem old_is {l : List En} {o : En} (h : oldE l = some o) : o ∈ l ∧ o.tr = false := by
  rcases old_some h with h1 | h1
  · cases h1
  · exact h1
/-- Put, in its ways. -/
theorem put_ways {qt qu : Int} {f : Fl} {dip ep now : Int} {l : List En} (hs : SrtE l) (hi : InvQ qt qu l) (hq : 0 ≤ qu) :
    InvQ qt qu (putE qu f dip ep now l).2.2 ∧
    ((∃ k, (k = 9 ∨ k = 4 ∨ k = 5) ∧ putE qu f dip ep now l = (none, k, l)) ∨
     (∃ e l', findE f l = some e ∧ putE qu f dip ep now l = (none, 0, l') ∧ findE f l' = some ⟨f, dip, ep, e.tr, false, now⟩) ∨
     (∃ l', findE f l = none ∧ putE qu f dip ep now l = (none, 0, l') ∧ findE f l' = some ⟨f, dip, ep, false, false, now⟩) ∨
     (∃ o l', findE f l = none ∧ o.tr = false ∧ putE qu f dip ep now l = (some o, 0, l') ∧ findE f l' = some ⟨f, dip, ep, false, false, now⟩)) := by
  by_cases hg : GoodF f
  · by_cases ho : OkN now
    · cases h3 : findE f l with
      | some e =>
        rw [put_old hg ho h3]
        have h4 := set_cnt (x := ⟨f, dip, ep, e.tr, false, now⟩) hs h3
        refine ⟨?_, .inr (.inl ⟨e, _, rfl, rfl, by rw [findE_set (x := ⟨f, dip, ep, e.tr, false, now⟩) hs h3, if_pos rfl]⟩)⟩
        unfold InvQ at hi ⊢
        simp only at h4 ⊢
        omega
      | none =>
        by_cases h4 : qu = 0
        · rw [put_no hg ho h3 h4]
          exact ⟨hi, .inl ⟨5, .inr (.inr rfl), rfl⟩⟩
        · by_cases h5 : (unE l : Int) < qu
          · rw [put_room hg ho h3 h4 h5]
            have h6 := ins_cnt (newE f dip ep now) l
            refine ⟨?_, .inr (.inr (.inl ⟨_, rfl, rfl, by rw [findE_ins (x := newE f dip ep now) hs h3]; exact if_pos rfl⟩))⟩
            unfold InvQ at hi ⊢
            have h7 : one (newE f dip ep now).tr = 0 := rfl
            have h8 : one (!(newE f dip ep now).tr) = 1 := rfl
            rw [h7, h8] at h6
            simp only
            omega
          · obtain ⟨i, _, hil, hold⟩ : ∃ i : Nat, True ∧ i < l.length ∧ oldE l = some (l.getD i en0) := by
              cases ho2 : oldE l with
              | none =>
                have := un_none (old_none (l := l) (o := none) ho2).2
                exact absurd this (by omega)
              | some o =>
                obtain ⟨h6, _⟩ := old_is ho2
                obtain ⟨i, hi2, rfl⟩ := List.mem_iff_getElem.1 h6
                refine ⟨i, trivial, hi2, ?_⟩
                rw [List.getD_eq_getElem?_getD, List.getElem?_eq_getElem hi2]
                rfl
            obtain ⟨o, hox⟩ : ∃ o, o = l.getD i en0 := ⟨_, rfl⟩
            rw [← hox] at hold
            rw [put_full hg ho h3 h4 h5 hold]
            obtain ⟨hom, hot⟩ := old_is hold
            have hfo := findE_mem hs hom rfl
            have hp := cut_perm hs hfo
            have h3' : findE (newE f dip ep now).f (cutE o.f l) = none := findE_none.2 (fun e he => findE_none.1 h3 e (List.mem_filter.1 he).1)
            have h6 := ins_cnt (newE f dip ep now) (cutE o.f l)
            have h7 : one (newE f dip ep now).tr = 0 := rfl
            have h8 : one (!(newE f dip ep now).tr) = 1 := rfl
            have h9 := trE_perm hp
            have h10 := unE_perm hp
            rw [trE_cons, hot] at h9
            rw [unE_cons, hot] at h10
            have h11 : one false = 0 := rfl
            have h12 : one (!false) = 1 := rfl
            rw [h7, h8] at h6
            rw [h11] at h9
            rw [h12] at h10
            refine ⟨?_, .inr (.inr (.inr ⟨o, _, rfl, hot, rfl, by rw [findE_ins (hs.cut _) h3']; exact if_pos rfl⟩))⟩
            unfold InvQ at hi ⊢
            simp only
            omega
    · rw [put_late hg ho]
      exact ⟨hi, .inl ⟨4, .inr (.inl rfl), rfl⟩⟩
  · rw [put_form hg]
    exact ⟨hi, .inl ⟨9, .inl rfl, rfl⟩⟩
/-- Touch, in its ways. -/
theorem touch_ways {qt qu : Int} {f : Fl} {flags now : Int} {l : List En} (hs : SrtE l) (hi : InvQ qt qu l) :
    InvQ qt qu (touchE qt f flags now l).2 ∧
    ((touchE qt f flags now l).2 = l ∨ ∃ e y, findE f l = some e ∧ findE f (touchE qt f flags now l).2 = some y ∧ y.dip = e.dip ∧ y.ep = e.ep ∧ (e.tr = true → y.tr = true)) := by
  cases h : findE f l with
  | none => rw [touch_none h]; exact ⟨hi, .inl rfl⟩
  | some e =>
    by_cases ho : OkN now
    · rw [touch_some h ho]
      have hef := (findE_some h).2
      have hyf : (tchE qt flags now (trE l) e).f = f := hef
      have h' : findE (tchE qt flags now (trE l) e).f l = some e := by rw [hyf]; exact h
      have h4 := set_cnt hs h'
      refine ⟨?_, .inr ⟨e, tchE qt flags now (trE l) e, rfl, by simp only; rw [findE_set hs h', if_pos hyf.symm], rfl, rfl, fun ht => by unfold tchE; simp [ht]⟩⟩
      unfold InvQ at hi ⊢
      have h5 : (tchE qt flags now (trE l) e).tr = (e.tr || (!synB e.f.p flags && decide ((trE l : Int) < qt))) := rfl
      rw [h5] at h4
      simp only
      cases ht : e.tr with
      | true =>
        rw [ht] at h4
        simp only [Bool.true_or] at h4
        omega
      | false =>
        rw [ht] at h4
        simp only [Bool.false_or] at h4
        cases hc : (!synB e.f.p flags && decide ((trE l : Int) < qt)) with
        | false =>
          rw [hc] at h4
          omega
        | true =>
          rw [hc] at h4
          rw [Bool.and_eq_true, decide_eq_true_eq] at hc
          have h11 : one false = 0 := rfl
          have h12 : one true = 1 := rfl
          have h13 : one (!false) = 1 := rfl
          have h14 : one (!true) = 0 := rfl
          rw [h11, h12, h13, h14] at h4
          omega
    · rw [touch_late ho]
      exact ⟨hi, .inl rfl⟩
theorem cnt_sub {l m : List En} (h : m.Sublist l) : trE m ≤ trE l ∧ unE m ≤ unE l := ⟨h.countP_le, h.countP_le⟩
theorem exp_inv {qt qu : Int} {now : Int} {l : List En} (hi : InvQ qt qu l) : InvQ qt qu (expE now l).2 := by
  have : trE (expE now l).2 ≤ trE l ∧ unE (expE now l).2 ≤ unE l := by
    unfold expE
    split
    · exact cnt_sub List.filter_sublist
    · exact ⟨Nat.le_refl _, Nat.le_refl _⟩
  unfold InvQ at hi ⊢
  omega
end Go.Proofs.Ytpbgccidhpfmgaa
