/- Leases, plainly: which are good, which lists are in form, what is lent, found, pruned. No conditions but those stated. -/
import Derived.Test.YtanajblldlgalaaDoorHmR
namespace Go.Proofs.YtanajblldlgalaaDoor
open Go Go.RowKit
set_option linter.unusedVariables false
set_option linter.unusedSimpArgs false

structure Ls where
  vip : Int
  first : Int
  dip : Int
  exp : Int
def ls0 : Ls := ⟨0, 0, 0, 0⟩
instance : Inhabited Ls := ⟨ls0⟩
instance : DecidableEq Ls := fun a b => by
  cases a
  cases b
  simp only [Ls.mk.injEq]
  infer_instance
theorem Ls.same {a b : Ls} : a = b ↔ a.vip = b.vip ∧ a.first = b.first ∧ a.dip = b.dip ∧ a.exp = b.exp := by
  cases a
  cases b
  simp only [Ls.mk.injEq]
def IsVipA (a : Int) : Prop := 1 ≤ a / 16777216 ∧ a / 16777216 ≤ 223 ∧ a / 16777216 ≠ 10 ∧ a / 16777216 ≠ 127
instance (a : Int) : Decidable (IsVipA a) := by unfold IsVipA; infer_instance
instance (a : Int) : Decidable (IsDip a) := by unfold IsDip; infer_instance
def OkFst (n : Int) : Prop := 1024 ≤ n ∧ n ≤ 65528 ∧ n % 8 = 0
instance (a : Int) : Decidable (OkFst a) := by unfold OkFst; infer_instance
def OkTm (n : Int) : Prop := 0 ≤ n ∧ n ≤ 1099511627776
instance (a : Int) : Decidable (OkTm a) := by unfold OkTm; infer_instance
def GoodL (l : Ls) : Prop := IsDip l.dip ∧ IsVipA l.vip ∧ OkFst l.first ∧ 0 ≤ l.exp ∧ l.exp ≤ 1099511627840
instance (l : Ls) : Decidable (GoodL l) := by unfold GoodL; infer_instance
/-- One block comes ahead of another. -/
def ltL (a b : Ls) : Bool := decide (a.vip < b.vip ∨ a.vip = b.vip ∧ a.first < b.first)
theorem ltL_iff {a b : Ls} : ltL a b = true ↔ a.vip < b.vip ∨ a.vip = b.vip ∧ a.first < b.first := by unfold ltL; simp
theorem ltL_tr {a b c : Ls} (h : ltL a b = true) (h2 : ltL b c = true) : ltL a c = true := by
  rw [ltL_iff] at *
  omega
theorem ltL_irr (a : Ls) : ltL a a = false := by
  unfold ltL
  exact decide_eq_false (by omega)
theorem ltL_or {a b : Ls} (h : ltL a b = false) (h2 : ltL b a = false) : a.vip = b.vip ∧ a.first = b.first := by
  unfold ltL at *
  rw [decide_eq_false_iff_not] at *
  omega
def sameK (a b : Ls) : Bool := decide (a.vip = b.vip ∧ a.first = b.first)
theorem sameK_iff {a b : Ls} : sameK a b = true ↔ a.vip = b.vip ∧ a.first = b.first := by unfold sameK; simp
/-- The lists in form. -/
def OkL (l : List Ls) : Prop := (∀ x ∈ l, GoodL x) ∧ l.Pairwise (fun a b => ltL a b = true)
instance (l : List Ls) : Decidable (OkL l) := by unfold OkL; infer_instance
theorem memL {l : List Ls} {i : Nat} (hi : i < l.length) : l.getD i ls0 ∈ l := by
  rw [List.getD_eq_getElem?_getD, List.getElem?_eq_getElem hi]
  exact List.getElem_mem _
theorem take_moreL (l : List Ls) {i : Nat} (hi : i < l.length) : l.take (i + 1) = l.take i ++ [l.getD i ls0] := take_more l ls0 hi
theorem OkL.step {l : List Ls} {i : Nat} (h : OkL (l.take i)) (hi : i < l.length) (hg : GoodL (l.getD i ls0)) (hn : 0 < i → ltL (l.getD (i - 1) ls0) (l.getD i ls0) = true) : OkL (l.take (i + 1)) := by
  constructor
  · intro e he
    rw [take_moreL l hi, List.mem_append, List.mem_singleton] at he
    rcases he with he | he
    · exact h.1 e he
    · rw [he]; exact hg
  · rw [take_moreL l hi, List.pairwise_append]
    refine ⟨h.2, List.pairwise_singleton _ _, fun a ha b hb => ?_⟩
    rw [List.mem_singleton] at hb
    subst hb
    by_cases h0 : i = 0
    · subst h0
      simp at ha
    · have h1 := hn (by omega)
      obtain ⟨j, rfl⟩ : ∃ j, i = j + 1 := ⟨i - 1, by omega⟩
      rw [take_moreL l (by omega), List.mem_append, List.mem_singleton] at ha
      rw [show j + 1 - 1 = j by omega] at h1
      rcases ha with ha | ha
      · have h2 := h.2
        rw [take_moreL l (by omega), List.pairwise_append] at h2
        exact ltL_tr (h2.2.2 a ha _ (by simp)) h1
      · rw [ha]; exact h1
theorem OkL.pre {l : List Ls} {i : Nat} (h : OkL l) : OkL (l.take i) := ⟨fun x hx => h.1 x (List.mem_of_mem_take hx), h.2.sublist (List.take_sublist i l)⟩
theorem OkL.not_good {l : List Ls} {i : Nat} (hi : i < l.length) (h : ¬ GoodL (l.getD i ls0)) : ¬ OkL l := fun ho => h (ho.1 _ (memL hi))
theorem OkL.not_lt {l : List Ls} {i : Nat} (hi : i < l.length) (h0 : 0 < i) (h : ltL (l.getD (i - 1) ls0) (l.getD i ls0) = false) : ¬ OkL l := fun ho => by
  have := List.pairwise_iff_getElem.1 ho.2 (i - 1) i (by omega) hi (by omega)
  rw [List.getD_eq_getElem?_getD, List.getD_eq_getElem?_getD, List.getElem?_eq_getElem hi, List.getElem?_eq_getElem (by omega)] at h
  rw [Option.getD_some, Option.getD_some, this] at h
  cases h
/-- Of a list: what is found, a machine's, what lives. -/
def livL (now : Int) (x : Ls) : Bool := decide (now ≤ x.exp)
def hasP (port : Int) (x : Ls) : Bool := decide (x.first ≤ port ∧ port - x.first < 8)
def isF (vip port now : Int) (x : Ls) : Bool := decide (x.vip = vip) && (livL now x && hasP port x)
def findL (vip port now : Int) (l : List Ls) : Option Ls := l.find? (isF vip port now)
def isO (dip now : Int) (x : Ls) : Bool := decide (x.dip = dip) && livL now x
def ofL (dip now : Int) (l : List Ls) : List Ls := l.filter (isO dip now)
def prL (now : Int) (l : List Ls) : List Ls := l.filter (livL now)
/-- A list with a lease in its place. -/
def withL (x : Ls) (l : List Ls) : List Ls := l.filter (fun y => ltL y x) ++ x :: l.filter (fun y => ltL x y)
/-- Is a block lent? -/
def lentB (vip now : Int) (l : List Ls) (k : Nat) : Bool := l.any (fun x => decide (x.vip = vip) && (livL now x && decide (x.first = 1024 + 8 * (k : Int))))
def freeL (vip now : Int) (l : List Ls) : Option Nat := (List.range 8064).find? (fun k => !lentB vip now l k)
def grantL (l : List Ls) (vip dip now : Int) : List Ls × Ls × Int :=
  if OkTm now ∧ IsVipA vip ∧ IsDip dip ∧ OkL l then
    if 4 ≤ (ofL dip now l).length then ([], ls0, 7) else
    match freeL vip now l with
    | none => ([], ls0, 5)
    | some k => (withL ⟨vip, 1024 + 8 * (k : Int), dip, now + 64⟩ l, ⟨vip, 1024 + 8 * (k : Int), dip, now + 64⟩, 0)
  else ([], ls0, 9)
def isR (vip first dip now : Int) (x : Ls) : Bool := decide (x.vip = vip) && (decide (x.first = first) && (decide (x.dip = dip) && livL now x))
def renewL (l : List Ls) (vip first dip now : Int) : List Ls × Ls × Int :=
  if OkTm now ∧ OkL l then
    if l.any (isR vip first dip now) then (withL ⟨vip, first, dip, now + 64⟩ l, ⟨vip, first, dip, now + 64⟩, 0) else ([], ls0, 6)
  else ([], ls0, 9)
/-- What comes ahead of a lease and what behind it, in a list in form. -/
theorem with_split {x : Ls} {a b : List Ls} (ha : ∀ y ∈ a, ltL y x = true) (hb : ∀ y ∈ b, ltL x y = true) : withL x (a ++ b) = a ++ x :: b := by
  unfold withL
  have h1 : (a ++ b).filter (fun y => ltL y x) = a := by
    rw [List.filter_append, List.filter_eq_self.2 ha, List.filter_eq_nil_iff.2, List.append_nil]
    intro y hy h
    have := ltL_tr h (hb y hy)
    rw [ltL_irr] at this
    cases this
  have h2 : (a ++ b).filter (fun y => ltL x y) = b := by
    rw [List.filter_append, List.filter_eq_self.2 hb, List.filter_eq_nil_iff.2, List.nil_append]
    intro y hy h
    have := ltL_tr h (ha y hy)
    rw [ltL_irr] at this
    cases this
  rw [h1, h2]
theorem with_split1 {x y : Ls} {a b : List Ls} (ha : ∀ y ∈ a, ltL y x = true) (hy : sameK y x = true) (hb : ∀ y ∈ b, ltL x y = true) : withL x (a ++ y :: b) = a ++ x :: b := by
  have hk := sameK_iff.1 hy
  have y1 : ltL y x = false := by unfold ltL; exact decide_eq_false (by omega)
  have y2 : ltL x y = false := by unfold ltL; exact decide_eq_false (by omega)
  have h := with_split ha hb
  unfold withL at *
  rw [List.filter_append, List.filter_cons_of_neg (by simp [y1]), ← List.filter_append, List.filter_append (p := fun y => ltL x y), List.filter_cons_of_neg (by simp [y2]), ← List.filter_append]
  exact h
theorem mem_with {x y : Ls} {l : List Ls} : y ∈ withL x l ↔ y = x ∨ y ∈ l ∧ sameK y x = false := by
  unfold withL
  rw [List.mem_append, List.mem_cons, List.mem_filter, List.mem_filter]
  have h : (ltL y x = true ∨ ltL x y = true) ↔ sameK y x = false := by
    unfold ltL sameK
    rw [decide_eq_true_iff, decide_eq_true_iff, decide_eq_false_iff_not]
    omega
  constructor
  · rintro (⟨h1, h2⟩ | h1 | ⟨h1, h2⟩)
    · exact .inr ⟨h1, h.1 (.inl h2)⟩
    · exact .inl h1
    · exact .inr ⟨h1, h.1 (.inr h2)⟩
  · rintro (h1 | ⟨h1, h2⟩)
    · exact .inr (.inl h1)
    · rcases h.2 h2 with h3 | h3
      · exact .inl ⟨h1, h3⟩
      · exact .inr (.inr ⟨h1, h3⟩)
theorem OkL.with {x : Ls} {l : List Ls} (h : OkL l) (hx : GoodL x) : OkL (withL x l) := by
  constructor
  · intro y hy
    rcases mem_with.1 hy with e | ⟨h1, _⟩
    · rw [e]; exact hx
    · exact h.1 y h1
  · unfold withL
    rw [List.pairwise_append, List.pairwise_cons]
    refine ⟨h.2.filter _, ⟨fun a ha => (List.mem_filter.1 ha).2, h.2.filter _⟩, fun a ha b hb => ?_⟩
    have h1 := (List.mem_filter.1 ha).2
    rcases List.mem_cons.1 hb with e | hb
    · rw [e]; exact h1
    · exact ltL_tr h1 (List.mem_filter.1 hb).2
theorem OkL.filter {l : List Ls} (h : OkL l) (p : Ls → Bool) : OkL (l.filter p) := ⟨fun x hx => h.1 x (List.mem_filter.1 hx).1, h.2.filter p⟩
theorem okL_nil : OkL [] := ⟨fun x h => by simp at h, List.Pairwise.nil⟩
/-- In a list in form each block stands once. -/
theorem OkL.one {l : List Ls} (h : OkL l) {x y : Ls} (hx : x ∈ l) (hy : y ∈ l) (hk : x.vip = y.vip ∧ x.first = y.first) : x = y := by
  obtain ⟨i, hi, rfl⟩ := List.mem_iff_getElem.1 hx
  obtain ⟨j, hj, rfl⟩ := List.mem_iff_getElem.1 hy
  rcases Nat.lt_trichotomy i j with q | q | q
  · have := ltL_iff.1 (List.pairwise_iff_getElem.1 h.2 i j hi hj q)
    omega
  · subst q; rfl
  · have := ltL_iff.1 (List.pairwise_iff_getElem.1 h.2 j i hj hi q)
    omega
/-- What is found at a block's first port. -/
theorem hasP_blk {x : Ls} {p : Int} (hx : OkFst x.first) (hp : OkFst p) : hasP p x = decide (x.first = p) := by
  unfold hasP OkFst at *
  exact decide_eq_decide.2 (by omega)
theorem find_blk {l : List Ls} (h : OkL l) {vip p now : Int} (hp : OkFst p) : findL vip p now l = l.find? (fun x => decide (x.vip = vip) && (livL now x && decide (x.first = p))) := by
  unfold findL
  have : ∀ x ∈ l, isF vip p now x = (decide (x.vip = vip) && (livL now x && decide (x.first = p))) := fun x hx => by
    unfold isF
    rw [hasP_blk (h.1 x hx).2.2.1 hp]
  clear h
  induction l with
  | nil => rfl
  | cons a l ih =>
    rw [List.find?_cons, List.find?_cons, this a (by simp)]
    split
    · rfl
    · exact ih (fun x hx => this x (by simp [hx]))
theorem lent_is {l : List Ls} (h : OkL l) {vip now : Int} {k : Nat} (hk : k < 8064) : (findL vip (1024 + 8 * (k : Int)) now l).isSome = lentB vip now l k := by
  rw [find_blk h (by unfold OkFst; omega)]
  unfold lentB
  rw [Bool.eq_iff_iff, List.find?_isSome, List.any_eq_true]
theorem free_some {vip now : Int} {l : List Ls} {k : Nat} (hk : k < 8064) (h : lentB vip now l k = false) (hn : ∀ j, j < k → lentB vip now l j = true) : freeL vip now l = some k := by
  unfold freeL
  rw [List.find?_range_eq_some]
  refine ⟨by simp [h], by simpa using hk, fun j hj => by simp [hn j hj]⟩
theorem free_none {vip now : Int} {l : List Ls} (hn : ∀ j, j < 8064 → lentB vip now l j = true) : freeL vip now l = none := by
  unfold freeL
  rw [List.find?_range_eq_none]
  intro j hj
  simp [hn j hj]
theorem free_is {vip now : Int} {l : List Ls} {k : Nat} (h : freeL vip now l = some k) : k < 8064 ∧ lentB vip now l k = false ∧ ∀ j, j < k → lentB vip now l j = true := by
  unfold freeL at h
  rw [List.find?_range_eq_some] at h
  obtain ⟨h1, h2, h3⟩ := h
  exact ⟨by simpa using h2, by simpa using h1, fun j hj => by simpa using h3 j hj⟩
end Go.Proofs.YtanajblldlgalaaDoor
