/- Pairs of keys and rows, plain: found, taken out, put in their places; their size; of how many keys two are unlike. No program. -/
import Derived.Test.YtbkpkakjfhkfaaaRow
namespace Go.Proofs.Ytbkpkakjfhkfaaa
set_option linter.unusedVariables false
set_option linter.unusedSimpArgs false

abbrev Ky := List UInt8
structure Pr where
  k : Ky
  b : List Int
def pr0 : Pr := ⟨[], []⟩
instance : Inhabited Pr := ⟨pr0⟩
theorem ky_irr (a : Ky) : ¬ a < a := List.lt_irrefl a
theorem ky_trans {a b c : Ky} (h : a < b) (h2 : b < c) : a < c := List.lt_trans h h2
theorem ky_tri (a b : Ky) : a < b ∨ a = b ∨ b < a := by
  by_cases h : a < b
  · exact .inl h
  · by_cases h2 : b < a
    · exact .inr (.inr h2)
    · exact .inr (.inl (List.le_antisymm (List.not_lt.1 h2) (List.not_lt.1 h)))
def findP (k : Ky) (l : List Pr) : Option (List Int) := (l.find? (fun e => decide (e.k = k))).map (·.b)
def cutP (k : Ky) (l : List Pr) : List Pr := l.filter (fun e => !decide (e.k = k))
def insP (x : Pr) : List Pr → List Pr
  | [] => [x]
  | e :: l => if x.k < e.k then x :: e :: l else e :: insP x l
def putP (k : Ky) (r : List Int) (l : List Pr) : List Pr := insP ⟨k, r⟩ (cutP k l)
def szP (e : Pr) : Nat := e.k.length + e.b.length
def usedP : List Pr → Nat
  | [] => 0
  | e :: l => szP e + usedP l
def sizeAt (k : Ky) (l : List Pr) : Nat := match findP k l with
  | some r => k.length + r.length
  | none => 0
def SrtP (l : List Pr) : Prop := l.Pairwise (fun a b => a.k < b.k)
def unA (a b : List Pr) : Nat := (a.filter (fun e => decide (findP e.k b ≠ some e.b))).length
def unB (a b : List Pr) : Nat := (b.filter (fun e => decide (findP e.k a = none))).length
def unlikeP (a b : List Pr) : Nat := unA a b + unB a b
theorem findP_nil (k : Ky) : findP k [] = none := rfl
theorem findP_hit {k : Ky} {e : Pr} {l : List Pr} (h : e.k = k) : findP k (e :: l) = some e.b := by
  unfold findP; rw [List.find?_cons_of_pos (by simp [h])]; rfl
theorem findP_miss {k : Ky} {e : Pr} {l : List Pr} (h : e.k ≠ k) : findP k (e :: l) = findP k l := by
  unfold findP; rw [List.find?_cons_of_neg (by simp [h])]
theorem findP_none {k : Ky} {l : List Pr} : findP k l = none ↔ ∀ e ∈ l, e.k ≠ k := by
  induction l with
  | nil => simp [findP_nil]
  | cons a l ih =>
    by_cases h : a.k = k
    · rw [findP_hit h]; simp [h]
    · rw [findP_miss h, ih]; simp [h]
theorem findP_mem {k : Ky} {l : List Pr} {r : List Int} (h : findP k l = some r) : (⟨k, r⟩ : Pr) ∈ l := by
  induction l with
  | nil => cases h
  | cons a l ih =>
    by_cases e : a.k = k
    · rw [findP_hit e] at h
      cases h
      subst e
      exact List.mem_cons_self
    · rw [findP_miss e] at h
      exact List.mem_cons_of_mem _ (ih h)
theorem findP_of_mem {l : List Pr} (hs : SrtP l) {e : Pr} (he : e ∈ l) : findP e.k l = some e.b := by
  induction l with
  | nil => cases he
  | cons a l ih =>
    obtain ⟨h1, h2⟩ := List.pairwise_cons.1 hs
    rcases List.mem_cons.1 he with rfl | he
    · exact findP_hit rfl
    · rw [findP_miss (fun e2 => ky_irr _ (by have := h1 e he; rwa [e2] at this)), ih h2 he]
theorem findP_cut (k g : Ky) (l : List Pr) : findP g (cutP k l) = if g = k then none else findP g l := by
  induction l with
  | nil => simp [cutP, findP_nil]
  | cons a l ih =>
    by_cases h : a.k = k
    · have e : cutP k (a :: l) = cutP k l := by unfold cutP; rw [List.filter_cons_of_neg (by simp [h])]
      rw [e, ih]
      by_cases h2 : g = k
      · simp [h2]
      · rw [if_neg h2, if_neg h2, findP_miss (by rw [h]; exact fun e => h2 e.symm)]
    · have e : cutP k (a :: l) = a :: cutP k l := by unfold cutP; rw [List.filter_cons_of_pos (by simp [h])]
      rw [e]
      by_cases h2 : a.k = g
      · rw [findP_hit h2, findP_hit h2, if_neg (by rw [← h2]; exact h)]
      · rw [findP_miss h2, findP_miss h2, ih]
theorem findP_ins {x : Pr} {l : List Pr} (hn : ∀ e ∈ l, e.k ≠ x.k) (g : Ky) : findP g (insP x l) = if g = x.k then some x.b else findP g l := by
  induction l with
  | nil =>
    unfold insP
    by_cases h : g = x.k
    · rw [findP_hit h.symm, if_pos h]
    · rw [findP_miss (fun e => h e.symm), if_neg h]
  | cons a l ih =>
    unfold insP
    split
    · by_cases h : g = x.k
      · rw [findP_hit h.symm, if_pos h]
      · rw [findP_miss (fun e => h e.symm), if_neg h]
    · have ih := ih (fun e he => hn e (List.mem_cons_of_mem _ he))
      by_cases h : a.k = g
      · rw [findP_hit h, findP_hit h, if_neg (by rw [← h]; exact hn a List.mem_cons_self)]
      · rw [findP_miss h, findP_miss h, ih]
theorem cut_ne {k : Ky} {l : List Pr} : ∀ e ∈ cutP k l, e.k ≠ k := fun e he => by
  unfold cutP at he
  have := (List.mem_filter.1 he).2
  simpa using this
theorem cut_sub {k : Ky} {l : List Pr} : ∀ e ∈ cutP k l, e ∈ l := fun e he => (List.mem_filter.1 he).1
theorem findP_put (k g : Ky) (r : List Int) (l : List Pr) : findP g (putP k r l) = if g = k then some r else findP g l := by
  unfold putP
  rw [findP_ins (x := ⟨k, r⟩) cut_ne g, findP_cut]
  split <;> rfl
theorem ins_mem {x : Pr} {l : List Pr} : ∀ e, e ∈ insP x l ↔ e = x ∨ e ∈ l := by
  intro e
  induction l with
  | nil => simp [insP]
  | cons a l ih =>
    unfold insP
    split
    · simp
    · rw [List.mem_cons, ih, List.mem_cons]
      constructor
      · rintro (h | h | h) <;> simp [h]
      · rintro (h | h | h) <;> simp [h]
theorem srt_cut {k : Ky} {l : List Pr} (h : SrtP l) : SrtP (cutP k l) := List.Pairwise.sublist List.filter_sublist h
theorem srt_ins {x : Pr} {l : List Pr} (h : SrtP l) (hn : ∀ e ∈ l, e.k ≠ x.k) : SrtP (insP x l) := by
  induction l with
  | nil => exact List.pairwise_singleton _ _
  | cons a l ih =>
    obtain ⟨h1, h2⟩ := List.pairwise_cons.1 h
    unfold insP
    split
    · rename_i hlt
      refine List.pairwise_cons.2 ⟨fun e he => ?_, h⟩
      rcases List.mem_cons.1 he with rfl | he
      · exact hlt
      · exact ky_trans hlt (h1 e he)
    · rename_i hlt
      refine List.pairwise_cons.2 ⟨fun e he => ?_, ih h2 (fun e he => hn e (List.mem_cons_of_mem _ he))⟩
      rcases (ins_mem e).1 he with rfl | he
      · rcases ky_tri a.k e.k with h3 | h3 | h3
        · exact h3
        · exact absurd h3 (hn a List.mem_cons_self)
        · exact absurd h3 hlt
      · exact h1 e he
theorem srt_put {k : Ky} {r : List Int} {l : List Pr} (h : SrtP l) : SrtP (putP k r l) := srt_ins (srt_cut h) cut_ne
theorem used_app (a b : List Pr) : usedP (a ++ b) = usedP a + usedP b := by
  induction a with
  | nil => simp [usedP]
  | cons e a ih => simp only [List.cons_append, usedP, ih]; omega
theorem used_ins (x : Pr) (l : List Pr) : usedP (insP x l) = szP x + usedP l := by
  induction l with
  | nil => rfl
  | cons a l ih =>
    unfold insP
    split
    · rfl
    · simp only [usedP, ih]; omega
theorem len_ins (x : Pr) (l : List Pr) : (insP x l).length = l.length + 1 := by
  induction l with
  | nil => rfl
  | cons a l ih =>
    unfold insP
    split
    · rfl
    · simp only [List.length_cons, ih]
theorem cut_miss {k : Ky} {l : List Pr} (h : ∀ e ∈ l, e.k ≠ k) : cutP k l = l := by
  unfold cutP
  rw [List.filter_eq_self]
  intro e he
  simp [h e he]
theorem cut_facts {k : Ky} {l : List Pr} (hs : SrtP l) : usedP (cutP k l) + sizeAt k l = usedP l ∧ (cutP k l).length + (if (findP k l).isSome then 1 else 0) = l.length := by
  induction l with
  | nil => exact ⟨rfl, rfl⟩
  | cons a l ih =>
    obtain ⟨h1, h2⟩ := List.pairwise_cons.1 hs
    obtain ⟨i1, i2⟩ := ih h2
    by_cases h : a.k = k
    · have hm : ∀ e ∈ l, e.k ≠ k := fun e he e2 => ky_irr _ (by have := h1 e he; rw [h, e2] at this; exact this)
      have e : cutP k (a :: l) = l := by
        have : cutP k (a :: l) = cutP k l := by unfold cutP; rw [List.filter_cons_of_neg (by simp [h])]
        rw [this, cut_miss hm]
      unfold sizeAt
      rw [e, findP_hit h]
      refine ⟨?_, ?_⟩
      · simp only [usedP, szP, h]; omega
      · rw [Option.isSome_some, if_pos rfl, List.length_cons]
    · have e : cutP k (a :: l) = a :: cutP k l := by unfold cutP; rw [List.filter_cons_of_pos (by simp [h])]
      have e3 : sizeAt k (a :: l) = sizeAt k l := by unfold sizeAt; rw [findP_miss h]
      rw [e, findP_miss h, e3]
      refine ⟨?_, ?_⟩
      · simp only [usedP]; omega
      · rw [List.length_cons, List.length_cons, ← i2]; omega
theorem used_cut {k : Ky} {l : List Pr} (hs : SrtP l) : usedP (cutP k l) + sizeAt k l = usedP l := (cut_facts hs).1
theorem len_cut {k : Ky} {l : List Pr} (hs : SrtP l) : (cutP k l).length + (if (findP k l).isSome then 1 else 0) = l.length := (cut_facts hs).2
theorem used_put {k : Ky} {r : List Int} (l : List Pr) : usedP (putP k r l) = usedP (cutP k l) + k.length + r.length := by
  unfold putP
  rw [used_ins]
  simp only [szP]
  omega
theorem len_put {k : Ky} {r : List Int} {l : List Pr} (hs : SrtP l) : (putP k r l).length = if (findP k l).isSome then l.length else l.length + 1 := by
  unfold putP
  rw [len_ins]
  have := len_cut (k := k) hs
  split at this <;> simp_all <;> omega
/-- Keys of 1 to 64 bytes, rows of bytes. -/
def OkK (k : Ky) : Prop := 1 ≤ k.length ∧ k.length ≤ 64
instance (k : Ky) : Decidable (OkK k) := by unfold OkK; infer_instance
structure OkP (e : Pr) : Prop where
  k : OkK e.k
  b : fit e.b
theorem len_used {l : List Pr} (h : ∀ e ∈ l, OkP e) : l.length ≤ usedP l := by
  induction l with
  | nil => simp
  | cons a l ih =>
    have h1 := (h a List.mem_cons_self).k.1
    have h2 := ih (fun e he => h e (List.mem_cons_of_mem _ he))
    simp only [usedP, szP, List.length_cons]
    omega
theorem sz_used {l : List Pr} {e : Pr} (h : e ∈ l) : szP e ≤ usedP l := by
  induction l with
  | nil => cases h
  | cons a l ih =>
    rcases List.mem_cons.1 h with rfl | h
    · simp only [usedP]; omega
    · have := ih h; simp only [usedP]; omega
theorem ok_put {k : Ky} {r : List Int} {l : List Pr} (h : ∀ e ∈ l, OkP e) (hk : OkK k) (hr : fit r) : ∀ e ∈ putP k r l, OkP e := fun e he => by
  rcases (ins_mem e).1 he with rfl | he
  · exact ⟨hk, hr⟩
  · exact h e (cut_sub e he)
theorem ok_cut {k : Ky} {l : List Pr} (h : ∀ e ∈ l, OkP e) : ∀ e ∈ cutP k l, OkP e := fun e he => h e (cut_sub e he)
/-- Pairs in order are told by what is found. -/
theorem pr_ext {l m : List Pr} (hl : SrtP l) (hm : SrtP m) (h : ∀ k, findP k l = findP k m) : l = m := by
  induction l generalizing m with
  | nil =>
    cases m with
    | nil => rfl
    | cons b m =>
      have := h b.k
      rw [findP_nil, findP_hit rfl] at this
      cases this
  | cons a l ih =>
    cases m with
    | nil =>
      have := h a.k
      rw [findP_nil, findP_hit rfl] at this
      cases this
    | cons b m =>
      obtain ⟨h1, h2⟩ := List.pairwise_cons.1 hl
      obtain ⟨h3, h4⟩ := List.pairwise_cons.1 hm
      have ek : a.k = b.k := by
        rcases ky_tri a.k b.k with e | e | e
        · have := h a.k
          rw [findP_hit rfl, findP_miss (fun e2 => ky_irr _ (e2 ▸ e)), eq_comm] at this
          have hmem := findP_mem this
          exact absurd (ky_trans e (h3 _ hmem)) (ky_irr _)
        · exact e
        · have := h b.k
          rw [findP_hit (l := m) rfl, findP_miss (fun e2 => ky_irr _ (e2 ▸ e))] at this
          have hmem := findP_mem this
          exact absurd (ky_trans e (h1 _ hmem)) (ky_irr _)
      have eb : a.b = b.b := by
        have := h a.k
        rw [findP_hit rfl, findP_hit ek.symm] at this
        exact Option.some.inj this
      have e : a = b := by cases a; cases b; simp_all
      subst e
      rw [ih h2 h4 (fun k => ?_)]
      have := h k
      by_cases e : a.k = k
      · have n1 : findP k l = none := findP_none.2 (fun x hx e2 => ky_irr _ (by have := h1 x hx; rw [e, e2] at this; exact this))
        have n2 : findP k m = none := findP_none.2 (fun x hx e2 => ky_irr _ (by have := h3 x hx; rw [e, e2] at this; exact this))
        rw [n1, n2]
      · rwa [findP_miss e, findP_miss e] at this
/-- What Drop leaves. -/
def dropP : List Ky → List Pr → List Pr
  | [], l => l
  | k :: ks, l => dropP ks (cutP k l)
theorem dropP_app (a : List Ky) (k : Ky) (l : List Pr) : dropP (a ++ [k]) l = cutP k (dropP a l) := by
  induction a generalizing l with
  | nil => rfl
  | cons x a ih => simp only [List.cons_append, dropP]; exact ih _
theorem srt_drop {l : List Pr} (ks : List Ky) (h : SrtP l) : SrtP (dropP ks l) := by
  induction ks generalizing l with
  | nil => exact h
  | cons k ks ih => exact ih (srt_cut h)
theorem ok_drop {l : List Pr} (ks : List Ky) (h : ∀ e ∈ l, OkP e) : ∀ e ∈ dropP ks l, OkP e := by
  induction ks generalizing l with
  | nil => exact h
  | cons k ks ih => exact ih (ok_cut h)
theorem len_cut_le (k : Ky) (l : List Pr) : (cutP k l).length ≤ l.length := List.length_filter_le _ _
theorem used_cut_le (k : Ky) (l : List Pr) : usedP (cutP k l) ≤ usedP l := by
  induction l with
  | nil => exact Nat.le_refl _
  | cons a l ih =>
    by_cases h : a.k = k
    · have : cutP k (a :: l) = cutP k l := by unfold cutP; rw [List.filter_cons_of_neg (by simp [h])]
      rw [this]; simp only [usedP]; omega
    · have : cutP k (a :: l) = a :: cutP k l := by unfold cutP; rw [List.filter_cons_of_pos (by simp [h])]
      rw [this]; simp only [usedP]; omega
theorem len_drop_le (ks : List Ky) (l : List Pr) : (dropP ks l).length ≤ l.length := by
  induction ks generalizing l with
  | nil => exact Nat.le_refl _
  | cons k ks ih => exact Nat.le_trans (ih _) (len_cut_le k l)
theorem used_drop_le (ks : List Ky) (l : List Pr) : usedP (dropP ks l) ≤ usedP l := by
  induction ks generalizing l with
  | nil => exact Nat.le_refl _
  | cons k ks ih => exact Nat.le_trans (ih _) (used_cut_le k l)
/-- What Put answers (an error's number), and leaves. -/
def putN (size : Int) (k : Ky) (r : List Int) (l : List Pr) : Nat := if OkK k then (if size < (usedP (cutP k l) + k.length + r.length : Nat) then 5 else 0) else 9
def putL (size : Int) (k : Ky) (r : List Int) (l : List Pr) : List Pr := if putN size k r l = 0 then putP k r l else l
theorem putL_ok {size : Int} {k : Ky} {r : List Int} {l : List Pr} (h : ∀ e ∈ l, OkP e) (hr : fit r) : ∀ e ∈ putL size k r l, OkP e := by
  unfold putL putN
  by_cases hk : OkK k
  · rw [if_pos hk]
    split
    · exact h
    · exact ok_put h hk hr
  · rw [if_neg hk]; exact h
theorem putL_srt {size : Int} {k : Ky} {r : List Int} {l : List Pr} (h : SrtP l) : SrtP (putL size k r l) := by
  unfold putL
  split
  · exact srt_put h
  · exact h
theorem putL_used {size : Int} {k : Ky} {r : List Int} {l : List Pr} (h : (usedP l : Int) ≤ size) : (usedP (putL size k r l) : Int) ≤ size := by
  unfold putL putN
  by_cases hk : OkK k
  · rw [if_pos hk]
    by_cases h2 : size < (usedP (cutP k l) + k.length + r.length : Nat)
    · rw [if_pos h2]; exact h
    · rw [if_neg h2, if_pos rfl, used_put]; omega
  · rw [if_neg hk]; exact h
end Go.Proofs.Ytbkpkakjfhkfaaa
