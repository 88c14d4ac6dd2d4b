/- Pairs of keys and rows, plain: found, taken out, put in their places; their size; of how many keys two are unlike. No program. A map from keys to rows: what it reads as, in memory, and how it turns. No conditions but those stated. Rows of rows that came in; strings.Clone; slices.Grow of nil and slices.Concat; bytes.Equal, bytes.Clone. Conditions: rows came in; at most 2^27 bytes. A store of pairs in memory; what is left to be visited of a map. No conditions but those stated. The program's store: orEmpty, sizeAt, size, differences, New. Conditions: as each states. The program's store: size, differences. Conditions: as each states. -/
import Derived.Test.YtnhnpfhfcbmmlaaRow
import Derived.Test.YtnhnpfhfcbmmlaaTch
import Derived.Test.YtnhnpfhfcbmmlaaQStB
import Derived.Maps.OwnSet
import Derived.Maps.RangeWalk
import Derived.Sort.KeysCollected
import Derived.Laws.IdiomRangeMap
import Derived.Test.YtnhnpfhfcbmmlaaNumA
import Derived.Test.YtnhnpfhfcbmmlaaGenB
import Derived.Lib.AppendZeros
import Derived.Laws.Rows
import Derived.Deep.CutRange
namespace Go.Proofs.Ytnhnpfhfcbmmlaa
set_option linter.unusedVariables false
set_option linter.unusedSimpArgs false

abbrev Ky := List UInt8
structure Pr where
  k : Ky
  b : List Int
def pr0 : Pr := ⟨[], []⟩
instance : Inhabited Pr := ⟨pr0⟩
theorem ky_irr (a : Ky) : ¬ a < a := List.lt_irrefl a
theorem ky_trans {a b c : Ky} (h : a < b) (h2 : b < c) : a < c := List.lt_trans h h2
theorem ky_tri (a b : Ky) : a < b ∨ a = b ∨ b < a := by
  by_cases h : a < b
  · exact .inl h
  · by_cases h2 : b < a
    · exact .inr (.inr h2)
    · exact .inr (.inl (List.le_antisymm (List.not_lt.1 h2) (List.not_lt.1 h)))
def findP (k : Ky) (l : List Pr) : Option (List Int) := (l.find? (fun e => decide (e.k = k))).map (·.b)
def cutP (k : Ky) (l : List Pr) : List Pr := l.filter (fun e => !decide (e.k = k))
def insP (x : Pr) : List Pr → List Pr
  | [] => [x]
  | e :: l => if x.k < e.k then x :: e :: l else e :: insP x l
def putP (k : Ky) (r : List Int) (l : List Pr) : List Pr := insP ⟨k, r⟩ (cutP k l)
def szP (e : Pr) : Nat := e.k.length + e.b.length
def usedP : List Pr → Nat
  | [] => 0
  | e :: l => szP e + usedP l
def sizeAt (k : Ky) (l : List Pr) : Nat := match findP k l with
  | some r => k.length + r.length
  | none => 0
def SrtP (l : List Pr) : Prop := l.Pairwise (fun a b => a.k < b.k)
def unA (a b : List Pr) : Nat := (a.filter (fun e => decide (findP e.k b ≠ some e.b))).length
def unB (a b : List Pr) : Nat := (b.filter (fun e => decide (findP e.k a = none))).length
def unlikeP (a b : List Pr) : Nat := unA a b + unB a b
theorem findP_nil (k : Ky) : findP k [] = none := rfl
theorem findP_hit {k : Ky} {e : Pr} {l : List Pr} (h : e.k = k) : findP k (e :: l) = some e.b := by
  unfold findP; rw [List.find?_cons_of_pos (by simp [h])]; rfl
theorem findP_miss {k : Ky} {e : Pr} {l : List Pr} (h : e.k ≠ k) : findP k (e :: l) = findP k l := by
  unfold findP; rw [List.find?_cons_of_neg (by simp [h])]
theorem findP_none {k : Ky} {l : List Pr} : findP k l = none ↔ ∀ e ∈ l, e.k ≠ k := by
  induction l with
  | nil => simp [findP_nil]
  | cons a l ih =>
    by_cases h : a.k = k
    · rw [findP_hit h]; simp [h]
    · rw [findP_miss h, ih]; simp [h]
theorem findP_mem {k : Ky} {l : List Pr} {r : List Int} (h : findP k l = some r) : (⟨k, r⟩ : Pr) ∈ l := by
  induction l with
  | nil => cases h
  | cons a l ih =>
    by_cases e : a.k = k
    · rw [findP_hit e] at h
      cases h
      subst e
      exact List.mem_cons_self
    · rw [findP_miss e] at h
      exact List.mem_cons_of_mem _ (ih h)
theorem findP_of_mem {l : List Pr} (hs : SrtP l) {e : Pr} (he : e ∈ l) : findP e.k l = some e.b := by
  induction l with
  | nil => cases he
  | cons a l ih =>
    obtain ⟨h1, h2⟩ := List.pairwise_cons.1 hs
    rcases List.mem_cons.1 he with rfl | he
    · exact findP_hit rfl
    · rw [findP_miss (fun e2 => ky_irr _ (by have := h1 e he; rwa [e2] at this)), ih h2 he]
theorem findP_cut (k g : Ky) (l : List Pr) : findP g (cutP k l) = if g = k then none else findP g l := by
  induction l with
  | nil => simp [cutP, findP_nil]
  | cons a l ih =>
    by_cases h : a.k = k
    · have e : cutP k (a :: l) = cutP k l := by unfold cutP; rw [List.filter_cons_of_neg (by simp [h])]
      rw [e, ih]
      by_cases h2 : g = k
      · simp [h2]
      · rw [if_neg h2, if_neg h2, findP_miss (by rw [h]; exact fun e => h2 e.symm)]
    · have e : cutP k (a :: l) = a :: cutP k l := by unfold cutP; rw [List.filter_cons_of_pos (by simp [h])]
      rw [e]
      by_cases h2 : a.k = g
      · rw [findP_hit h2, findP_hit h2, if_neg (by rw [← h2]; exact h)]
      · rw [findP_miss h2, findP_miss h2, ih]
theorem findP_ins {x : Pr} {l : List Pr} (hn : ∀ e ∈ l, e.k ≠ x.k) (g : Ky) : findP g (insP x l) = if g = x.k then some x.b else findP g l := by
  induction l with
  | nil =>
    unfold insP
    by_cases h : g = x.k
    · rw [findP_hit h.symm, if_pos h]
    · rw [findP_miss (fun e => h e.symm), if_neg h]
  | cons a l ih =>
    unfold insP
    split
    · by_cases h : g = x.k
      · rw [findP_hit h.symm, if_pos h]
      · rw [findP_miss (fun e => h e.symm), if_neg h]
    · have ih := ih (fun e he => hn e (List.mem_cons_of_mem _ he))
      by_cases h : a.k = g
      · rw [findP_hit h, findP_hit h, if_neg (by rw [← h]; exact hn a List.mem_cons_self)]
      · rw [findP_miss h, findP_miss h, ih]
theorem cut_ne {k : Ky} {l : List Pr} : ∀ e ∈ cutP k l, e.k ≠ k := fun e he => by
  unfold cutP at he
  have := (List.mem_filter.1 he).2
  simpa using this
theorem cut_sub {k : Ky} {l : List Pr} : ∀ e ∈ cutP k l, e ∈ l := fun e he => (List.mem_filter.1 he).1
theorem findP_put (k g : Ky) (r : List Int) (l : List Pr) : findP g (putP k r l) = if g = k then some r else findP g l := by
  unfold putP
  rw [findP_ins (x := ⟨k, r⟩) cut_ne g, findP_cut]
  split <;> rfl
theorem ins_mem {x : Pr} {l : List Pr} : ∀ e, e ∈ insP x l ↔ e = x ∨ e ∈ l := by
  intro e
  induction l with
  | nil => simp [insP]
  | cons a l ih =>
    unfold insP
    split
    · simp
    · rw [List.mem_cons, ih, List.mem_cons]
      constructor
      · rintro (h | h | h) <;> simp [h]
      · rintro (h | h | h) <;> simp [h]
theorem srt_cut {k : Ky} {l : List Pr} (h : SrtP l) : SrtP (cutP k l) := List.Pairwise.sublist List.filter_sublist h
theorem srt_ins {x : Pr} {l : List Pr} (h : SrtP l) (hn : ∀ e ∈ l, e.k ≠ x.k) : SrtP (insP x l) := by
  induction l with
  | nil => exact List.pairwise_singleton _ _
  | cons a l ih =>
    obtain ⟨h1, h2⟩ := List.pairwise_cons.1 h
    unfold insP
    split
    · rename_i hlt
      refine List.pairwise_cons.2 ⟨fun e he => ?_, h⟩
      rcases List.mem_cons.1 he with rfl | he
      · exact hlt
      · exact ky_trans hlt (h1 e he)
    · rename_i hlt
      refine List.pairwise_cons.2 ⟨fun e he => ?_, ih h2 (fun e he => hn e (List.mem_cons_of_mem _ he))⟩
      rcases (ins_mem e).1 he with rfl | he
      · rcases ky_tri a.k e.k with h3 | h3 | h3
        · exact h3
        · exact absurd h3 (hn a List.mem_cons_self)
        · exact absurd h3 hlt
      · exact h1 e he
theorem srt_put {k : Ky} {r : List Int} {l : List Pr} (h : SrtP l) : SrtP (putP k r l) := srt_ins (srt_cut h) cut_ne
theorem used_app (a b : List Pr) : usedP (a ++ b) = usedP a + usedP b := by
  induction a with
  | nil => simp [usedP]
  | cons e a ih => simp only [List.cons_append, usedP, ih]; omega
theorem used_ins (x : Pr) (l : List Pr) : usedP (insP x l) = szP x + usedP l := by
  induction l with
  | nil => rfl
  | cons a l ih =>
    unfold insP
    split
    · rfl
    · simp only [usedP, ih]; omega
theorem len_ins (x : Pr) (l : List Pr) : (insP x l).length = l.length + 1 := by
  induction l with
  | nil => rfl
  | cons a l ih =>
    unfold insP
    split
    · rfl
    · simp only [List.length_cons, ih]
theorem cut_miss {k : Ky} {l : List Pr} (h : ∀ e ∈ l, e.k ≠ k) : cutP k l = l := by
  unfold cutP
  rw [List.filter_eq_self]
  intro e he
  simp [h e he]
theorem cut_facts {k : Ky} {l : List Pr} (hs : SrtP l) : usedP (cutP k l) + sizeAt k l = usedP l ∧ (cutP k l).length + (if (findP k l).isSome then 1 else 0) = l.length := by
  induction l with
  | nil => exact ⟨rfl, rfl⟩
  | cons a l ih =>
    obtain ⟨h1, h2⟩ := List.pairwise_cons.1 hs
    obtain ⟨i1, i2⟩ := ih h2
    by_cases h : a.k = k
    · have hm : ∀ e ∈ l, e.k ≠ k := fun e he e2 => ky_irr _ (by have := h1 e he; rw [h, e2] at this; exact this)
      have e : cutP k (a :: l) = l := by
        have : cutP k (a :: l) = cutP k l := by unfold cutP; rw [List.filter_cons_of_neg (by simp [h])]
        rw [this, cut_miss hm]
      unfold sizeAt
      rw [e, findP_hit h]
      refine ⟨?_, ?_⟩
      · simp only [usedP, szP, h]; omega
      · rw [Option.isSome_some, if_pos rfl, List.length_cons]
    · have e : cutP k (a :: l) = a :: cutP k l := by unfold cutP; rw [List.filter_cons_of_pos (by simp [h])]
      have e3 : sizeAt k (a :: l) = sizeAt k l := by unfold sizeAt; rw [findP_miss h]
      rw [e, findP_miss h, e3]
      refine ⟨?_, ?_⟩
      · simp only [usedP]; omega
      · rw [List.length_cons, List.length_cons, ← i2]; omega
theorem used_cut {k : Ky} {l : List Pr} (hs : SrtP l) : usedP (cutP k l) + sizeAt k l = usedP l := (cut_facts hs).1
theorem len_cut {k : Ky} {l : List Pr} (hs : SrtP l) : (cutP k l).length + (if (findP k l).isSome then 1 else 0) = l.length := (cut_facts hs).2
theorem used_put {k : Ky} {r : List Int} (l : List Pr) : usedP (putP k r l) = usedP (cutP k l) + k.length + r.length := by
  unfold putP
  rw [used_ins]
  simp only [szP]
  omega
theorem len_put {k : Ky} {r : List Int} {l : List Pr} (hs : SrtP l) : (putP k r l).length = if (findP k l).isSome then l.length else l.length + 1 := by
  unfold putP
  rw [len_ins]
  have := len_cut (k := k) hs
  split at this <;> simp_all <;> omega
/-- Keys of 1 to 64 bytes, rows of bytes. -/
def OkK (k : Ky) : Prop := 1 ≤ k.length ∧ k.length ≤ 64
instance (k : Ky) : Decidable (OkK k) := by unfold OkK; infer_instance
structure OkP (e : Pr) : Prop where
  k : OkK e.k
  b : fit e.b
theorem len_used {l : List Pr} (h : ∀ e ∈ l, OkP e) : l.length ≤ usedP l := by
  induction l with
  | nil => simp
  | cons a l ih =>
    have h1 := (h a List.mem_cons_self).k.1
    have h2 := ih (fun e he => h e (List.mem_cons_of_mem _ he))
    simp only [usedP, szP, List.length_cons]
    omega
theorem sz_used {l : List Pr} {e : Pr} (h : e ∈ l) : szP e ≤ usedP l := by
  induction l with
  | nil => cases h
  | cons a l ih =>
    rcases List.mem_cons.1 h with rfl | h
    · simp only [usedP]; omega
    · have := ih h; simp only [usedP]; omega
theorem ok_put {k : Ky} {r : List Int} {l : List Pr} (h : ∀ e ∈ l, OkP e) (hk : OkK k) (hr : fit r) : ∀ e ∈ putP k r l, OkP e := fun e he => by
  rcases (ins_mem e).1 he with rfl | he
  · exact ⟨hk, hr⟩
  · exact h e (cut_sub e he)
theorem ok_cut {k : Ky} {l : List Pr} (h : ∀ e ∈ l, OkP e) : ∀ e ∈ cutP k l, OkP e := fun e he => h e (cut_sub e he)
/-- Pairs in order are told by what is found. -/
theorem pr_ext {l m : List Pr} (hl : SrtP l) (hm : SrtP m) (h : ∀ k, findP k l = findP k m) : l = m := by
  induction l generalizing m with
  | nil =>
    cases m with
    | nil => rfl
    | cons b m =>
      have := h b.k
      rw [findP_nil, findP_hit rfl] at this
      cases this
  | cons a l ih =>
    cases m with
    | nil =>
      have := h a.k
      rw [findP_nil, findP_hit rfl] at this
      cases this
    | cons b m =>
      obtain ⟨h1, h2⟩ := List.pairwise_cons.1 hl
      obtain ⟨h3, h4⟩ := List.pairwise_cons.1 hm
      have ek : a.k = b.k := by
        rcases ky_tri a.k b.k with e | e | e
        · have := h a.k
          rw [findP_hit rfl, findP_miss (fun e2 => ky_irr _ (e2 ▸ e)), eq_comm] at this
          have hmem := findP_mem this
          exact absurd (ky_trans e (h3 _ hmem)) (ky_irr _)
        · exact e
        · have := h b.k
          rw [findP_hit (l := m) rfl, findP_miss (fun e2 => ky_irr _ (e2 ▸ e))] at this
          have hmem := findP_mem this
          exact absurd (ky_trans e (h1 _ hmem)) (ky_irr _)
      have eb : a.b = b.b := by
        have := h a.k
        rw [findP_hit rfl, findP_hit ek.symm] at this
        exact Option.some.inj this
      have e : a = b := by cases a; cases b; simp_all
      subst e
      rw [ih h2 h4 (fun k => ?_)]
      have := h k
      by_cases e : a.k = k
      · have n1 : findP k l = none := findP_none.2 (fun x hx e2 => ky_irr _ (by have := h1 x hx; rw [e, e2] at this; exact this))
        have n2 : findP k m = none := findP_none.2 (fun x hx e2 => ky_irr _ (by have := h3 x hx; rw [e, e2] at this; exact this))
        rw [n1, n2]
      · rwa [findP_miss e, findP_miss e] at this
/-- What Drop leaves. -/
def dropP : List Ky → List Pr → List Pr
  | [], l => l
  | k :: ks, l => dropP ks (cutP k l)
theorem dropP_app (a : List Ky) (k : Ky) (l : List Pr) : dropP (a ++ [k]) l = cutP k (dropP a l) := by
  induction a generalizing l with
  | nil => rfl
  | cons x a ih => simp only [List.cons_append, dropP]; exact ih _
theorem srt_drop {l : List Pr} (ks : List Ky) (h : SrtP l) : SrtP (dropP ks l) := by
  induction ks generalizing l with
  | nil => exact h
  | cons k ks ih => exact ih (srt_cut h)
theorem ok_drop {l : List Pr} (ks : List Ky) (h : ∀ e ∈ l, OkP e) : ∀ e ∈ dropP ks l, OkP e := by
  induction ks generalizing l with
  | nil => exact h
  | cons k ks ih => exact ih (ok_cut h)
theorem len_cut_le (k : Ky) (l : List Pr) : (cutP k l).length ≤ l.length := List.length_filter_le _ _
theorem used_cut_le (k : Ky) (l : List Pr) : usedP (cutP k l) ≤ usedP l := by
  induction l with
  | nil => exact Nat.le_refl _
  | cons a l ih =>
    by_cases h : a.k = k
    · have : cutP k (a :: l) = cutP k l := by unfold cutP; rw [List.filter_cons_of_neg (by simp [h])]
      rw [this]; simp only [usedP]; omega
    · have : cutP k (a :: l) = a :: cutP k l := by unfold cutP; rw [List.filter_cons_of_pos (by simp [h])]
      rw [this]; simp only [usedP]; omega
theorem len_drop_le (ks : List Ky) (l : List Pr) : (dropP ks l).length ≤ l.length := by
  induction ks generalizing l with
  | nil => exact Nat.le_refl _
  | cons k ks ih => exact Nat.le_trans (ih _) (len_cut_le k l)
theorem used_drop_le (ks : List Ky) (l : List Pr) : usedP (dropP ks l) ≤ usedP l := by
  induction ks generalizing l with
  | nil => exact Nat.le_refl _
  | cons k ks ih => exact Nat.le_trans (ih _) (used_cut_le k l)
/-- What Put answers (an error's number), and leaves. -/
def putN (size : Int) (k : Ky) (r : List Int) (l : List Pr) : Nat := if OkK k then (if size < (usedP (cutP k l) + k.length + r.length : Nat) then 5 else 0) else 9
def putL (size : Int) (k : Ky) (r : List Int) (l : List Pr) : List Pr := if putN size k r l = 0 then putP k r l else l
theorem putL_ok {size : Int} {k : Ky} {r : List Int} {l : List Pr} (h : ∀ e ∈ l, OkP e) (hr : fit r) : ∀ e ∈ putL size k r l, OkP e := by
  unfold putL putN
  by_cases hk : OkK k
  · rw [if_pos hk]
    split
    · exact h
    · exact ok_put h hk hr
  · rw [if_neg hk]; exact h
theorem putL_srt {size : Int} {k : Ky} {r : List Int} {l : List Pr} (h : SrtP l) : SrtP (putL size k r l) := by
  unfold putL
  split
  · exact srt_put h
  · exact h
theorem putL_used {size : Int} {k : Ky} {r : List Int} {l : List Pr} (h : (usedP l : Int) ≤ size) : (usedP (putL size k r l) : Int) ≤ size := by
  unfold putL putN
  by_cases hk : OkK k
  · rw [if_pos hk]
    by_cases h2 : size < (usedP (cutP k l) + k.length + r.length : Nat)
    · rw [if_pos h2]; exact h
    · rw [if_neg h2, if_pos rfl, used_put]; omega
  · rw [if_neg hk]; exact h
end Go.Proofs.Ytnhnpfhfcbmmlaa
namespace Go.Proofs.Ytnhnpfhfcbmmlaa
open Go Go.RowKit Go.Maps
set_option linter.unusedVariables false
set_option linter.unusedSimpArgs false

abbrev DV := DataW Value
abbrev tyM : TypeId := 153
abbrev tyK : TypeId := 9
abbrev tyB : TypeId := 26
def rdV : Value → Option (DV × List MemPlace)
  | .slice a n c => some (.held (.slice a n c), [])
  | _ => none
theorem lawK : Keyed Try.prog tyK := string_keyed Try.underlying9
theorem zeroM (w : World) : (zeroValue tyB).run Try.prog w = .ok (.slice none 0 0) w := by kernel_rfl
theorem zeroR : rdV (.slice none 0 0) = some (.held (.slice none 0 0), []) := rfl
abbrev kI (k : Ky) : Lit := .string k
theorem key_ok {k : Ky} (h : k.length ≤ maxLen) : keyOf Try.prog tyK (encStr k) = some (kI k) := by
  have : (⟨k.toArray⟩ : ByteArray).size ≤ maxLen := by simpa [ByteArray.size] using h
  simp [keyOf, Try.underlying9, mapKey, encStr, this]
theorem key_lit (k : Ky) : Go.WideAt.IsKeyLit (kI k) := trivial
theorem key_ne {k g : Ky} (h : g ≠ k) : kI g ≠ kI k := fun e => h (by injection e)
/-- A row of bytes of the call's own, in the blocks F. -/
def RowF (w : World) (F : Nat → Prop) (B : Nat) (v : Value) (r : List Int) : Prop := w.ownsRow B 5 1 v r.length (u8s r) ∧ fit r ∧ ∀ g, v.ownBlock = some g → F g
/-- Block k holds no row of bytes. -/
def NoRow (w : World) (k : Nat) : Prop := ∀ cs fr, w.heap[k]? ≠ some (.cells cs 5 fr)
theorem RowF.no {w : World} {F : Nat → Prop} {B k : Nat} {v : Value} {r : List Int} (h : RowF w F B v r) (hn : NoRow w k) : v.ownBlock ≠ some k := fun e => by
  rcases h.1.2 with ⟨rfl, _⟩ | ⟨g, cap, cur, rfl, _, hg, _⟩
  · cases e
  · have : g = k := by simpa [Value.ownBlock] using e
    subst this
    exact hn _ _ hg
theorem RowF.tch {T F : Nat → Prop} {w w' : World} {B : Nat} {v : Value} {r : List Int} (h : RowF w F B v r) (ht : Tch T w w') (hn : ∀ k, T k → F k → NoRow w k) : RowF w' F B v r :=
  ⟨ht.own h.1 (fun g hg hT => h.no (hn g hT (h.2.2 g hg)) hg), h.2⟩
theorem RowF.mono {F G : Nat → Prop} {w : World} {B : Nat} {v : Value} {r : List Int} (h : RowF w F B v r) (hG : ∀ k, F k → G k) : RowF w G B v r := ⟨h.1, h.2.1, fun g hg => hG g (h.2.2 g hg)⟩
theorem RowF.base {F : Nat → Prop} {w : World} {B B' : Nat} {v : Value} {r : List Int} (h : RowF w F B v r) (hb : B' ≤ B) : RowF w F B' v r := ⟨own_base h.1 hb, h.2⟩
/-- A map reads as pairs. -/
structure MR (w : World) (F : Nat → Prop) (B : Nat) (D : DV) (l : List Pr) : Prop where
  some_ : ∀ k r, findP k l = some r → Maps.has D (kI k) = true ∧ ∃ v, (∀ z, D.atKey (kI k) z = .held v) ∧ RowF w F B v r
  none_ : ∀ k, findP k l = none → Maps.has D (kI k) = false
  size : Maps.size D = l.length
theorem MR.nil {w : World} {F : Nat → Prop} {B : Nat} : MR w F B (.map []) [] := ⟨fun k r h => (by cases h), fun _ _ => rfl, rfl⟩
theorem MR.tch {T F : Nat → Prop} {w w' : World} {B : Nat} {D : DV} {l : List Pr} (h : MR w F B D l) (ht : Tch T w w') (hn : ∀ k, T k → F k → NoRow w k) : MR w' F B D l :=
  ⟨fun k r hk => by
    obtain ⟨h1, v, h2, h3⟩ := h.some_ k r hk
    exact ⟨h1, v, h2, h3.tch ht hn⟩, h.none_, h.size⟩
theorem MR.mono {F G : Nat → Prop} {w : World} {B : Nat} {D : DV} {l : List Pr} (h : MR w F B D l) (hG : ∀ k, F k → G k) : MR w G B D l :=
  ⟨fun k r hk => by
    obtain ⟨h1, v, h2, h3⟩ := h.some_ k r hk
    exact ⟨h1, v, h2, h3.mono hG⟩, h.none_, h.size⟩
theorem MR.base {F : Nat → Prop} {w : World} {B B' : Nat} {D : DV} {l : List Pr} (h : MR w F B D l) (hb : B' ≤ B) : MR w F B' D l :=
  ⟨fun k r hk => by
    obtain ⟨h1, v, h2, h3⟩ := h.some_ k r hk
    exact ⟨h1, v, h2, h3.base hb⟩, h.none_, h.size⟩
theorem MR.has {F : Nat → Prop} {w : World} {B : Nat} {D : DV} {l : List Pr} (h : MR w F B D l) (k : Ky) : Maps.has D (kI k) = (findP k l).isSome := by
  cases e : findP k l with
  | none => rw [h.none_ k e]; rfl
  | some r => rw [(h.some_ k r e).1]; rfl
theorem MR.cut {F : Nat → Prop} {w : World} {B : Nat} {D : DV} {l : List Pr} (h : MR w F B D l) (hs : SrtP l) (hT : Tidy D) (k : Ky) : MR w F B (D.del (kI k)) (cutP k l) := by
  refine ⟨fun g r hg => ?_, fun g hg => ?_, ?_⟩
  · rw [findP_cut] at hg
    by_cases e : g = k
    · rw [if_pos e] at hg; cases hg
    · rw [if_neg e] at hg
      obtain ⟨h1, v, h2, h3⟩ := h.some_ g r hg
      exact ⟨by rw [has_del_other (key_ne e)]; exact h1, v, fun z => by rw [atKey_del_other (key_ne e)]; exact h2 z, h3⟩
  · rw [findP_cut] at hg
    by_cases e : g = k
    · subst e; rw [has_del_same]
    · rw [if_neg e] at hg
      rw [has_del_other (key_ne e), h.none_ g hg]
  · have h1 := size_del (k := kI k) hT
    have h2 := len_cut (k := k) hs
    rw [h.has k] at h1
    have := h.size
    omega
theorem MR.put {F : Nat → Prop} {w : World} {B : Nat} {D : DV} {l : List Pr} (h : MR w F B D l) (hs : SrtP l) (hT : Tidy D) (k : Ky) {v : Value} {r : List Int} (hv : RowF w F B v r) : MR w F B (D.put (kI k) (.held v)) (putP k r l) := by
  have ik := key_lit k
  refine ⟨fun g q hg => ?_, fun g hg => ?_, ?_⟩
  · rw [findP_put] at hg
    by_cases e : g = k
    · subst e
      rw [if_pos rfl] at hg
      cases hg
      exact ⟨by rw [has_put_same hT.isMap ik], v, fun z => by rw [atKey_put_same hT.isMap ik], hv⟩
    · rw [if_neg e] at hg
      obtain ⟨h1, u, h2, h3⟩ := h.some_ g q hg
      exact ⟨by rw [has_put_other (key_ne e)]; exact h1, u, fun z => by rw [atKey_put_other (key_ne e)]; exact h2 z, h3⟩
  · rw [findP_put] at hg
    by_cases e : g = k
    · rw [if_pos e] at hg; cases hg
    · rw [if_neg e] at hg
      rw [has_put_other (key_ne e), h.none_ g hg]
  · rw [size_put hT, h.has, h.size, len_put hs]
theorem own_tight {P : Program} {k : TypeId} {R : Value → Option (DV × List MemPlace)} {w : World} {b n : Nat} {D : DV} (h : w.ownsMap P k R b n D) : w.ownsMap P k R b (Maps.size D) D := by
  obtain ⟨es, clock, hb, Ft, hs, rfl⟩ := h
  exact ⟨es, clock, hb, Ft, by simp [Maps.size, length_sorted], rfl⟩
/-- Block b is a map that reads as these pairs. -/
def MapS (w : World) (F : Nat → Prop) (B b : Nat) (l : List Pr) : Prop := F b ∧ ∃ D : DV, w.ownsMap Try.prog tyK rdV b l.length D ∧ MR w F B D l
theorem MapS.of {F : Nat → Prop} {w : World} {B b n : Nat} {D : DV} {l : List Pr} (hF : F b) (h : w.ownsMap Try.prog tyK rdV b n D) (hm : MR w F B D l) : MapS w F B b l := ⟨hF, D, by rw [← hm.size]; exact own_tight h, hm⟩
theorem own_block_m {w w' : World} {b n : Nat} {D : DV} (h : w.ownsMap Try.prog tyK rdV b n D) (hb : w'.heap[b]? = w.heap[b]?) : w'.ownsMap Try.prog tyK rdV b n D := by
  obtain ⟨es, clock, h1, h2⟩ := h
  exact ⟨es, clock, hb.trans h1, h2⟩
theorem MapS.lt {F : Nat → Prop} {w : World} {B b : Nat} {l : List Pr} (h : MapS w F B b l) : b < w.heap.size := by
  obtain ⟨_, D, hd, _⟩ := h
  exact hd.lt
theorem MapS.noRow {F : Nat → Prop} {w : World} {B b : Nat} {l : List Pr} (h : MapS w F B b l) : NoRow w b := fun cs fr e => by
  obtain ⟨_, D, ⟨es, clock, h1, _⟩, _⟩ := h
  rw [h1] at e
  cases e
theorem MapS.tch {T F : Nat → Prop} {w w' : World} {B b : Nat} {l : List Pr} (h : MapS w F B b l) (ht : Tch T w w') (hb : ¬ T b) (hn : ∀ k, T k → F k → NoRow w k) : MapS w' F B b l := by
  obtain ⟨hF, D, hd, hm⟩ := h
  exact ⟨hF, D, own_block_m hd (ht.block b hd.lt hb), hm.tch ht hn⟩
theorem MapS.mono {F G : Nat → Prop} {w : World} {B b : Nat} {l : List Pr} (h : MapS w F B b l) (hG : ∀ k, F k → G k) : MapS w G B b l := by
  obtain ⟨hF, D, hd, hm⟩ := h
  exact ⟨hG b hF, D, hd, hm.mono hG⟩
theorem MapS.base {F : Nat → Prop} {w : World} {B B' b : Nat} {l : List Pr} (h : MapS w F B b l) (hb : B' ≤ B) : MapS w F B' b l := by
  obtain ⟨hF, D, hd, hm⟩ := h
  exact ⟨hF, D, hd, hm.base hb⟩
theorem MapS.new {F : Nat → Prop} (w : World) (B : Nat) (hF : F w.heap.size) : MapS (w.alloc (.map #[] 0)) F B w.heap.size [] := ⟨hF, _, World.ownsMap_made w _ _ _, MR.nil⟩
/-- A map that may be nil. -/
def MapO (w : World) (F : Nat → Prop) (B : Nat) (c : Option Nat) (l : List Pr) : Prop := match c with
  | none => l = []
  | some b => MapS w F B b l
theorem MapO.tch {T F : Nat → Prop} {w w' : World} {B : Nat} {c : Option Nat} {l : List Pr} (h : MapO w F B c l) (ht : Tch T w w') (hb : ∀ b, c = some b → ¬ T b) (hn : ∀ k, T k → F k → NoRow w k) : MapO w' F B c l := by
  cases c with
  | none => exact h
  | some b => exact MapS.tch h ht (hb b rfl) hn
theorem MapO.mono {F G : Nat → Prop} {w : World} {B : Nat} {c : Option Nat} {l : List Pr} (h : MapO w F B c l) (hG : ∀ k, F k → G k) : MapO w G B c l := by
  cases c with
  | none => exact h
  | some b => exact MapS.mono h hG
theorem MapO.base {F : Nat → Prop} {w : World} {B B' : Nat} {c : Option Nat} {l : List Pr} (h : MapO w F B c l) (hb : B' ≤ B) : MapO w F B' c l := by
  cases c with
  | none => exact h
  | some b => exact MapS.base h hb
/-- What a look-up hands over: the row's value. -/
def LookV (w : World) (F : Nat → Prop) (B : Nat) (k : Ky) (l : List Pr) (v : Value) : Prop := match findP k l with
  | some r => RowF w F B v r
  | none => v = .slice none 0 0
theorem rd_val {v : Value} {d : DV} {ps : List MemPlace} (h : rdV v = some (d, ps)) : d = .held v ∧ ∃ a n c, v = .slice a n c := by
  cases v <;> simp [rdV] at h
  exact ⟨h.1.symm, _, _, _, rfl⟩
theorem MR.at {F : Nat → Prop} {w : World} {B : Nat} {D : DV} {l : List Pr} (hm : MR w F B D l) {k : Ky} {v : Value} {ps : List MemPlace} (h : rdV v = some (D.atKey (kI k) (.held (.slice none 0 0)), ps)) : LookV w F B k l v := by
  have h1 := (rd_val h).1
  unfold LookV
  cases e : findP k l with
  | none =>
    rw [atKey_of_not_has (hm.none_ k e)] at h1
    simp only [DataW.held.injEq] at h1
    exact h1.symm
  | some r =>
    obtain ⟨_, u, h2, h3⟩ := hm.some_ k r e
    rw [h2] at h1
    simp only [DataW.held.injEq] at h1
    rw [← h1]
    exact h3
theorem MapO.look {F : Nat → Prop} {w : World} {B : Nat} {c : Option Nat} {l : List Pr} (h : MapO w F B c l) {k : Ky} (hk : k.length ≤ maxLen) : ∃ v, (∀ W : World, (∀ b, c = some b → W.heap[b]? = w.heap[b]?) → (Instr.lookup tyM (.map c) (encStr k) true).run Try.prog W = .ok (.tuple #[v, .bool (findP k l).isSome]) W) ∧ LookV w F B k l v := by
  cases c with
  | none =>
    have hl : l = [] := h
    subst hl
    exact ⟨.slice none 0 0, fun W _ => Maps.look_nil true lawK Try.underlying153 (zeroM W) (key_ok hk), rfl⟩
  | some b =>
    obtain ⟨_, D, hd, hm⟩ := h
    obtain ⟨v, ps, hr, hv⟩ := hd.look_ok (t := tyM) lawK Try.underlying153 (zeroM w) zeroR (key_ok hk)
    refine ⟨v, fun W hW => ?_, hm.at hv⟩
    have hdW := own_block_m hd (hW b rfl)
    obtain ⟨v2, ps2, hr2, hv2⟩ := hdW.look_ok (t := tyM) lawK Try.underlying153 (zeroM W) zeroR (key_ok hk)
    rw [hr2, hm.has k]
    have e1 := (rd_val hv).1
    have e2 := (rd_val hv2).1
    have e3 := e1.symm.trans e2
    simp only [DataW.held.injEq] at e3
    rw [e3]
theorem MapO.len {F : Nat → Prop} {w : World} {B : Nat} {c : Option Nat} {l : List Pr} (h : MapO w F B c l) (ty : TypeId) : ∀ W : World, (∀ b, c = some b → W.heap[b]? = w.heap[b]?) → (Builtin.len_ #[tyM] ty #[.map c]).run Try.prog W = .ok (.int .i64 (l.length : Nat)) W := by
  intro W hW
  cases c with
  | none =>
    have hl : l = [] := h
    subst hl
    exact Maps.len_nil Try.underlying153 ty
  | some b =>
    obtain ⟨_, D, hd, hm⟩ := h
    rw [(own_block_m hd (hW b rfl)).len (t := tyM) Try.underlying153 ty, hm.size]
theorem tch_turned {w w' : World} {b : Nat} (h : w.mapTurned w' b) : Tch (· = b) w w' := by
  have := tch_grown h.grown
  exact this.mono (fun k hk => by simpa using hk)
theorem size_turned {w w' : World} {b : Nat} (h : w.mapTurned w' b) : w'.heap.size = w.heap.size := by
  obtain ⟨es, clock, es', clock', hb, rfl⟩ := h
  simp [Go.ChangeMaps.setBlock]
theorem MapS.store {F : Nat → Prop} {w : World} {B b : Nat} {l : List Pr} (h : MapS w F B b l) (hs : SrtP l) (hn : l.length ≤ 67108864) {k : Ky} (hk : k.length ≤ maxLen) {a : Option Addr} {n c : Nat} {r : List Int} (hv : RowF w F B (.slice a n c) r) :
    ∃ w', (Instr.mapUpdate tyM (.map (some b)) (encStr k) (.slice a n c)).run Try.prog w = .ok () w' ∧ MapS w' F B b (putP k r l) ∧ Tch (· = b) w w' ∧ w'.heap.size = w.heap.size := by
  have hnr := h.noRow
  obtain ⟨hF, D, hown, hmr⟩ := h
  obtain ⟨w', hr, h1, h2⟩ := hown.store (t := tyM) lawK Try.underlying153 (by unfold maxLen; omega) (key_ok hk) (show rdV (.slice a n c) = some (.held (.slice a n c), []) from rfl)
  have ht := tch_turned h2
  refine ⟨w', hr, MapS.of hF h1 ?_, ht, size_turned h2⟩
  exact (hmr.put hs (hown.tidy lawK) k hv).tch ht (fun j hj _ => by subst hj; exact hnr)
theorem MapO.drop {F : Nat → Prop} {w : World} {B : Nat} {c : Option Nat} {l : List Pr} (h : MapO w F B c l) (hs : SrtP l) {k : Ky} (hk : k.length ≤ maxLen) (ty : TypeId) :
    ∃ w', (Builtin.delete_ #[tyM, tyK] ty #[.map c, encStr k]).run Try.prog w = .ok (.tuple #[]) w' ∧ MapO w' F B c (cutP k l) ∧ Tch (fun j => c = some j) w w' ∧ w'.heap.size = w.heap.size := by
  cases c with
  | none =>
    have hl : l = [] := h
    subst hl
    exact ⟨w, Maps.drop_nil lawK Try.underlying153 (key_ok hk) ty, rfl, Tch.refl _ _, rfl⟩
  | some b =>
    have hnr := MapS.noRow h
    obtain ⟨hF, D, hown, hmr⟩ := h
    obtain ⟨w', hr, h1, h2⟩ := hown.drop (t := tyM) lawK Try.underlying153 (key_ok hk) ty
    have ht := tch_turned h2
    refine ⟨w', hr, MapS.of hF h1 ?_, ht.mono (fun j hj => by rw [hj]), size_turned h2⟩
    exact (hmr.cut hs (hown.tidy lawK) k).tch ht (fun j hj _ => by subst hj; exact hnr)
/-- The keys of the map. -/
theorem MR.keys {F : Nat → Prop} {w : World} {B b n : Nat} {D : DV} {l : List Pr} (hm : MR w F B D l) (hd : w.ownsMap Try.prog tyK rdV b n D) (hs : SrtP l) : (strKeys D).mergeSort leB = l.map (·.k) := by
  have hsort : (l.map (·.k)).Pairwise (fun a b => leB a b = true) := by
    rw [List.pairwise_map]
    refine List.Pairwise.imp ?_ (show l.Pairwise (fun a b => a.k < b.k) from hs)
    intro a b h
    exact decide_eq_true (List.le_of_lt h)
  have hnd : (l.map (·.k)).Nodup := by
    rw [List.nodup_iff_pairwise_ne, List.pairwise_map]
    refine List.Pairwise.imp ?_ (show l.Pairwise (fun a b => a.k < b.k) from hs)
    intro a b h e
    exact ky_irr b.k (by rw [e] at h; exact h)
  obtain ⟨es, rfl, hap, hke⟩ := hd.entries lawK
  obtain ⟨es2, e2, hk2⟩ := hd.keysOf
  cases e2
  have hp : (l.map (·.k)).Perm (strKeys (.map es)) := by
    refine perm_strKeys hap (fun p hp => ?_) hnd (fun x => ?_)
    · obtain ⟨key, hkey⟩ := hk2 p hp
      obtain ⟨x, _, h1, _⟩ := Maps.keyOf_str Try.underlying9 hkey
      exact ⟨x, h1⟩
    · rw [hm.has x]
      constructor
      · intro h
        obtain ⟨e, he, rfl⟩ := List.mem_map.1 h
        rw [findP_of_mem hs he]; rfl
      · intro h
        obtain ⟨r, hr⟩ := Option.isSome_iff_exists.1 h
        exact List.mem_map.2 ⟨_, findP_mem hr, rfl⟩
  rw [← mergeSort_of_perm hp]
  exact List.mergeSort_of_pairwise hsort
end Go.Proofs.Ytnhnpfhfcbmmlaa
namespace Go.Proofs.Ytnhnpfhfcbmmlaa
open Go Go.RowKit
set_option linter.unusedVariables false
set_option linter.unusedSimpArgs false

/-- Values of rows that came in. -/
def Ris (w : World) : List Value → List (List Int) → Prop
  | [], [] => True
  | v :: vs, p :: ps => (∃ a n c, v = .slice a n c ∧ In w a n c p) ∧ Ris w vs ps
  | _, _ => False
theorem Ris.len {w : World} : ∀ {vs : List Value} {ps : List (List Int)}, Ris w vs ps → vs.length = ps.length
  | [], [], _ => rfl
  | _ :: vs, _ :: ps, h => by rw [List.length_cons, List.length_cons, Ris.len h.2]
  | [], _ :: _, h => h.elim
  | _ :: _, [], h => h.elim
theorem Ris.at {w : World} : ∀ {vs : List Value} {ps : List (List Int)}, Ris w vs ps → ∀ {j : Nat}, j < ps.length → ∃ a n c, vs.getD j undef = .slice a n c ∧ In w a n c (ps.getD j [])
  | [], [], _, j, hj => by simp at hj
  | _ :: vs, _ :: ps, h, 0, _ => h.1
  | _ :: vs, _ :: ps, h, j + 1, hj => Ris.at h.2 (j := j) (by simpa using hj)
  | [], _ :: _, h, _, _ => h.elim
  | _ :: _, [], h, _, _ => h.elim
theorem Ris.below {w w' : World} : ∀ {vs : List Value} {ps : List (List Int)}, Ris w vs ps → Below w.heap.size w w' → Ris w' vs ps
  | [], [], _, _ => trivial
  | _ :: vs, _ :: ps, h, hb => ⟨by obtain ⟨a, n, c, e, hi⟩ := h.1; exact ⟨a, n, c, e, hi.below hb⟩, Ris.below h.2 hb⟩
  | [], _ :: _, h, _ => h.elim
  | _ :: _, [], h, _ => h.elim
theorem Ris.fits {w : World} : ∀ {vs : List Value} {ps : List (List Int)}, Ris w vs ps → ∀ p ∈ ps, fit p
  | [], [], _, p, hp => by cases hp
  | _ :: vs, _ :: ps, h, p, hp => (List.mem_cons.1 hp).elim (fun e => by subst e; obtain ⟨a, n, c, _, hi⟩ := h.1; exact hi.fit) (fun hp => Ris.fits h.2 p hp)
  | [], _ :: _, h, _, _ => h.elim
  | _ :: _, [], h, _, _ => h.elim
/-- A row of rows, in block b. -/
structure RsIn (w : World) (b n : Nat) (us : List Value) (ps : List (List Int)) : Prop where
  len : ps.length = n
  here : ∀ j, j < n → w.cell? ⟨b, j, none⟩ = some (us.getD j undef)
  rows : Ris w us ps
theorem RsIn.below {w w' : World} {b n : Nat} {us : List Value} {ps : List (List Int)} (h : RsIn w b n us ps) (hb : Below w.heap.size w w') : RsIn w' b n us ps :=
  ⟨h.len, fun j hj => cell_later hb (h.here j hj), h.rows.below hb⟩
theorem RsIn.fit {w : World} {b n : Nat} {us : List Value} {ps : List (List Int)} (h : RsIn w b n us ps) : fit ps.flatten := fun x hx => by
  obtain ⟨p, hp, hx⟩ := List.mem_flatten.1 hx
  exact h.rows.fits p hp x hx
theorem len_at {ps : List (List Int)} {j : Nat} (hj : j < ps.length) : (ps.take (j + 1)).flatten = (ps.take j).flatten ++ ps.getD j [] ∧ (ps.take j).flatten.length + (ps.getD j []).length ≤ ps.flatten.length := by
  have h : ps[j]? = some (ps.getD j []) := by rw [List.getD_eq_getElem?_getD, List.getElem?_eq_getElem hj]; rfl
  exact ⟨(len_pre h).2, (len_pre h).1⟩
set_option maxRecDepth 100000 in
theorem grow_c (n : Nat) (w : World) (hn : n ≤ 268435456) :
    Calls Try.prog 112 #[.slice none 0 0, .int .i64 n] w fun e w' => ∃ v', e = .returned v' ∧ w'.ownsRow w.heap.size 5 1 v' 0 [] ∧ Below w.heap.size w w' := by
  obtain ⟨i0, hi0, hz0, hz1, hz2⟩ := info_parts info5
  by_cases h0 : n = 0
  · subst h0
    go_enter Try.func112, Try.ntmps112
    go_wp2
    go_ret
    exact ⟨_, rfl, ⟨rfl, .inl ⟨rfl, rfl⟩⟩, Below.refl _ _⟩
  · have h1 : ¬ ((n : Int) < 0) := by omega
    have h2 : (0 : Int) < (n : Int) := by omega
    have hrz : ∀ ty, (Builtin.append_ #[26, 3] ty #[.slice none 0 0, .int .i64 (n : Int)]).run Try.prog w = .ok (.slice (some ⟨w.heap.size, 0, none⟩) n (grownCap w n 0 5)) (w.drew.alloc (.cells (Builtin.zeroCells (.int .u8 0 : Value).cells n ++ Builtin.zeroCells (.int .u8 0 : Value).cells (grownCap w n 0 5 - n)) 5)) := fun ty =>
      Lib.run_append_nil_zeros w 26 3 ty 5 i0 _ .i64 .i64 Try.underlying26 Try.underlying3 hi0 hz0 n (by omega) (by rw [hz1]; decide) (by omega) (by rw [hz2]; omega)
    have hG := grownCap_le_maxLen w n 0 5 (by unfold maxLen; omega)
    have hG2 := grownCap_ge w n 0 5
    obtain ⟨G, eG⟩ : ∃ G, G = grownCap w n 0 5 := ⟨_, rfl⟩
    rw [← eG] at hrz hG hG2
    clear eG
    obtain ⟨O, hO⟩ : ∃ O, O = (Obj.cells (Builtin.zeroCells (.int .u8 0 : Value).cells n ++ Builtin.zeroCells (.int .u8 0 : Value).cells (G - n)) 5) := ⟨_, rfl⟩
    rw [← hO] at hrz
    have HOwn : Hid ((w.drew.alloc O).ownsRow w.heap.size 5 1 (.slice (some ⟨w.heap.size, 0, none⟩) 0 G) 0 []) := Lib.hid (by
      rw [hO]
      refine ⟨rfl, .inr ⟨w.heap.size, G, _, rfl, Nat.le_refl _, heap_alloc_new w.drew _, Nat.zero_le _, hG, ?_, by simp⟩⟩
      simp only [Array.size_append, size_zeroCells]
      change n * 1 + (G - n) * 1 = G * 1
      omega)
    have HG := Lib.hid (And.intro hG hG2)
    have g1 : G ≤ 9223372036854775807 := by unfold maxLen at hG; omega
    clear hO hG
    go_enter Try.func112, Try.ntmps112
    go_wp2_with (at_builtin; refine Lib.wpList_append_run _ rfl _ _ _ _ rfl _ _ rfl rfl _ _ (hrz _) ?_)
    go_ret
    exact ⟨_, rfl, HOwn.out, bl_al (Below.refl _ _).drew _⟩
theorem own_blkC {w : World} {B e n : Nat} {v : Value} {xs : List Value} (h : w.ownsRow B e 1 v n xs) {g : Nat} (hg : v.ownBlock = some g) : B ≤ g := (h.lt g hg).1
set_option maxRecDepth 100000 in
set_option maxHeartbeats 2000000 in
/-- The parts, one behind the other. -/
theorem concat_c (b n : Nat) (us : List Value) (ps : List (List Int)) (w : World) (h : RsIn w b n us ps) (hn : n ≤ 1048576) (hs : ps.flatten.length ≤ 268435456) :
    Calls Try.prog 82 #[.slice (some ⟨b, 0, none⟩) n n] w fun e w' => (∃ ao c, e = .returned (.slice ao ps.flatten.length c) ∧ w'.ownsRow w.heap.size 5 1 (.slice ao ps.flatten.length c) ps.flatten.length (u8s ps.flatten)) ∧ Below w.heap.size w w' := by
  obtain ⟨i0, hi0, hz0, hz1, hz2⟩ := info_parts info5
  have H := Lib.hid h
  obtain ⟨S, hS⟩ : ∃ S, S = ps.flatten.length := ⟨_, rfl⟩
  have HS := Lib.hid hS
  rw [← hS] at hs ⊢
  have CG := Lib.hid (grow_c S w (by omega))
  clear h hS
  go_enter Try.func82, Try.ntmps82
  go_wp2
  go_loop [3, 5, 11] (fun s _ i => ∃ j t : Nat, j ≤ n ∧ i = .int .i64 j ∧ s = .int .i64 t ∧ Hid (t = (ps.take j).flatten.length)) (fun _ _ i => n - (intOf i).toNat)
  case atStart => exact ⟨0, 0, by omega, rfl, rfl, Lib.hid rfl⟩
  case round =>
    obtain ⟨j, t, hj, rfl, rfl, HT⟩ := hrel
    by_cases hlj : j < n
    · have hjp : j < ps.length := by rw [H.out.len]; exact hlj
      have hc := H.out.here j hlj
      obtain ⟨aj, nj, cj, hej, hin⟩ := H.out.rows.at hjp
      rw [hej] at hc
      have hla := len_at hjp
      have hlen := hin.len
      have hT := HT.out
      have hb : t + nj ≤ 268435456 := by rw [hT, ← hlen]; have := HS.out; omega
      have HT2 : Hid (t + nj = (ps.take (j + 1)).flatten.length) := Lib.hid (by rw [hla.1, List.length_append, hlen, hT])
      have q1 : ¬ ((t : Int) + (nj : Int) < 0) := by omega
      clear hla hej hin hlen hjp hT
      go_wp2
      go_round
      case rel => exact ⟨j + 1, t + nj, by omega, by go_num, by go_num, HT2⟩
      case measure => simp [intOf]; omega
    · have hjn : j = n := by omega
      have hts : t = S := by rw [HT.out, HS.out, hjn, List.take_of_length_le (by rw [H.out.len]; exact Nat.le_refl _)]
      subst hjn
      subst hts
      go_wp2_with fail
      refine CG.out.mono ?_
      rintro e w1 ⟨v1, rfl, ho1, hb1⟩
      have HB1 := Lib.hid hb1
      have HO1 := Lib.hid ho1
      clear hb1 ho1 CG
      go_wp2
      go_loopw [6, 8, 27] (fun v _ i wr => ∃ (k t2 : Nat), k ≤ j ∧ i = .int .i64 k ∧ Hid (t2 = (ps.take k).flatten.length) ∧ Hid (wr.ownsRow w.heap.size 5 1 v t2 (u8s (ps.take k).flatten)) ∧ Hid (Below w.heap.size w wr)) (fun _ _ i _ => j - (intOf i).toNat)
      case atStart => exact ⟨0, 0, by omega, rfl, Lib.hid rfl, HO1, HB1⟩
      case round =>
        obtain ⟨k, t2, hk, rfl, HT2, HO, HB⟩ := hrel
        by_cases hlk : k < j
        · have hkp : k < ps.length := by rw [H.out.len]; exact hlk
          have hH := H.out.below HB.out
          have hc := hH.here k hlk
          obtain ⟨ak, nk, ck, hek, hin⟩ := hH.rows.at hkp
          rw [hek] at hc
          have hla := len_at hkp
          have hlen := hin.len
          have hT := HT2.out
          have hb : t2 + nk ≤ 268435456 := by rw [hT, ← hlen]; have := HS.out; omega
          have HT3 : Hid (t2 + nk = (ps.take (k + 1)).flatten.length) := Lib.hid (by rw [hla.1, List.length_append, hlen, hT])
          have HLA := Lib.hid hla.1
          have HIN := Lib.hid hin
          have HSZ := Lib.hid HB.out.size
          have hkj : k < j := hlk
          clear hla hek hin hlen hkp hT hH
          go_wp2_with (at_builtin; refine append_any rfl _ _ 26 rfl w.heap.size 5 i0 (.int .u8 0) 1 1 Try.underlying26 hi0 hz0 hz1 hz2 rfl (by decide) _ t2 _ rfl HO.out ak nk ck (u8s (ps.getD k [])) rfl HIN.out.zero ?c1 HIN.out.cells (u8s_one _) ?c2 ?c3 ?c4 ?_)
          case c1 => unfold u8s; rw [List.length_map, HIN.out.len]; omega
          case c2 => unfold maxLen; omega
          case c3 => omega
          case c4 => exact HSZ.out
          intro v2 w2 ho2 hg2
          have HB2 := Lib.hid (HB.out.grown hg2 HB.out.size (fun k hk => own_blkC HO.out hk))
          have HO2 : Hid (w2.ownsRow w.heap.size 5 1 v2 (t2 + nk) (u8s (ps.take (k + 1)).flatten)) := Lib.hid (by rw [HLA.out, ← u8s_app]; exact ho2)
          clear ho2 hg2 HO HB HSZ HIN HLA HT2 hc
          go_wp2
          go_roundw
          case rel => exact ⟨k + 1, t2 + nk, by omega, by go_num, HT3, HO2, HB2⟩
          case measure => simp [intOf]; omega
        · have hkj : k = j := by omega
          subst hkj
          have HTT : Hid (t2 = t) := Lib.hid (by rw [HT2.out, HT.out])
          have HTK : Hid (ps.take k = ps) := Lib.hid (List.take_of_length_le (by rw [H.out.len]; exact Nat.le_refl _))
          have HOF : Hid (wr.ownsRow w.heap.size 5 1 _ t (u8s ps.flatten)) := Lib.hid (by have := HO.out; rw [HTK.out, HTT.out] at this; exact this)
          obtain ⟨ao, c, rfl⟩ := own_form HOF.out
          go_wp2
          go_ret
          exact ⟨⟨ao, c, rfl, HOF.out⟩, HB.out⟩
set_option maxRecDepth 100000 in
theorem equal_c (l m : List Int) (a b : Option Addr) (n k c d : Nat) (w : World) (hA : At w (.slice a n c) l) (hB : At w (.slice b k d) m) (hn : l.length = n) (hk : m.length = k) (hl : fit l) (hm : fit m) :
    Calls Try.prog 72 #[.slice a n c, .slice b k d] w fun e w' => e = .returned (.bool (decide (l = m))) ∧ w = w' := by
  have s1 := str_of hA hn
  have s2 := str_of hB hk
  have q : ((strOfNums l).toList == (strOfNums m).toList) = decide (l = m) := str_eq hl hm
  obtain ⟨s, hs⟩ : ∃ s, s = strOfNums l := ⟨_, rfl⟩
  obtain ⟨t, ht⟩ : ∃ t, t = strOfNums m := ⟨_, rfl⟩
  rw [← hs] at s1 q
  rw [← ht] at s2 q
  obtain ⟨z, hz⟩ : ∃ z, z = decide (l = m) := ⟨_, rfl⟩
  rw [← hz] at q
  rw [← hz]
  clear hA hB hn hk hl hm hs ht hz
  go_enter Try.func72, Try.ntmps72
  go_wp2
  go_ret
  exact ⟨by rw [← q]; rfl, rfl⟩
/-- A copy of a row, in new memory. -/
def GotR (w : World) (l : List Int) (e : Ending) (w' : World) : Prop := (∃ ao c, e = .returned (.slice ao l.length c) ∧ w'.ownsRow w.heap.size 5 1 (.slice ao l.length c) l.length (u8s l)) ∧ Below w.heap.size w w'
set_option maxRecDepth 100000 in
theorem bclone_c (l : List Int) (a : Option Addr) (n cap : Nat) (w : World) (hA : In w a n cap l) (hn : n ≤ 268435456) :
    Calls Try.prog 128 #[.slice a n cap] w (GotR w l) := by
  cases a with
  | none =>
    obtain ⟨rfl, rfl⟩ := hA.zero rfl
    have hl : l = [] := List.eq_nil_of_length_eq_zero hA.len
    subst hl
    have hnil : ∀ w : World, (binOp .eql 26 (.slice none 0 0) (.slice none 0 0)).run Try.prog w = .ok (.bool true) w := fun w => by
      simp only [binOp]
      simp [Op.equal, Op.maxDepth, Lib.run_equalIn_slice_nil w 9999 26 5 none 0 0 0 0 Try.underlying26]
    go_enter Try.func128, Try.ntmps128
    go_wp2
    go_ret
    exact ⟨⟨none, 0, rfl, ⟨rfl, .inl ⟨rfl, rfl⟩⟩⟩, Below.refl _ _⟩
  | some ad =>
  obtain ⟨i0, hi0, hz0, hz1, hz2⟩ := info_parts info5
  have HA := Lib.hid hA
  have hln := hA.len
  subst hln
  clear hA
  have hnil : ∀ w : World, (binOp .eql 26 (.slice (some ad) l.length cap) (.slice none 0 0)).run Try.prog w = .ok (.bool false) w := fun w => by
    simp only [binOp]
    simp [Op.equal, Op.maxDepth, Lib.run_equalIn_slice_nil w 9999 26 5 (some ad) l.length cap 0 0 Try.underlying26]
  go_enter Try.func128, Try.ntmps128
  have own0 := World.ownsRow_made (e := 5) (size := 1) w #[] 0 (Nat.le_refl _) (by decide) rfl
  have HA1 := Lib.hid (HA.out.below (bl_al (Below.refl _ _) (.cells #[] 5)))
  go_wp2_with (at_builtin; refine append_any rfl (.tmp 5) (.tmp 6) 26 rfl w.heap.size 5 i0 (.int .u8 0) 1 1 Try.underlying26 hi0 hz0 hz1 hz2 rfl (by decide) _ 0 [] rfl own0 (some ad) l.length cap (u8s l) rfl HA1.out.zero ?c1 HA1.out.cells (u8s_one l) ?c2 ?c3 ?c4 ?_)
  case c1 => unfold u8s; rw [List.length_map]; omega
  case c2 => unfold maxLen; omega
  case c3 => omega
  case c4 => simp
  intro v1 w2 hown hgrow
  have HB2 := Lib.hid ((bl_al (Below.refl w.heap.size w) (.cells #[] 5)).grown hgrow (by simp) (fun k hk => by cases hk; exact Nat.le_refl _))
  obtain ⟨ao, c1, rfl⟩ := own_form hown
  have HO := Lib.hid hown
  clear hgrow own0 HA1 hown
  go_wp2
  go_ret
  exact ⟨⟨ao, c1, rfl, HO.out⟩, HB2.out⟩
end Go.Proofs.Ytnhnpfhfcbmmlaa
namespace Go.Proofs.Ytnhnpfhfcbmmlaa
open Go Go.RowKit Go.Maps
set_option linter.unusedVariables false
set_option linter.unusedSimpArgs false

theorem put_row {w : World} {g i : Nat} {cs : Array Value} {t : TypeId} (h : w.heap[g]? = some (.cells cs t (0, 0))) (v : Value) : (w.setCell ⟨g, i, none⟩ v).heap[g]? = some (.cells (cs.setIfInBounds i v) t (0, 0)) := heap_setCell_same w g i cs t v h
abbrev tyS : TypeId := 155
abbrev cOf (c : Option Nat) : Value := .map c
abbrev stO (size : Int) (c1 c2 : Option Nat) (n : Nat) : Obj := .cells #[.int .i64 size, cOf c1, cOf c2, .int .i64 (n : Int)] tyS
def SAt (w : World) (p : Nat) (size : Int) (c1 c2 : Option Nat) (n : Nat) : Prop := w.heap[p]? = some (stO size c1 c2 n)
section
variable {w w' : World} {p : Nat} {size : Int} {c1 c2 : Option Nat} {n : Nat}
theorem SAt.cs (h : SAt w p size c1 c2 n) : w.cell? ⟨p, 0, none⟩ = some (.int .i64 size) ∧ w.cell? ⟨p, 1, none⟩ = some (.map c1) ∧ w.cell? ⟨p, 2, none⟩ = some (.map c2) ∧ w.cell? ⟨p, 3, none⟩ = some (.int .i64 (n : Int)) := by
  have h2 : w.heap[p]? = some (.cells #[.int .i64 size, .map c1, .map c2, .int .i64 (n : Int)] tyS (0, 0)) := h
  refine ⟨?_, ?_, ?_, ?_⟩ <;> (rw [cell_of_row w p _ _ _ _ h2]; rfl)
theorem SAt.free (h : SAt w p size c1 c2 n) (o : Nat) : w.frozen? ⟨p, o, none⟩ = false := frozen_of_row w p o _ _ h
theorem SAt.tch {T : Nat → Prop} (h : SAt w p size c1 c2 n) (ht : Tch T w w') (hn : ¬ T p) : SAt w' p size c1 c2 n := ht.at h hn
theorem SAt.lt (h : SAt w p size c1 c2 n) : p < w.heap.size := lt_of_block h
theorem SAt.noRow (h : SAt w p size c1 c2 n) : NoRow w p := fun cs fr e => by
  unfold SAt at h
  rw [h] at e
  simp only [Option.some.injEq, Obj.cells.injEq] at e
  exact absurd e.2.1 (by decide)
theorem SAt.noMap (h : SAt w p size c1 c2 n) {F : Nat → Prop} {B b : Nat} {l : List Pr} (hm : MapS w F B b l) : b ≠ p := fun e => by
  obtain ⟨_, D, ⟨es, clock, h1, _⟩, _⟩ := hm
  unfold SAt at h
  rw [e, h] at h1
  cases h1
theorem SAt.set1 (h : SAt w p size c1 c2 n) (c : Option Nat) : SAt (w.setCell ⟨p, 1, none⟩ (.map c)) p size c c2 n := by
  have h2 : w.heap[p]? = some (.cells #[.int .i64 size, .map c1, .map c2, .int .i64 (n : Int)] tyS (0, 0)) := h
  have := put_row (i := 1) h2 (.map c)
  unfold SAt
  simpa using this
theorem SAt.set2 (h : SAt w p size c1 c2 n) (c : Option Nat) : SAt (w.setCell ⟨p, 2, none⟩ (.map c)) p size c1 c n := by
  have h2 : w.heap[p]? = some (.cells #[.int .i64 size, .map c1, .map c2, .int .i64 (n : Int)] tyS (0, 0)) := h
  have := put_row (i := 2) h2 (.map c)
  unfold SAt
  simpa using this
theorem SAt.set3 (h : SAt w p size c1 c2 n) (m : Nat) : SAt (w.setCell ⟨p, 3, none⟩ (.int .i64 (m : Int))) p size c1 c2 m := by
  have h2 : w.heap[p]? = some (.cells #[.int .i64 size, .map c1, .map c2, .int .i64 (n : Int)] tyS (0, 0)) := h
  have := put_row (i := 3) h2 (.int .i64 (m : Int))
  unfold SAt
  simpa using this
end
/-- A store whose maps are these, with the used number k. -/
structure StK (w : World) (B : Nat) (F : Nat → Prop) (p : Nat) (size : Int) (k : Nat) (c1 c2 : Option Nat) (l m : List Pr) : Prop where
  srt : SrtP l ∧ SrtP m
  ok : (∀ e ∈ l, OkP e) ∧ (∀ e ∈ m, OkP e)
  sz : 0 ≤ size ∧ size ≤ 67108864
  used : (usedP l : Int) ≤ size ∧ (usedP m : Int) ≤ size
  here : F p
  blocks : ∀ k, F k → B ≤ k ∧ k < w.heap.size
  cells : SAt w p size c1 c2 k
  cur : MapO w F B c1 l
  syn : MapO w F B c2 m
  nils : c1 = none ↔ c2 = none
  none_ : c1 = none → size = 0
  apart : ∀ b, c1 = some b → c2 ≠ some b
/-- A store of the program's. -/
def St (w : World) (B : Nat) (F : Nat → Prop) (p : Nat) (size : Int) (l m : List Pr) : Prop := ∃ c1 c2, StK w B F p size (usedP l) c1 c2 l m
section
variable {w w' : World} {B : Nat} {F : Nat → Prop} {p : Nat} {size : Int} {k : Nat} {c1 c2 : Option Nat} {l m : List Pr}
theorem StK.lens (h : StK w B F p size k c1 c2 l m) : l.length ≤ 67108864 ∧ m.length ≤ 67108864 ∧ usedP l ≤ 67108864 ∧ usedP m ≤ 67108864 := by
  have h1 := len_used h.ok.1
  have h2 := len_used h.ok.2
  have h3 := h.used
  have h4 := h.sz
  omega
theorem StK.row (h : StK w B F p size k c1 c2 l m) {k r} (hf : findP k l = some r) : k.length + r.length ≤ 67108864 := by
  have h1 := sz_used (findP_mem hf)
  have h2 := h.lens.2.2.1
  simp only [szP] at h1
  omega
theorem StK.row2 (h : StK w B F p size k c1 c2 l m) {k r} (hf : findP k m = some r) : k.length + r.length ≤ 67108864 := by
  have h1 := sz_used (findP_mem hf)
  have h2 := h.lens.2.2.2
  simp only [szP] at h1
  omega
/-- Which blocks of a store hold no row: its own, its maps'. -/
theorem StK.no1 (h : StK w B F p size k c1 c2 l m) : ∀ b, c1 = some b → NoRow w b := fun b e => by
  have := h.cur
  rw [e] at this
  exact MapS.noRow this
theorem StK.no2 (h : StK w B F p size k c1 c2 l m) : ∀ b, c2 = some b → NoRow w b := fun b e => by
  have := h.syn
  rw [e] at this
  exact MapS.noRow this
theorem StK.ne1 (h : StK w B F p size k c1 c2 l m) : ∀ b, c1 = some b → b ≠ p ∧ F b := fun b e => by
  have := h.cur
  rw [e] at this
  exact ⟨h.cells.noMap this, this.1⟩
theorem StK.ne2 (h : StK w B F p size k c1 c2 l m) : ∀ b, c2 = some b → b ≠ p ∧ F b := fun b e => by
  have := h.syn
  rw [e] at this
  exact ⟨h.cells.noMap this, this.1⟩
theorem StK.keep {T : Nat → Prop} (h : StK w B F p size k c1 c2 l m) (ht : Tch T w w') (hn : ∀ k, F k → ¬ T k) : StK w' B F p size k c1 c2 l m :=
  ⟨h.srt, h.ok, h.sz, h.used, h.here, fun k hk => ⟨(h.blocks k hk).1, Nat.lt_of_lt_of_le (h.blocks k hk).2 ht.size⟩, h.cells.tch ht (hn p h.here),
    h.cur.tch ht (fun b e => hn b (h.ne1 b e).2) (fun k hT hF => absurd hT (hn k hF)), h.syn.tch ht (fun b e => hn b (h.ne2 b e).2) (fun k hT hF => absurd hT (hn k hF)), h.nils, h.none_, h.apart⟩
theorem StK.base {B' : Nat} (h : StK w B F p size k c1 c2 l m) (hb : B' ≤ B) : StK w B' F p size k c1 c2 l m :=
  ⟨h.srt, h.ok, h.sz, h.used, h.here, fun k hk => ⟨Nat.le_trans hb (h.blocks k hk).1, (h.blocks k hk).2⟩, h.cells, h.cur.base hb, h.syn.base hb, h.nils, h.none_, h.apart⟩
theorem StK.nil_l (h : StK w B F p size k none c2 l m) : l = [] ∧ m = [] := by
  have h1 : l = [] := h.cur
  have h2 := h.nils.1 rfl
  have h3 := h.syn
  rw [h2] at h3
  exact ⟨h1, h3⟩
end
theorem St.keep {T : Nat → Prop} {w w' : World} {B : Nat} {F : Nat → Prop} {p : Nat} {size : Int} {l m : List Pr} (h : St w B F p size l m) (ht : Tch T w w') (hn : ∀ k, F k → ¬ T k) : St w' B F p size l m := by
  obtain ⟨c1, c2, hk⟩ := h
  exact ⟨c1, c2, hk.keep ht hn⟩
theorem St.base {w : World} {B B' : Nat} {F : Nat → Prop} {p : Nat} {size : Int} {l m : List Pr} (h : St w B F p size l m) (hb : B' ≤ B) : St w B' F p size l m := by
  obtain ⟨c1, c2, hk⟩ := h
  exact ⟨c1, c2, hk.base hb⟩
theorem St.blocks {w : World} {B : Nat} {F : Nat → Prop} {p : Nat} {size : Int} {l m : List Pr} (h : St w B F p size l m) : ∀ k, F k → B ≤ k ∧ k < w.heap.size := by
  obtain ⟨c1, c2, hk⟩ := h
  exact hk.blocks
/-- A receiver: nil, or a store. -/
def Rcv (w : World) (B : Nat) (F : Nat → Prop) (pv : Option Addr) (size : Int) (l m : List Pr) : Prop :=
  (pv = none ∧ size = 0 ∧ l = [] ∧ m = [] ∧ ∀ k, ¬ F k) ∨ ∃ p, pv = some ⟨p, 0, none⟩ ∧ St w B F p size l m
theorem Rcv.keep {T : Nat → Prop} {w w' : World} {B : Nat} {F : Nat → Prop} {pv : Option Addr} {size : Int} {l m : List Pr} (h : Rcv w B F pv size l m) (ht : Tch T w w') (hn : ∀ k, F k → ¬ T k) : Rcv w' B F pv size l m := by
  rcases h with h | ⟨p, e, h⟩
  · exact .inl h
  · exact .inr ⟨p, e, h.keep ht hn⟩
theorem Rcv.base {w : World} {B B' : Nat} {F : Nat → Prop} {pv : Option Addr} {size : Int} {l m : List Pr} (h : Rcv w B F pv size l m) (hb : B' ≤ B) : Rcv w B' F pv size l m := by
  rcases h with h | ⟨p, e, h⟩
  · exact .inl h
  · exact .inr ⟨p, e, h.base hb⟩
theorem Rcv.blocks {w : World} {B : Nat} {F : Nat → Prop} {pv : Option Addr} {size : Int} {l m : List Pr} (h : Rcv w B F pv size l m) : ∀ k, F k → B ≤ k ∧ k < w.heap.size := by
  rcases h with ⟨_, _, _, _, h⟩ | ⟨p, e, h⟩
  · exact fun k hk => absurd hk (h k)
  · exact h.blocks
/-- What a call leaves: a receiver whose pairs are these, in the old blocks and new ones. -/
def RTo (w : World) (B : Nat) (F : Nat → Prop) (pv : Option Addr) (size : Int) (l m : List Pr) (w' : World) : Prop :=
  ∃ F2, Rcv w' B F2 pv size l m ∧ (∀ k, F2 k → F k ∨ w.heap.size ≤ k) ∧ Tch F w w'
theorem Rcv.same {w w' : World} {B : Nat} {F : Nat → Prop} {pv : Option Addr} {size : Int} {l m : List Pr} (h : Rcv w B F pv size l m) (hb : Tch Non w w') : RTo w B F pv size l m w' :=
  ⟨F, h.keep hb (fun _ _ h => h), fun k hk => .inl hk, hb.mono (fun _ h => h.elim)⟩
/-- Behind orEmpty: the store itself, or a new one without room. -/
def RSt (w : World) (B : Nat) (F : Nat → Prop) (pv : Option Addr) (size : Int) (l m : List Pr) (G : Nat → Prop) (p : Nat) (w' : World) : Prop :=
  St w' B G p size l m ∧ Tch Non w w' ∧ ((pv = none ∧ (∀ k, ¬ F k) ∧ (∀ k, G k → k = p ∧ w.heap.size ≤ k)) ∨ (pv = some ⟨p, 0, none⟩ ∧ G = F))
/-- From the store to the receiver. -/
theorem RSt.back {w w1 w' : World} {B : Nat} {F G G2 : Nat → Prop} {pv : Option Addr} {p : Nat} {size : Int} {l m l2 m2 : List Pr} (h : RSt w B F pv size l m G p w1) (h2 : St w' B G2 p size l2 m2) (hg : ∀ k, G2 k → G k ∨ w1.heap.size ≤ k) (ht : Tch G w1 w') (hn : pv = none → size = 0 ∧ l2 = [] ∧ m2 = []) :
    RTo w B F pv size l2 m2 w' := by
  rcases h.2.2 with ⟨e, h3, h4⟩ | ⟨e, rfl⟩
  · obtain ⟨e1, e2, e3⟩ := hn e
    refine ⟨F, .inl ⟨e, e1, e2, e3, h3⟩, fun k hk => .inl hk, ?_⟩
    refine (h.2.1.mono (fun _ h => h.elim)).trans' ht (fun k hk hG => ?_)
    have := (h4 k hG).2
    omega
  · refine ⟨G2, .inr ⟨p, e, h2⟩, fun k hk => ?_, (h.2.1.mono (fun _ h => h.elim)).trans ht⟩
    rcases hg k hk with h5 | h5
    · exact .inl h5
    · exact .inr (Nat.le_trans h.2.1.size h5)
/-! ### What has been visited of a map -/
def sumV (left : Lit → Bool) (g : Pr → Nat) : List Pr → Nat
  | [] => 0
  | e :: l => cond (left (kI e.k)) 0 (g e) + sumV left g l
def sumA (g : Pr → Nat) : List Pr → Nat
  | [] => 0
  | e :: l => g e + sumA g l
theorem sumV_le (left : Lit → Bool) (g : Pr → Nat) (l : List Pr) : sumV left g l ≤ sumA g l := by
  induction l with
  | nil => exact Nat.le_refl _
  | cons e l ih =>
    simp only [sumV, sumA]
    cases left (kI e.k)
    · simp only [cond_false]; omega
    · simp only [cond_true]; omega
theorem sumV_start {left : Lit → Bool} {g : Pr → Nat} {l : List Pr} (h : ∀ e ∈ l, left (kI e.k) = true) : sumV left g l = 0 := by
  induction l with
  | nil => rfl
  | cons e l ih =>
    simp only [sumV]
    rw [h e List.mem_cons_self, cond_true, ih (fun x hx => h x (List.mem_cons_of_mem _ hx))]
theorem sumV_end {left : Lit → Bool} (g : Pr → Nat) (l : List Pr) (h : ∀ k, left k = false) : sumV left g l = sumA g l := by
  induction l with
  | nil => rfl
  | cons e l ih =>
    simp only [sumV, sumA, ih]
    rw [h, cond_false]
theorem sumV_step {left : Lit → Bool} {g : Pr → Nat} {l : List Pr} (hs : SrtP l) {k : Ky} {r : List Int} (hf : findP k l = some r) (hl : left (kI k) = true) :
    sumV (fun z => left z && !z.sameKey (kI k)) g l = sumV left g l + g ⟨k, r⟩ := by
  have other : ∀ {m : List Pr}, (∀ e ∈ m, e.k ≠ k) → sumV (fun z => left z && !z.sameKey (kI k)) g m = sumV left g m := by
    intro m
    induction m with
    | nil => intro _; rfl
    | cons e m ih =>
      intro hm
      simp only [sumV]
      rw [ih (fun x hx => hm x (List.mem_cons_of_mem _ hx)), sameKey_ne (key_ne (hm e List.mem_cons_self)), Bool.not_false, Bool.and_true]
  induction l with
  | nil => cases hf
  | cons e l ih =>
    obtain ⟨h1, h2⟩ := List.pairwise_cons.1 hs
    by_cases h : e.k = k
    · rw [findP_hit h] at hf
      have hm : ∀ x ∈ l, x.k ≠ k := fun x hx e2 => ky_irr _ (by have := h1 x hx; rw [h, e2] at this; exact this)
      have hx : (kI k).sameKey (kI k) = true := Go.WideAt.sameKey_self (key_lit k)
      have he : (⟨k, r⟩ : Pr) = e := by cases e; simp_all
      rw [he]
      simp only [sumV]
      rw [other hm, h, hl, hx, Bool.not_true, Bool.and_false, cond_false, cond_true]
      omega
    · rw [findP_miss h] at hf
      have := ih h2 hf
      simp only [sumV]
      rw [this, sameKey_ne (key_ne h), Bool.not_false, Bool.and_true]
      omega
theorem sumA_sz (l : List Pr) : sumA szP l = usedP l := by
  induction l with
  | nil => rfl
  | cons e l ih => simp only [sumA, usedP, ih]
theorem sumA_filter (p : Pr → Prop) [DecidablePred p] (l : List Pr) : sumA (fun e => if p e then 1 else 0) l = (l.filter (fun e => decide (p e))).length := by
  induction l with
  | nil => rfl
  | cons e l ih =>
    by_cases h : p e
    · rw [List.filter_cons_of_pos (by simp [h])]
      simp only [sumA, ih, if_pos h, List.length_cons]
      omega
    · rw [List.filter_cons_of_neg (by simp [h])]
      simp only [sumA, ih, if_neg h]
      omega
end Go.Proofs.Ytnhnpfhfcbmmlaa
namespace Go.Proofs.Ytnhnpfhfcbmmlaa
open Go Go.RowKit Go.Maps
set_option linter.unusedVariables false
set_option linter.unusedSimpArgs false

abbrev sv (k : Ky) : Value := .string ⟨k.toArray⟩
theorem orE_c (p : Nat) (w : World) : Calls Try.prog 84 #[.pointer (some ⟨p, 0, none⟩)] w fun e w' => e = .returned (.pointer (some ⟨p, 0, none⟩)) ∧ w = w' := by
  go_enter Try.func84, Try.ntmps84
  go_wp2
  go_ret
  exact ⟨rfl, rfl⟩
theorem orE_n (w : World) : Calls Try.prog 84 #[.pointer none] w fun e w' => e = .returned (.pointer (some ⟨w.heap.size, 0, none⟩)) ∧ w' = w.alloc (stO 0 none none 0) := by
  go_enter Try.func84, Try.ntmps84
  go_wp2
  go_ret
  exact ⟨rfl, rfl⟩
theorem orE_t (B : Nat) (F : Nat → Prop) (pv : Option Addr) (size : Int) (l m : List Pr) (w : World) (h : Rcv w B F pv size l m) (hB : B ≤ w.heap.size) :
    Calls Try.prog 84 #[.pointer pv] w fun e w' => ∃ G p, e = .returned (.pointer (some ⟨p, 0, none⟩)) ∧ RSt w B F pv size l m G p w' := by
  rcases h with ⟨rfl, rfl, rfl, rfl, hF⟩ | ⟨p, rfl, hs⟩
  · refine (orE_n w).mono ?_
    rintro e w' ⟨rfl, rfl⟩
    refine ⟨fun k => k = w.heap.size, _, rfl, ⟨none, none, ⟨List.Pairwise.nil, List.Pairwise.nil⟩, ⟨by simp, by simp⟩, by omega, by simp [usedP], rfl, fun k hk => ?_, (MapKept.heap_alloc _ _).1, rfl, rfl, Iff.rfl, fun _ => rfl, fun b e => (by cases e)⟩, ?_, .inl ⟨rfl, hF, fun k hk => ⟨hk, Nat.le_of_eq hk.symm⟩⟩⟩
    · simp only [World.size_alloc]; omega
    · exact tch_new (bl_al (Below.refl _ _) _)
  · refine (orE_c p w).mono ?_
    rintro e w' ⟨rfl, rfl⟩
    exact ⟨F, p, rfl, hs, Tch.refl _ _, .inr ⟨rfl, rfl⟩⟩
set_option maxRecDepth 100000 in
theorem sizeAt_c (B : Nat) (F : Nat → Prop) (c : Option Nat) (l : List Pr) (k : Ky) (w : World) (h : MapO w F B c l) (hk : k.length ≤ maxLen) (hr : ∀ r, findP k l = some r → k.length + r.length ≤ 1099511627776) :
    Calls Try.prog 114 #[.map c, sv k] w fun e w' => e = .returned (.int .i64 (sizeAt k l : Nat)) ∧ w = w' := by
  obtain ⟨v, hl, hv⟩ := h.look (k := k) hk
  have hlw := hl w (fun _ _ => rfl)
  cases hf : findP k l with
  | none =>
    have e0 : sizeAt k l = 0 := by unfold sizeAt; rw [hf]
    rw [e0]
    rw [hf] at hlw
    clear hl hv h hr hf e0
    go_enter Try.func114, Try.ntmps114
    go_wp2
    go_ret
    exact ⟨rfl, rfl⟩
  | some r =>
    have e0 : sizeAt k l = k.length + r.length := by unfold sizeAt; rw [hf]
    unfold LookV at hv
    rw [hf] at hv hlw
    have hb := hr r hf
    obtain ⟨ao, cp, rfl⟩ := own_form hv.1
    rw [e0]
    clear hl hv h hr hf e0
    have e1 : ∀ [Inhabited Nat], wrap64 ((k.length : Int) + (r.length : Int)) = (k.length : Int) + (r.length : Int) := by intro _; unfold wrap64; omega
    go_enter Try.func114, Try.ntmps114
    go_wp2
    go_ret
    exact ⟨by push_cast; rfl, rfl⟩
end Go.Proofs.Ytnhnpfhfcbmmlaa
namespace Go.Proofs.Ytnhnpfhfcbmmlaa
open Go Go.RowKit Go.Maps
set_option linter.unusedVariables false
set_option linter.unusedSimpArgs false

theorem own_n {w : World} {B size n k c : Nat} {e : TypeId} {a : Option Addr} {xs : List Value} (h : w.ownsRow B e size (.slice a n c) k xs) : k = n := by
  rcases h.2 with ⟨e, h0⟩ | ⟨g, cap, cur, e, _⟩
  · cases e; exact h0
  · cases e; rfl
abbrev slV (t : Option Addr × Nat × Nat) : Value := .slice t.1 t.2.1 t.2.2
theorem invK : ∀ key kl, keyOf Try.prog tyK key = some kl → ∃ x : Ky, key = encStr x := fun key kl h => by
  obtain ⟨x, hx, _⟩ := Maps.keyOf_str Try.underlying9 h
  exact ⟨x, hx⟩
theorem invV : ∀ v y, rdV v = some y → ∃ t, v = slV t := fun v y h => by
  obtain ⟨d, ps⟩ := y
  obtain ⟨_, a, n, c, e⟩ := rd_val h
  exact ⟨(a, n, c), e⟩
theorem MR.in {F : Nat → Prop} {w : World} {B : Nat} {D : DV} {l : List Pr} (hm : MR w F B D l) {x : Ky} {kl : Lit} {v : Value} {y : DV × List MemPlace} (hkey : keyOf Try.prog tyK (encStr x) = some kl) (hv : rdV v = some y) (hat : ∀ zd, D.atKey kl zd = y.1) :
    kl = kI x ∧ ∃ r, findP x l = some r ∧ RowF w F B v r := by
  obtain ⟨x', e1, e2, _⟩ := Maps.keyOf_str Try.underlying9 hkey
  have e3 := encStr_inj e1
  subst e3
  subst e2
  refine ⟨rfl, ?_⟩
  have h1 := has_true_of_atKey hat
  rw [hm.has x, Option.isSome_iff_exists] at h1
  obtain ⟨r, hr⟩ := h1
  obtain ⟨_, u, hu, hrow⟩ := hm.some_ x r hr
  refine ⟨r, hr, ?_⟩
  have h2 := hat .nil
  rw [hu] at h2
  obtain ⟨d, ps⟩ := y
  rw [(rd_val hv).1] at h2
  simp only [DataW.held.injEq] at h2
  rw [← h2]
  exact hrow
theorem MR.start {F : Nat → Prop} {w : World} {B : Nat} {D : DV} {l : List Pr} (hm : MR w F B D l) (hs : SrtP l) : ∀ e ∈ l, Maps.has D (kI e.k) = true := fun e he => by
  rw [hm.has, findP_of_mem hs he]; rfl
theorem tch_none {w w' : World} (h : w.grownBy w' none) (F : Nat → Prop) : Tch F w w' := (tch_grown h).mono (fun k hk => by cases hk)
set_option maxRecDepth 100000 in
set_option maxHeartbeats 1000000 in
theorem size_c (B b : Nat) (F : Nat → Prop) (l : List Pr) (w : World) (h : MapS w F B b l) (hs : SrtP l) (hu : usedP l ≤ 1099511627776) :
    Calls Try.prog 87 #[.map (some b)] w fun e w' => e = .returned (.int .i64 (usedP l : Nat)) ∧ Tch Non w w' := by
  have HM := Lib.hid h
  have HS := Lib.hid hs
  have HR : Hid (∀ k r, findP k l = some r → k.length + r.length ≤ 1099511627776) := Lib.hid (fun k r hf => by
    have h1 := sz_used (findP_mem hf)
    simp only [szP] at h1
    omega)
  obtain ⟨_, D, hown, hmr⟩ := h
  have HMR := Lib.hid hmr
  have HX0 : Hid (sumV (Maps.has D) szP l = 0) := Lib.hid (sumV_start (hmr.start hs))
  clear hmr
  go_enter Try.func87, Try.ntmps87
  go_wp2_with (first
    | (at_range; refine wpList_range_own _ rfl _ tyM rfl tyK tyB lawK Try.underlying153 rdV b _ D rfl hown ?_; intro w0 hrg0 hg0 hs0)
    | go_in)
  go_frame
  obtain ⟨r, hr⟩ : ∃ r, r = w.heap.size := ⟨_, rfl⟩
  rw [← hr] at hrg0 ⊢
  have HRr := Lib.hid hr
  clear hr
  go_loopw [3, 4] (fun tv _ wr => ∃ (t : Nat) (left : Lit → Bool) (cnt : Nat), tv = .int .i64 t ∧ wr.ranges Try.prog tyK rdV b r l.length D left cnt ∧ Hid (t = sumV left szP l) ∧ w.grownBy wr none) (fun _ _ wr => wr.rangeLeft b r)
  case atStart => exact ⟨0, _, _, rfl, hrg0, Lib.hid HX0.out.symm, hg0⟩
  case round =>
    obtain ⟨t, left, cnt, rfl, hrg, HT, hgw⟩ := hrel
    clear hrg0 hg0 hs0
    go_wp2_with (first
      | (at_next; refine wpList_next_ranges _ rfl _ rfl tyK lawK rdV encStr slV invK invV b r l.length D left cnt rfl hrg ?_ ?_)
      | go_in)
    · intro _ hl0
      have HE : Hid (t = usedP l) := Lib.hid (by rw [HT.out, sumV_end _ _ hl0, sumA_sz])
      go_wp2
      go_ret
      exact ⟨by rw [HE.out]; rfl, tch_none hgw Non⟩
    · intro x ya yn yc kl yd yp w2 cnt1 hkey hlx hrv hat hrg1 hlt hg1 hs1 hen
      obtain ⟨e1, rr, hfr, hrow⟩ := HMR.out.in (y := (yd, yp)) hkey hrv hat
      subst e1
      have hgw1 := hgw.andThen hg1 (fun j hj => by cases hj; exact Or.inl (by rw [HRr.out]; exact Nat.le_refl _))
      have CS := Lib.hid (sizeAt_c B F (some b) l x w2 (MapS.tch HM.out (tch_none hgw1 Non) (fun h => h) (fun _ h => h.elim)) (by have := HR.out x rr hfr; unfold maxLen; omega) (HR.out x))
      have eS : sizeAt x l = szP ⟨x, rr⟩ := by unfold sizeAt; rw [hfr]; rfl
      have HT1 : Hid (t + sizeAt x l = sumV (fun z => left z && !z.sameKey (kI x)) szP l) := Lib.hid (by rw [sumV_step HS.out hfr hlx, eS, HT.out])
      have hbt : t + sizeAt x l ≤ 1099511627776 := by
        rw [HT1.out]
        have := sumV_le (fun z => left z && !z.sameKey (kI x)) szP l
        rw [sumA_sz] at this
        omega
      clear hat hlx hrv hkey hrow eS hfr
      generalize sizeAt x l = sz at CS HT1 hbt
      have e1 : ∀ [Inhabited Nat], wrap64 ((t : Int) + (sz : Int)) = (t : Int) + (sz : Int) := by intro _; unfold wrap64; omega
      go_wp2_with fail
      refine CS.out.mono ?_
      rintro e w3 ⟨rfl, rfl⟩
      go_wp2
      go_roundw
      case rel => exact ⟨t + sz, _, cnt1, by push_cast; rfl, hrg1, HT1, hgw1⟩
      case measure => rw [hrg1.left_eq, hrg.left_eq]; exact hlt
/-- Is the row unlike? -/
abbrev gA (m : List Pr) (e : Pr) : Nat := if findP e.k m ≠ some e.b then 1 else 0
abbrev gB (l : List Pr) (e : Pr) : Nat := if findP e.k l = none then 1 else 0
theorem sumA_gA (l m : List Pr) : sumA (gA m) l = unA l m := sumA_filter (fun e => findP e.k m ≠ some e.b) l
theorem sumA_gB (l m : List Pr) : sumA (gB l) m = unB l m := sumA_filter (fun e => findP e.k l = none) m
theorem un_le (l m : List Pr) : unA l m ≤ l.length ∧ unB l m ≤ m.length := ⟨List.length_filter_le _ _, List.length_filter_le _ _⟩
set_option maxRecDepth 100000 in
set_option maxHeartbeats 2000000 in
theorem diff_c (B b b2 : Nat) (F : Nat → Prop) (l m : List Pr) (w : World) (h : MapS w F B b l) (h2 : MapS w F B b2 m) (hs : SrtP l ∧ SrtP m) (hu : usedP l ≤ 67108864 ∧ usedP m ≤ 67108864) (hn : l.length ≤ 67108864 ∧ m.length ≤ 67108864) :
    Calls Try.prog 85 #[.map (some b), .map (some b2)] w fun e w' => e = .returned (.int .i64 (unlikeP l m : Nat)) ∧ Tch Non w w' := by
  have HM := Lib.hid h
  have HM2 := Lib.hid h2
  have HS := Lib.hid hs
  have HN := Lib.hid hn
  have hkb : ∀ {ll : List Pr}, usedP ll ≤ 67108864 → ∀ k r, findP k ll = some r → k.length ≤ 67108864 ∧ r.length ≤ 67108864 := fun hu k r hf => by
    have h1 := sz_used (findP_mem hf)
    simp only [szP] at h1
    omega
  have HR := Lib.hid (And.intro (hkb hu.1) (hkb hu.2))
  obtain ⟨_, D, hown, hmr⟩ := h
  obtain ⟨_, D2, hown2, hmr2⟩ := h2
  have HMR := Lib.hid (And.intro hmr hmr2)
  have HX0 : Hid (sumV (Maps.has D) (gA m) l = 0) := Lib.hid (sumV_start (hmr.start hs.1))
  have HY0 : Hid (sumV (Maps.has D2) (gB l) m = 0) := Lib.hid (sumV_start (hmr2.start hs.2))
  have HUB : Hid (unA l m ≤ 67108864 ∧ unB l m ≤ 67108864) := Lib.hid (by have := un_le l m; omega)
  have HO2 := Lib.hid hown2
  clear hmr hmr2 hkb hn hu hs hown2
  go_enter Try.func85, Try.ntmps85
  go_wp2_with (first
    | (at_range; refine wpList_range_own _ rfl _ tyM rfl tyK tyB lawK Try.underlying153 rdV b _ D rfl hown ?_; intro w0 hrg0 hg0 hs0)
    | go_in)
  go_frame
  obtain ⟨r, hr⟩ : ∃ r, r = w.heap.size := ⟨_, rfl⟩
  rw [← hr] at hrg0 ⊢
  have HRr := Lib.hid hr
  clear hr
  go_loopw [5, 6, 7, 8, 9] (fun tv _ _ _ _ wr => ∃ (t : Nat) (left : Lit → Bool) (cnt : Nat), tv = .int .i64 t ∧ wr.ranges Try.prog tyK rdV b r l.length D left cnt ∧ Hid (t = sumV left (gA m) l) ∧ w.grownBy wr none) (fun _ _ _ _ _ wr => wr.rangeLeft b r)
  case atStart => exact ⟨0, _, _, rfl, hrg0, Lib.hid HX0.out.symm, hg0⟩
  case round =>
    obtain ⟨t, left, cnt, rfl, hrg, HT, hgw⟩ := hrel
    clear hrg0 hg0 hs0
    go_wp2_with (first
      | (at_next; refine wpList_next_ranges _ rfl _ rfl tyK lawK rdV encStr slV invK invV b r l.length D left cnt rfl hrg ?_ ?_)
      | go_in)
    · intro _ hl0
      have HE : Hid (t = unA l m) := Lib.hid (by rw [HT.out, sumV_end _ _ hl0, sumA_gA])
      have HG1 := Lib.hid hgw
      obtain ⟨wq, hwq⟩ : ∃ q, q = wr := ⟨_, rfl⟩
      rw [← hwq] at HG1 ⊢
      have hownq := own_block_m HO2.out ((tch_none HG1.out Non).block b2 HM2.out.lt (fun h => h))
      clear hgw hrg hwq HT
      go_wp2_with (first
        | (at_range; refine wpList_range_own _ rfl _ tyM rfl tyK tyB lawK Try.underlying153 rdV b2 _ D2 rfl hownq ?_; intro v0 krg0 kg0 ks0)
        | go_in)
      go_frame
      obtain ⟨q, hq⟩ : ∃ q, q = wq.heap.size := ⟨_, rfl⟩
      rw [← hq] at krg0 ⊢
      have HQq := Lib.hid hq
      clear hq
      go_loopw [5, 10, 11, 12] (fun tv _ _ _ wr => ∃ (t2 : Nat) (left : Lit → Bool) (cnt : Nat), tv = .int .i64 t2 ∧ wr.ranges Try.prog tyK rdV b2 q m.length D2 left cnt ∧ Hid (t2 = unA l m + sumV left (gB l) m) ∧ wq.grownBy wr none) (fun _ _ _ _ wr => wr.rangeLeft b2 q)
      case atStart => exact ⟨t, _, _, rfl, krg0, Lib.hid (by rw [HY0.out, HE.out]; rfl), kg0⟩
      case round =>
        obtain ⟨t2, left, cnt, rfl, krg, KT, kgw⟩ := hrel
        clear krg0 kg0 ks0
        have hgall := HG1.out.andThen kgw (fun j hj => by cases hj)
        go_wp2_with (first
          | (at_next; refine wpList_next_ranges _ rfl _ rfl tyK lawK rdV encStr slV invK invV b2 q m.length D2 left cnt rfl krg ?_ ?_)
          | go_in)
        · intro _ hl0
          have HE2 : Hid (t2 = unlikeP l m) := Lib.hid (by rw [KT.out, sumV_end _ _ hl0, sumA_gB]; rfl)
          go_wp2
          go_ret
          exact ⟨by rw [HE2.out]; rfl, tch_none hgall Non⟩
        · intro x ya yn yc kl yd yp w2 cnt1 hkey hlx hrv hat hrg1 hlt hg1 hs1 hen
          obtain ⟨e1, rr, hfr, hrow⟩ := HMR.out.2.in (y := (yd, yp)) hkey hrv hat
          subst e1
          have kgw1 := kgw.andThen hg1 (fun j hj => by cases hj; exact Or.inl (by rw [HQq.out]; exact Nat.le_refl _))
          have hga2 := HG1.out.andThen kgw1 (fun j hj => by cases hj)
          have hM2 : MapO w2 F B (some b) l := MapS.tch HM.out (tch_none hga2 Non) (fun h => h) (fun _ h => h.elim)
          obtain ⟨v, hlk, _⟩ := hM2.look (k := x) (by have := (HR.out.2 x rr hfr).1; unfold maxLen; omega)
          have hlw := hlk w2 (fun _ _ => rfl)
          have hst := sumV_step (g := gB l) HS.out.2 hfr hlx
          have hle : sumV (fun z => left z && !z.sameKey (kI x)) (gB l) m ≤ unB l m := by have := sumV_le (fun z => left z && !z.sameKey (kI x)) (gB l) m; rwa [sumA_gB] at this
          have hub := HUB.out
          have hkt := KT.out
          have HLT := Lib.hid hlt
          cases hf : findP x l with
          | none =>
            have e1 : gB l ⟨x, rr⟩ = 1 := if_pos hf
            rw [hf] at hlw
            have HT1 : Hid (t2 + 1 = unA l m + sumV (fun z => left z && !z.sameKey (kI x)) (gB l) m) := Lib.hid (by rw [hst, e1, hkt]; omega)
            have hbt : t2 + 1 ≤ 134217728 := by rw [HT1.out]; omega
            clear hat hlx hrv hkey hrow hfr hf hst hle hub hkt e1 hlk hM2 hlt
            go_wp2
            go_roundw
            case rel => exact ⟨t2 + 1, _, cnt1, by go_num, hrg1, HT1, kgw1⟩
            case measure => rw [hrg1.left_eq, krg.left_eq]; exact HLT.out
          | some r0 =>
            have e1 : gB l ⟨x, rr⟩ = 0 := if_neg (by show ¬ findP x l = none; rw [hf]; simp)
            rw [hf] at hlw
            have HT1 : Hid (t2 = unA l m + sumV (fun z => left z && !z.sameKey (kI x)) (gB l) m) := Lib.hid (by rw [hst, e1, hkt]; omega)
            clear hat hlx hrv hkey hrow hfr hf hst hle hub hkt e1 hlk hM2 hlt
            go_wp2
            go_roundw
            case rel => exact ⟨t2, _, cnt1, rfl, hrg1, HT1, kgw1⟩
            case measure => rw [hrg1.left_eq, krg.left_eq]; exact HLT.out
    · intro x ya yn yc kl yd yp w2 cnt1 hkey hlx hrv hat hrg1 hlt hg1 hs1 hen
      obtain ⟨e1, rr, hfr, hrow⟩ := HMR.out.1.in (y := (yd, yp)) hkey hrv hat
      subst e1
      have hgw1 := hgw.andThen hg1 (fun j hj => by cases hj; exact Or.inl (by rw [HRr.out]; exact Nat.le_refl _))
      have hM2 : MapO w2 F B (some b2) m := MapS.tch HM2.out (tch_none hgw1 Non) (fun h => h) (fun _ h => h.elim)
      have hrw : RowF w2 F B (.slice ya yn yc) rr := hrow.tch (tch_none hgw1 Non) (fun _ h => h.elim)
      obtain ⟨v, hlk, hvr⟩ := hM2.look (k := x) (by have := (HR.out.1 x rr hfr).1; unfold maxLen; omega)
      have hlw := hlk w2 (fun _ _ => rfl)
      have hst := sumV_step (g := gA m) HS.out.1 hfr hlx
      have hle : sumV (fun z => left z && !z.sameKey (kI x)) (gA m) l ≤ unA l m := by have := sumV_le (fun z => left z && !z.sameKey (kI x)) (gA m) l; rwa [sumA_gA] at this
      have hub := HUB.out
      have hkt := HT.out
      have HLT := Lib.hid hlt
      have hyn : rr.length = yn := own_n hrw.1
      cases hf : findP x m with
      | none =>
        have e1 : gA m ⟨x, rr⟩ = 1 := if_pos (by show findP x m ≠ some rr; rw [hf]; simp)
        rw [hf] at hlw
        have HT1 : Hid (t + 1 = sumV (fun z => left z && !z.sameKey (kI x)) (gA m) l) := Lib.hid (by rw [hst, e1, hkt])
        have hbt : t + 1 ≤ 134217728 := by rw [HT1.out]; omega
        clear hat hlx hrv hkey hrow hfr hf hst hle hub hkt e1 hlk hM2 hlt hvr hrw hyn
        go_wp2
        go_roundw
        case rel => exact ⟨t + 1, _, cnt1, by go_num, hrg1, HT1, hgw1⟩
        case measure => rw [hrg1.left_eq, hrg.left_eq]; exact HLT.out
      | some r0 =>
        unfold LookV at hvr
        rw [hf] at hlw hvr
        obtain ⟨va, vc, rfl⟩ := own_form hvr.1
        have CE := Lib.hid (equal_c rr r0 ya va yn r0.length yc vc w2 (At.own hrw.1) (At.own hvr.1) hyn rfl hrw.2.1 hvr.2.1)
        by_cases he : rr = r0
        · have e1 : gA m ⟨x, rr⟩ = 0 := if_neg (by show ¬ findP x m ≠ some rr; rw [hf, he]; simp)
          have HT1 : Hid (t = sumV (fun z => left z && !z.sameKey (kI x)) (gA m) l) := Lib.hid (by rw [hst, e1, hkt]; rfl)
          rw [decide_eq_true he] at CE
          clear hat hlx hrv hkey hrow hfr hf hst hle hub hkt e1 hlk hM2 hlt hvr hrw hyn he
          go_wp2_with fail
          refine CE.out.mono ?_
          rintro e w3 ⟨rfl, rfl⟩
          go_wp2
          go_roundw
          case rel => exact ⟨t, _, cnt1, rfl, hrg1, HT1, hgw1⟩
          case measure => rw [hrg1.left_eq, hrg.left_eq]; exact HLT.out
        · have e1 : gA m ⟨x, rr⟩ = 1 := if_pos (by show findP x m ≠ some rr; rw [hf]; intro e; exact he (Option.some.inj e).symm)
          have HT1 : Hid (t + 1 = sumV (fun z => left z && !z.sameKey (kI x)) (gA m) l) := Lib.hid (by rw [hst, e1, hkt])
          have hbt : t + 1 ≤ 134217728 := by rw [HT1.out]; omega
          rw [decide_eq_false he] at CE
          clear hat hlx hrv hkey hrow hfr hf hst hle hub hkt e1 hlk hM2 hlt hvr hrw hyn he
          go_wp2_with fail
          refine CE.out.mono ?_
          rintro e w3 ⟨rfl, rfl⟩
          go_wp2
          go_roundw
          case rel => exact ⟨t + 1, _, cnt1, by go_num, hrg1, HT1, hgw1⟩
          case measure => rw [hrg1.left_eq, hrg.left_eq]; exact HLT.out
end Go.Proofs.Ytnhnpfhfcbmmlaa
