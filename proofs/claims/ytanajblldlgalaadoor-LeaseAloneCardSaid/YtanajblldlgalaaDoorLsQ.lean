/- LeaseAlone, LeaseApart, plainly: what grants, renewals and prunings keep. No conditions but those stated. -/
import Derived.Test.YtanajblldlgalaaDoorLsP
namespace Go.Proofs.YtanajblldlgalaaDoor
open Go Go.RowKit
set_option linter.unusedVariables false
set_option linter.unusedSimpArgs false

theorem with_count (p : Ls → Bool) (g : Ls) (L : List Ls) : (withL g L).countP p + L.countP (fun y => p y && sameK y g) = L.countP p + (if p g then 1 else 0) := by
  unfold withL
  rw [List.countP_append, List.countP_cons]
  induction L with
  | nil => simp
  | cons a L ih =>
    rw [List.filter_cons, List.filter_cons, List.countP_cons, List.countP_cons]
    have h : (ltL a g = true ∧ ltL g a = false ∧ sameK a g = false) ∨ (ltL a g = false ∧ ltL g a = true ∧ sameK a g = false) ∨ (ltL a g = false ∧ ltL g a = false ∧ sameK a g = true) := by
      unfold ltL sameK
      simp only [decide_eq_true_iff, decide_eq_false_iff_not]
      omega
    rcases h with ⟨h1, h2, h3⟩ | ⟨h1, h2, h3⟩ | ⟨h1, h2, h3⟩
    · rw [if_pos h1, if_neg (by simp [h2]), List.countP_cons, h3]
      simp only [Bool.and_false, Bool.false_eq_true, if_false]
      omega
    · rw [if_neg (by simp [h1]), if_pos h2, List.countP_cons, h3]
      simp only [Bool.and_false, Bool.false_eq_true, if_false]
      omega
    · rw [if_neg (by simp [h1]), if_neg (by simp [h2]), h3]
      simp only [Bool.and_true]
      omega
theorem ofL_len (dip now : Int) (l : List Ls) : (ofL dip now l).length = l.countP (isO dip now) := by unfold ofL; rw [List.countP_eq_length_filter]
/-- What LeaseAlone holds: the list, what was granted, the time. -/
structure Alo (t : Int) (L G : List Ls) : Prop where
  ok : OkL L
  t0 : 0 ≤ t
  has : ∀ x ∈ G, t ≤ x.exp → ∃ y ∈ L, y.vip = x.vip ∧ y.first = x.first ∧ y.dip = x.dip ∧ x.exp ≤ y.exp
  good : ∀ x ∈ G, GoodL x
  top : ∀ x ∈ G, x.exp ≤ t + 64
  few : ∀ dip, (ofL dip t L).length ≤ 4
theorem Alo.start : Alo 0 [] [] := ⟨okL_nil, by omega, fun x h => by simp at h, fun x h => by simp at h, fun x h => by simp at h, fun dip => by simp [ofL]⟩
theorem Alo.later {t t' : Int} {L G : List Ls} (h : Alo t L G) (ht : t ≤ t') : Alo t' L G := by
  refine ⟨h.ok, by have := h.t0; omega, fun x hx he => h.has x hx (by omega), h.good, fun x hx => by have := h.top x hx; omega, fun dip => ?_⟩
  refine Nat.le_trans ?_ (h.few dip)
  rw [ofL_len, ofL_len]
  refine List.countP_mono_left (fun x _ hx => ?_)
  unfold isO livL at *
  simp only [Bool.and_eq_true, decide_eq_true_iff] at *
  omega
theorem Alo.found {t : Int} {L G : List Ls} (h : Alo t L G) {x : Ls} (hx : x ∈ G) (hl : t ≤ x.exp) : ∃ y, findL x.vip x.first t L = some y ∧ y.dip = x.dip ∧ y.first = x.first ∧ x.exp ≤ y.exp := by
  obtain ⟨y, hy, h1, h2, h3, h4⟩ := h.has x hx hl
  rw [find_blk h.ok (h.good x hx).2.2.1]
  cases hf : L.find? (fun z => decide (z.vip = x.vip) && (livL t z && decide (z.first = x.first))) with
  | none =>
    have := List.find?_eq_none.1 hf y hy
    unfold livL at this
    rw [decide_eq_true (by omega), decide_eq_true (by omega), decide_eq_true (by omega)] at this
    simp at this
  | some z =>
    have hz := List.mem_of_find?_eq_some hf
    have hp := List.find?_some hf
    simp only [Bool.and_eq_true, decide_eq_true_iff] at hp
    have := h.ok.one hz hy ⟨by omega, by omega⟩
    exact ⟨z, rfl, by rw [this]; exact h3, by omega, by rw [this]; exact h4⟩
theorem Alo.pruned {t : Int} {L G : List Ls} (h : Alo t L G) : Alo t (prL t L) G := by
  refine ⟨h.ok.filter _, h.t0, fun x hx hl => ?_, h.good, h.top, fun dip => ?_⟩
  · obtain ⟨y, hy, h1, h2, h3, h4⟩ := h.has x hx hl
    exact ⟨y, List.mem_filter.2 ⟨hy, by unfold livL; exact decide_eq_true (by omega)⟩, h1, h2, h3, h4⟩
  · refine Nat.le_trans ?_ (h.few dip)
    unfold ofL prL
    exact ((List.filter_sublist).filter _).length_le
def ovl (a b : Ls) : Bool := decide (a.vip = b.vip) && (decide (a.first < b.first + 8) && decide (b.first < a.first + 8))
theorem grant_is {L L' : List Ls} {g : Ls} {vip dip t : Int} {z : Int} (h : grantL L vip dip t = (L', g, z)) (hz : z = 0) :
    OkTm t ∧ IsVipA vip ∧ IsDip dip ∧ OkL L ∧ (ofL dip t L).length < 4 ∧ ∃ k : Nat, freeL vip t L = some k ∧ g = ⟨vip, 1024 + 8 * (k : Int), dip, t + 64⟩ ∧ L' = withL g L := by
  unfold grantL at h
  split at h
  · rename_i hc
    split at h
    · simp only [Prod.mk.injEq] at h
      omega
    · split at h
      · simp only [Prod.mk.injEq] at h
        omega
      · rename_i k hk
        simp only [Prod.mk.injEq] at h
        obtain ⟨h1, h2, _⟩ := h
        exact ⟨hc.1, hc.2.1, hc.2.2.1, hc.2.2.2, by omega, k, hk, h2.symm, by rw [← h2]; exact h1.symm⟩
  · simp only [Prod.mk.injEq] at h
    omega
theorem grant_good {L L' : List Ls} {g : Ls} {vip dip t : Int} {z : Int} (h : grantL L vip dip t = (L', g, z)) (hz : z = 0) : GoodL g ∧ OkL L' := by
  obtain ⟨h1, h2, h3, h4, h5, k, hk, rfl, rfl⟩ := grant_is h hz
  have hk2 := (free_is hk).1
  have hg : GoodL ⟨vip, 1024 + 8 * (k : Int), dip, t + 64⟩ := by
    refine ⟨h3, h2, ?_, ?_, ?_⟩
    · show OkFst (1024 + 8 * (k : Int))
      unfold OkFst
      omega
    · show 0 ≤ t + 64
      have := h1.1
      omega
    · show t + 64 ≤ 1099511627840
      have := h1.2
      omega
  exact ⟨hg, h4.with hg⟩
theorem dead_of_free {L : List Ls} {vip t : Int} {k : Nat} (h : lentB vip t L k = false) {y : Ls} (hy : y ∈ L) (h1 : y.vip = vip) (h2 : y.first = 1024 + 8 * (k : Int)) : y.exp < t := by
  unfold lentB at h
  have := List.any_eq_false.1 h y hy
  unfold livL at this
  rw [decide_eq_true h1, decide_eq_true h2] at this
  simp at this
  omega
theorem Alo.granted {t : Int} {L G L' : List Ls} {g : Ls} {vip dip : Int} {z : Int} (h : Alo t L G) (hg : grantL L vip dip t = (L', g, z)) (hz : z = 0) :
    (∀ x ∈ G, t ≤ x.exp → ovl x g = false) ∧ Alo t L' (G ++ [g]) := by
  have hgd := grant_good hg hz
  obtain ⟨h1, h2, h3, h4, h5, k, hk, rfl, rfl⟩ := grant_is hg hz
  have hf := free_is hk
  constructor
  · intro x hx hl
    obtain ⟨y, hy, y1, y2, y3, y4⟩ := h.has x hx hl
    have hxf := (h.good x hx).2.2.1
    cases ho : ovl x ⟨vip, 1024 + 8 * (k : Int), dip, t + 64⟩ with
    | false => rfl
    | true =>
      exfalso
      unfold ovl at ho
      simp only [Bool.and_eq_true, decide_eq_true_iff] at ho
      unfold OkFst at hxf
      have := dead_of_free hf.2.1 hy (by omega) (by omega)
      omega
  · refine ⟨hgd.2, h.t0, fun x hx hl => ?_, fun x hx => ?_, fun x hx => ?_, fun d => ?_⟩
    · rw [List.mem_append, List.mem_singleton] at hx
      rcases hx with hx | hx
      · obtain ⟨y, hy, y1, y2, y3, y4⟩ := h.has x hx hl
        refine ⟨y, mem_with.2 (.inr ⟨hy, ?_⟩), y1, y2, y3, y4⟩
        cases hs : sameK y ⟨vip, 1024 + 8 * (k : Int), dip, t + 64⟩ with
        | false => rfl
        | true =>
          have h6 := sameK_iff.1 hs
          have := dead_of_free hf.2.1 hy h6.1 h6.2
          omega
      · exact ⟨_, mem_with.2 (.inl rfl), by rw [hx], by rw [hx], by rw [hx], by rw [hx]; exact Int.le_refl _⟩
    · rw [List.mem_append, List.mem_singleton] at hx
      rcases hx with hx | hx
      · exact h.good x hx
      · rw [hx]; exact hgd.1
    · rw [List.mem_append, List.mem_singleton] at hx
      rcases hx with hx | hx
      · exact h.top x hx
      · rw [hx]; exact Int.le_refl _
    · have hw := with_count (isO d t) ⟨vip, 1024 + 8 * (k : Int), dip, t + 64⟩ L
      rw [ofL_len]
      have hd := h.few d
      rw [ofL_len] at hd h5
      by_cases hdd : dip = d
      · subst hdd
        split at hw <;> omega
      · have : isO d t ⟨vip, 1024 + 8 * (k : Int), dip, t + 64⟩ = false := by
          unfold isO
          rw [decide_eq_false hdd]
          rfl
        rw [this] at hw
        simp only [Bool.false_eq_true, if_false] at hw
        omega
theorem renew_is {L L' : List Ls} {g : Ls} {vip first dip t : Int} {z : Int} (h : renewL L vip first dip t = (L', g, z)) (hz : z = 0) :
    OkTm t ∧ OkL L ∧ g = ⟨vip, first, dip, t + 64⟩ ∧ L' = withL g L ∧ ∃ y ∈ L, y.vip = vip ∧ y.first = first ∧ y.dip = dip ∧ t ≤ y.exp := by
  unfold renewL at h
  split at h
  · rename_i hc
    split at h
    · rename_i ha
      simp only [Prod.mk.injEq] at h
      obtain ⟨h1, h2, _⟩ := h
      obtain ⟨y, hy, hp⟩ := List.any_eq_true.1 ha
      unfold isR livL at hp
      simp only [Bool.and_eq_true, decide_eq_true_iff] at hp
      exact ⟨hc.1, hc.2, h2.symm, by rw [← h2]; exact h1.symm, y, hy, hp.1, hp.2.1, hp.2.2.1, hp.2.2.2⟩
    · simp only [Prod.mk.injEq] at h
      omega
  · simp only [Prod.mk.injEq] at h
    omega
theorem Alo.renewed {t : Int} {L G L' : List Ls} {g x : Ls} {z : Int} (h : Alo t L G) (ht : t ≤ 1099511627776) (hx : x ∈ G) (hg : renewL L x.vip x.first x.dip t = (L', g, z)) :
    (t ≤ x.exp → z = 0) ∧ (z = 0 → Alo t L' (G ++ [g])) := by
  constructor
  · intro hl
    obtain ⟨y, hy, y1, y2, y3, y4⟩ := h.has x hx hl
    unfold renewL at hg
    rw [if_pos ⟨⟨h.t0, ht⟩, h.ok⟩, if_pos (List.any_eq_true.2 ⟨y, hy, by unfold isR livL; simp only [Bool.and_eq_true, decide_eq_true_iff]; omega⟩)] at hg
    simp only [Prod.mk.injEq] at hg
    exact hg.2.2.symm
  · intro hz
    obtain ⟨h1, h2, rfl, rfl, y0, hy0, q1, q2, q3, q4⟩ := renew_is hg hz
    have hxg := h.good x hx
    have hgd : GoodL ⟨x.vip, x.first, x.dip, t + 64⟩ := ⟨hxg.1, hxg.2.1, hxg.2.2.1, by show 0 ≤ t + 64; have := h1.1; omega, by show t + 64 ≤ 1099511627840; omega⟩
    refine ⟨h2.with hgd, h.t0, fun x2 hx2 hl => ?_, fun x2 hx2 => ?_, fun x2 hx2 => ?_, fun d => ?_⟩
    · rw [List.mem_append, List.mem_singleton] at hx2
      rcases hx2 with hx2 | hx2
      · obtain ⟨y, hy, y1, y2, y3, y4⟩ := h.has x2 hx2 hl
        cases hs : sameK y ⟨x.vip, x.first, x.dip, t + 64⟩ with
        | false => exact ⟨y, mem_with.2 (.inr ⟨hy, hs⟩), y1, y2, y3, y4⟩
        | true =>
          have h6 := sameK_iff.1 hs
          have h7 : y = y0 := h.ok.one hy hy0 ⟨by rw [h6.1, q1], by rw [h6.2, q2]⟩
          have h8 := h.top x2 hx2
          refine ⟨_, mem_with.2 (.inl rfl), ?_, ?_, ?_, ?_⟩
          · show x.vip = x2.vip
            rw [← y1, h7, q1]
          · show x.first = x2.first
            rw [← y2, h7, q2]
          · show x.dip = x2.dip
            rw [← y3, h7, q3]
          · show x2.exp ≤ t + 64
            exact h8
      · exact ⟨_, mem_with.2 (.inl rfl), by rw [hx2], by rw [hx2], by rw [hx2], by rw [hx2]; exact Int.le_refl _⟩
    · rw [List.mem_append, List.mem_singleton] at hx2
      rcases hx2 with hx2 | hx2
      · exact h.good x2 hx2
      · rw [hx2]; exact hgd
    · rw [List.mem_append, List.mem_singleton] at hx2
      rcases hx2 with hx2 | hx2
      · exact h.top x2 hx2
      · rw [hx2]; exact Int.le_refl _
    · have hw := with_count (isO d t) ⟨x.vip, x.first, x.dip, t + 64⟩ L
      rw [ofL_len]
      have hd := h.few d
      rw [ofL_len] at hd
      by_cases hdd : x.dip = d
      · have hpos : 0 < L.countP (fun y => isO d t y && sameK y ⟨x.vip, x.first, x.dip, t + 64⟩) := by
          rw [List.countP_pos_iff]
          refine ⟨y0, hy0, ?_⟩
          unfold isO livL sameK
          simp only [Bool.and_eq_true, decide_eq_true_iff]
          exact ⟨⟨by omega, q4⟩, q1, q2⟩
        split at hw <;> omega
      · have : isO d t ⟨x.vip, x.first, x.dip, t + 64⟩ = false := by
          unfold isO
          rw [decide_eq_false hdd]
          rfl
        rw [this] at hw
        simp only [Bool.false_eq_true, if_false] at hw
        omega
/-- A grant changes nothing of other vips. -/
theorem with_find {x : Ls} {l : List Ls} (h : OkL l) {vip port now : Int} (hv : x.vip ≠ vip) : findL vip port now (withL x l) = findL vip port now l := by
  have h1 : ∀ m : List Ls, findL vip port now m = (m.filter (fun y => decide (y.vip = vip))).find? (isF vip port now) := by
    intro m
    unfold findL
    induction m with
    | nil => rfl
    | cons a m ih =>
      by_cases ha : a.vip = vip
      · rw [List.filter_cons_of_pos (by simpa using ha), List.find?_cons, List.find?_cons, ih]
      · have : isF vip port now a = false := by unfold isF; rw [decide_eq_false ha]; rfl
        rw [List.filter_cons_of_neg (by simpa using ha), List.find?_cons, this]
        exact ih
  rw [h1, h1 l]
  congr 1
  unfold withL
  rw [List.filter_append, List.filter_cons_of_neg (by simpa using hv), ← List.filter_append]
  have hp := h.2
  clear h h1
  induction l with
  | nil => rfl
  | cons a l ih =>
    have hp' := List.pairwise_cons.1 hp
    have ih := ih hp'.2
    by_cases ha : a.vip = vip
    · rcases Int.lt_trichotomy a.vip x.vip with q | q | q
      · have l1 : ltL a x = true := ltL_iff.2 (.inl q)
        have l2 : ltL x a = false := by unfold ltL; exact decide_eq_false (by omega)
        rw [List.filter_cons_of_pos (p := fun y => ltL y x) l1, List.filter_cons_of_neg (p := fun y => ltL x y) (by simp [l2]), List.cons_append, List.filter_cons_of_pos (by simpa using ha), List.filter_cons_of_pos (by simpa using ha), ih]
      · omega
      · have l1 : ltL x a = true := ltL_iff.2 (.inl q)
        have l2 : ltL a x = false := by unfold ltL; exact decide_eq_false (by omega)
        have l3 : l.filter (fun y => ltL y x) = [] := List.filter_eq_nil_iff.2 (fun b hb hbx => by
          have := ltL_tr (hp'.1 b hb) hbx
          rw [l2] at this
          cases this)
        rw [l3] at ih
        rw [List.filter_cons_of_neg (p := fun y => ltL y x) (by simp [l2]), List.filter_cons_of_pos (p := fun y => ltL x y) l1, l3, List.nil_append, List.filter_cons_of_pos (by simpa using ha), List.filter_cons_of_pos (by simpa using ha)]
        rw [List.nil_append] at ih
        rw [ih]
    · have e1 : (a :: l).filter (fun y : Ls => decide (y.vip = vip)) = l.filter (fun y : Ls => decide (y.vip = vip)) := List.filter_cons_of_neg (by simpa using ha)
      rw [e1, ← ih, List.filter_append, List.filter_append, List.filter_filter, List.filter_filter, List.filter_filter, List.filter_filter, List.filter_cons_of_neg (by simp [ha]), List.filter_cons_of_neg (by simp [ha])]
end Go.Proofs.YtanajblldlgalaaDoor
