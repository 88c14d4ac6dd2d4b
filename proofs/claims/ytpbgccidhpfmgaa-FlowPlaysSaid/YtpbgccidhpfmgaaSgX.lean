/- One round of pdqsort_func, plainly; contracts of sort.breakPatterns_func and sort.reverseRange_func in the worlds of a sort. Conditions: as stated. -/
import Derived.Test.YtpbgccidhpfmgaaSgA
import Derived.Test.YtpbgccidhpfmgaaShg
import Derived.Sort.Walk13
namespace Go.Proofs.Ytpbgccidhpfmgaa
open Go Go.RowKit Go.Sort
set_option linter.unusedVariables false
set_option linter.unusedSimpArgs false

section
variable {α : Type} [Inhabited α]
/-- What holds of a round's values. -/
structure RdF (lt : α → α → Bool) (d : Array α) (a b lim : Nat) (wb wp : Bool) (R : Rd α) : Prop where
  s1 : R.d1.size = d.size
  s2 : R.d2.size = d.size
  s3 : R.pi.1.size = d.size
  c : a ≤ R.c.1 ∧ R.c.1 < b
  p : a ≤ R.pivot ∧ R.pivot < b
  limle : R.lim ≤ lim
  bf : wb = false → R.d1 = breakPatterns d a b ∧ R.lim = lim - 1
  bt : wb = true → R.d1 = d ∧ R.lim = lim
  cc : R.c = choosePivot lt R.d1 a b
  dec : R.c.2 = .decreasing → R.d2 = reverseRange R.d1 a b ∧ R.pivot = (b - 1) - (R.c.1 - a) ∧ R.hint = .increasing
  ndec : R.c.2 ≠ .decreasing → R.d2 = R.d1 ∧ R.pivot = R.c.1 ∧ R.hint = R.c.2
  piY : (wb && wp && decide (R.hint = .increasing)) = true → R.pi = partialInsertionSort lt R.d2 a b
  piN : (wb && wp && decide (R.hint = .increasing)) = false → R.pi = (R.d2, false)
  done : R.pi.2 = true → pdq lt d a b lim wb wp = R.pi.1
  eqE : R.pi.2 = false → (decide (a > 0) && !lt R.pi.1[a - 1]! R.pi.1[R.pivot]!) = true → ∀ mid d4, partitionEqual lt R.pi.1 a b R.pivot = (mid, d4) →
    a < mid ∧ mid ≤ b ∧ Go.Sort.Below lt mid b d4 ∧ pdq lt d a b lim wb wp = pdq lt d4 mid b R.lim wb wp
  part : R.pi.2 = false → (decide (a > 0) && !lt R.pi.1[a - 1]! R.pi.1[R.pivot]!) = false → ∀ mid ap d4, partition lt R.pi.1 a b R.pivot = (mid, ap, d4) →
    a ≤ mid ∧ mid < b ∧ Go.Sort.Below lt a mid d4 ∧ Go.Sort.Below lt (mid + 1) b d4 ∧
    (mid - a < b - mid → Go.Sort.Below lt (mid + 1) b (pdq lt d4 a mid R.lim true true) ∧ pdq lt d a b lim wb wp = pdq lt (pdq lt d4 a mid R.lim true true) (mid + 1) b R.lim (decide (mid - a ≥ (b - a) / 8)) ap) ∧
    (¬ mid - a < b - mid → Go.Sort.Below lt a mid (pdq lt d4 (mid + 1) b R.lim true true) ∧ pdq lt d a b lim wb wp = pdq lt (pdq lt d4 (mid + 1) b R.lim true true) a mid R.lim (decide (b - mid ≥ (b - a) / 8)) ap)
theorem rdF {lt : α → α → Bool} (hO : SWO lt) {d : Array α} {a b lim : Nat} (wb wp : Bool) (hab : a < b) (hb : b ≤ d.size) (hB : Go.Sort.Below lt a b d) (h12 : ¬ b - a ≤ 12) (hl0 : ¬ lim = 0) : RdF lt d a b lim wb wp (rd lt d a b lim wb wp) := by
  obtain ⟨s1, B1, hc, s2, B2, hp, s3, B3⟩ := rd_facts (lt := lt) (limit := lim) (wb := wb) (wp := wp) hO partialInsertionSort_holds reverseRange_holds hab hb hB
  refine ⟨s1, s2, s3, hc, hp, rd_lim_le, fun h => by subst h; exact rd_false, fun h => by subst h; exact rd_true, rd_c, fun h => rd_dec h, fun h => rd_not h, fun h => rd_pi_yes h, fun h => rd_pi_no h, fun h => pdq_done h12 hl0 h, fun hp2 h87 mid d4 hx => ?_, fun hp2 h87 mid ap d4 hx => ?_⟩
  · have h87' := h87
    simp only [Bool.and_eq_true, decide_eq_true_eq, Bool.not_eq_true'] at h87'
    obtain ⟨r1, r2, _, r4, _⟩ := round_eq hO (partitionEqual_holds lt) h87'.1 hp.1 hp.2 (by omega) B3 h87'.2 hx
    exact ⟨r1, r2, r4, by rw [pdq_eq h12 hl0 hp2 h87 (by rw [hx]; exact ⟨r1, r2⟩), hx]⟩
  · obtain ⟨r1, r2, r3, r4, r5, r6, r7⟩ := round_part hO (partition_holds lt) hp.1 hp.2 (by omega) B3 hx
    refine ⟨r1, r2, r4, r5, fun h4 => ?_, fun h4 => ?_⟩
    · obtain ⟨pL, sL⟩ := pdq_sorts lt hO d4 a mid (rd lt d a b lim wb wp).lim true true (by omega) (by omega) r4
      exact ⟨(r6 _ pL sL).1, by rw [pdq_left h12 hl0 hp2 h87 (by rw [hx]; exact ⟨r1, r2⟩) (by rw [hx]; exact h4), hx]⟩
    · obtain ⟨pL, sL⟩ := pdq_sorts lt hO d4 (mid + 1) b (rd lt d a b lim wb wp).lim true true (by omega) (by omega) r5
      exact ⟨(r7 _ pL sL).1, by rw [pdq_right h12 hl0 hp2 h87 (by rw [hx]; exact ⟨r1, r2⟩) (by rw [hx]; exact h4), hx]⟩
end
section
variable {α : Type} [Inhabited α] {enc : α → List Value} {k : Nat} {lt : α → α → Bool} {g : Nat} {lb : Array Value} {sf : Nat} {sb : Array Value} {blk n : Nat} {w0 : World} {d0 : Array α}
theorem tch_sw (enc : α → List Value) (k : Nat) (W : World) (blk n : Nat) (d : Array α) (os : Array Obj) : Tch (· = blk) W (sortWorldK enc k W blk 0 n d os) := by
  refine ⟨rfl, rfl, rfl, ?_, fun b hb hn => ?_⟩
  · unfold sortWorldK
    rw [size_grow, size_putRowK]
    exact Nat.le_add_right _ _
  · unfold sortWorldK
    rw [heap_grow_old _ _ (by rw [size_putRowK]; exact hb)]
    show (Array.modify _ blk _)[b]? = _
    rw [Array.getElem?_modify, if_neg (fun e => hn e.symm)]
    rfl
theorem sgo_of (S : Sgt enc k lt g lb sf sb blk n w0 d0) {d d' : Array α} {w w' : World} (hw : SWK enc k w0 blk 0 d w) (hl : d.size = n) (hl' : d'.size = n) (h : ∃ m os, w' = sortWorldK enc k w blk 0 m d' os) : Sgo enc k blk n w0 w d' w' := by
  obtain ⟨m, os, rfl⟩ := h
  exact ⟨hw.on S.inb m d' os (hl'.trans hl.symm), hl', tch_sw _ _ _ _ _ _ _⟩
theorem brk_g (S : Sgt enc k lt g lb sf sb blk n w0 d0) (a b : Nat) (d : Array α) (w : World) (hw : SWK enc k w0 blk 0 d w) (hl : d.size = n) (hab : a ≤ b) (hb : b ≤ n) (hl' : (breakPatterns d a b).size = n) :
    Calls Try.prog 115 #[.agg #[.func (.func g) #[] lb, .func (.func sf) #[] sb], .int .i64 a, .int .i64 b] w fun e w' => e = .returned (.tuple #[]) ∧ Sgo enc k blk n w0 w (breakPatterns d a b) w' :=
  (Any.breakPatterns_func_cells_w (P := Try.prog) (ρ := Try.slc_ren) { Try.slc with } enc k S.hk (.func g) #[] lb sf sb blk 0 a b d w (by rw [hl]; exact S.swap) (hw.holds S.inb S.holds (hl.trans S.len.symm)) (hw.lt S.inb) hab (by omega) (by have := S.sz; omega)).mono fun e w' h => ⟨h.1, sgo_of S hw hl hl' h.2⟩
theorem rev_g (S : Sgt enc k lt g lb sf sb blk n w0 d0) (a b : Nat) (d : Array α) (w : World) (hw : SWK enc k w0 blk 0 d w) (hl : d.size = n) (hab : a ≤ b) (hb : b ≤ n) (hl' : (reverseRange d a b).size = n) :
    Calls Try.prog 117 #[.agg #[.func (.func g) #[] lb, .func (.func sf) #[] sb], .int .i64 a, .int .i64 b] w fun e w' => e = .returned (.tuple #[]) ∧ Sgo enc k blk n w0 w (reverseRange d a b) w' :=
  (Any.reverseRange_func_cells_w (P := Try.prog) (ρ := Try.slc_ren) { Try.slc with } enc k S.hk (.func g) #[] lb sf sb blk 0 a b d w (by rw [hl]; exact S.swap) (hw.holds S.inb S.holds (hl.trans S.len.symm)) (hw.lt S.inb) hab (by omega) (by have := S.sz; omega)).mono fun e w' h => ⟨h.1, sgo_of S hw hl hl' h.2⟩
end
end Go.Proofs.Ytpbgccidhpfmgaa
