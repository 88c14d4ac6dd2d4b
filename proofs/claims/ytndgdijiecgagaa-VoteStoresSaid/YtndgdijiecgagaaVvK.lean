/- What Write and the document's Write come to, in one form. Conditions: those stated. -/
import Derived.Test.YtndgdijiecgagaaVuC
import Derived.Test.YtndgdijiecgagaaNumA
namespace Go.Proofs.Ytndgdijiecgagaa
open Go Go.RowKit
set_option linter.unusedVariables false
set_option linter.unusedSimpArgs false

theorem nine_eq (w : World) : (binOp .eql 28 (errnoF 9) .nilIface).run Try.prog w = .ok (.bool false) w := by kernel_rfl
theorem nil_eq (w : World) : (binOp .eql 28 .nilIface .nilIface).run Try.prog w = .ok (.bool true) w := by kernel_rfl
def fL (ls : List Cm) : Int := if GoodL ls then 0 else 9
def bL (ls : List Cm) : List Int := if GoodL ls then bytesL ls else []
theorem fit_bL (ls : List Cm) : fit (bL ls) := by
  unfold bL
  by_cases h : GoodL ls
  · rw [if_pos h]; exact fit_bytesL ls
  · rw [if_neg h]; exact fit_nil
theorem GotW.both {w w' : World} {ls : List Cm} {e : Ending} (h : GotW w ls e w') : ∃ ab kb cb, e = .returned (.tuple #[.slice ab kb cb, errF (fL ls)]) ∧ In w' ab kb cb (bL ls) := by
  by_cases hg : GoodL ls
  · obtain ⟨ao, c, e, ho⟩ := h.yes hg
    have e1 : bL ls = bytesL ls := if_pos hg
    have e2 : fL ls = 0 := if_pos hg
    rw [e1, e2]
    exact ⟨ao, _, c, e, own_in ho rfl (fit_bytesL ls)⟩
  · have e1 : bL ls = [] := if_neg hg
    have e2 : fL ls = 9 := if_neg hg
    rw [e1, e2]
    exact ⟨none, 0, 0, h.no hg, in_nil _⟩
theorem GotWR.both {w w' : World} {ls : List Cm} {e : Ending} (h : GotWR w ls e w') : ∃ ab kb cb, e = .returned (.tuple #[.slice ab kb cb, .int .i64 (fL ls)]) ∧ In w' ab kb cb (bL ls) := by
  by_cases hg : GoodL ls
  · obtain ⟨ao, c, e, ho⟩ := h.yes hg
    have e1 : bL ls = bytesL ls := if_pos hg
    have e2 : fL ls = 0 := if_pos hg
    rw [e1, e2]
    exact ⟨ao, _, c, e, own_in ho rfl (fit_bytesL ls)⟩
  · have e1 : bL ls = [] := if_neg hg
    have e2 : fL ls = 9 := if_neg hg
    rw [e1, e2]
    exact ⟨none, 0, 0, h.no hg, in_nil _⟩
theorem fL_or (ls : List Cm) : fL ls = 0 ∧ GoodL ls ∨ fL ls = 9 := by
  unfold fL
  by_cases h : GoodL ls
  · exact .inl ⟨if_pos h, h⟩
  · exact .inr (if_neg h)
end Go.Proofs.Ytndgdijiecgagaa
