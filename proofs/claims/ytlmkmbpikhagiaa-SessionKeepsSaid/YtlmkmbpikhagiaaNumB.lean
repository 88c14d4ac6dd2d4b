/- Contracts of towpathnum's Copy and Kept: a row with two marks behind it; that it is still the same. Conditions: the row came in; at most 2^47 - 4096 bytes. -/
import Derived.Test.YtlmkmbpikhagiaaRow
import Derived.Laws.BytesArg
namespace Go.Proofs.Ytlmkmbpikhagiaa
open Go Go.RowKit
set_option linter.unusedVariables false
set_option linter.unusedSimpArgs false

theorem str_of {w : World} {a : Option Addr} {n cap : Nat} {l : List Int} (h : At w (.slice a n cap) l) (hn : l.length = n) : (convert 38 9 (.slice a n cap)).run Try.prog w = .ok (.string (strOfNums l)) w := by
  obtain ⟨a', cap', e, hA⟩ := h
  cases e
  rcases hA with rfl | ⟨b, off, rfl, hc⟩
  · cases a with
    | none =>
      rw [run_convert_bytes_nil w 38 5 Try.underlying38 Try.underlying5 _ _ 9 Try.underlying9]
      rfl
    | some ad =>
      rw [run_convert_bytes_string w 38 9 5 _ _ _ Try.underlying38 Try.underlying5 Try.underlying9, run_bytesToString w ad _ cap [] (by simp [go_sem, loadCells, loadCellsFrom])]
      rfl
  · exact run_convert_bytes_arg w 38 5 Try.underlying38 Try.underlying5 b off _ _ l rfl hc 9 Try.underlying9

end Go.Proofs.Ytlmkmbpikhagiaa
