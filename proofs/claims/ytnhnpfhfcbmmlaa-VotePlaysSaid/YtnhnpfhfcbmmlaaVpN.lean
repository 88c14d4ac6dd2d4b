/- Num of the errors 3 and 8. Conditions: none. -/
import Derived.Test.YtnhnpfhfcbmmlaaSbC
namespace Go.Proofs.Ytnhnpfhfcbmmlaa
open Go Go.RowKit
set_option linter.unusedVariables false
set_option linter.unusedSimpArgs false

theorem num3_t (w : World) : Calls Try.prog 19 #[errnoF 3] w fun e w' => e = .returned (.int .i64 3) ∧ w = w' := by
  have ta : ∀ w : World, (Instr.typeAssert (errnoF 3) 28 51 true).run Try.prog w = .ok (.tuple #[.int .i64 3, .bool true]) w := fun _ => by kernel_rfl
  go_enter Try.func19, Try.ntmps19
  go_wp2
  go_ret
  exact ⟨rfl, rfl⟩
theorem num8_t (w : World) : Calls Try.prog 19 #[errnoF 8] w fun e w' => e = .returned (.int .i64 8) ∧ w = w' := by
  have ta : ∀ w : World, (Instr.typeAssert (errnoF 8) 28 51 true).run Try.prog w = .ok (.tuple #[.int .i64 8, .bool true]) w := fun _ => by kernel_rfl
  go_enter Try.func19, Try.ntmps19
  go_wp2
  go_ret
  exact ⟨rfl, rfl⟩
end Go.Proofs.Ytnhnpfhfcbmmlaa
