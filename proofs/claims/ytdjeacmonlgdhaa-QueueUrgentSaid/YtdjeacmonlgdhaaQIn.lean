/- How the program's queue and lanes lie in memory. No conditions. -/
import Derived.Test.YtdjeacmonlgdhaaTch
import Derived.Test.YtdjeacmonlgdhaaChA
namespace Go.Proofs.Ytdjeacmonlgdhaa
open Go Go.RowKit
set_option linter.unusedVariables false
set_option linter.unusedSimpArgs false

/-- A queue: a cell that holds a channel, and the channel. -/
def Inn (w : World) (F : Nat → Prop) (q size : Nat) (vs : List Value) : Prop :=
  ∃ c s r, (∀ k, F k ↔ k = q ∨ k = c) ∧ w.cell? ⟨q, 0, none⟩ = some (.chan (some c)) ∧ w.heap[c]? = some (.chan size vs.toArray false s r false)
theorem Inn.keep {T : Nat → Prop} {w w' : World} {F : Nat → Prop} {q size : Nat} {vs : List Value} (h : Inn w F q size vs) (ht : Tch T w w') (hf : ∀ k, F k → ¬ T k) : Inn w' F q size vs := by
  obtain ⟨c, s, r, hF, h1, h2⟩ := h
  exact ⟨c, s, r, hF, ht.cell h1 (hf q ((hF q).2 (.inl rfl))), ht.at h2 (hf c ((hF c).2 (.inr rfl)))⟩
end Go.Proofs.Ytdjeacmonlgdhaa
