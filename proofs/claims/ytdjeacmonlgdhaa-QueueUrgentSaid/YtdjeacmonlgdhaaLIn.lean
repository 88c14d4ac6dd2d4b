/- How the program's lanes lie in memory. No conditions. -/
import Derived.Test.YtdjeacmonlgdhaaQIn
namespace Go.Proofs.Ytdjeacmonlgdhaa
open Go Go.RowKit
set_option linter.unusedVariables false
set_option linter.unusedSimpArgs false

/-- Lanes: two pointers to queues that share no block. -/
def InL (w : World) (F : Nat → Prop) (l size : Nat) (us vs : List Value) : Prop :=
  ∃ p q F1 F2, (∀ k, F k ↔ k = l ∨ F1 k ∨ F2 k) ∧ (∀ k, F1 k → k ≠ l ∧ ¬ F2 k) ∧ (∀ k, F2 k → k ≠ l) ∧ w.cell? ⟨l, 0, none⟩ = some (.pointer (some ⟨p, 0, none⟩)) ∧ w.cell? ⟨l, 1, none⟩ = some (.pointer (some ⟨q, 0, none⟩)) ∧ Inn w F1 p size us ∧ Inn w F2 q size vs
theorem InL.keep {T : Nat → Prop} {w w' : World} {F : Nat → Prop} {l size : Nat} {us vs : List Value} (h : InL w F l size us vs) (ht : Tch T w w') (hf : ∀ k, F k → ¬ T k) : InL w' F l size us vs := by
  obtain ⟨p, q, F1, F2, hF, d1, d2, h0, h1, i1, i2⟩ := h
  exact ⟨p, q, F1, F2, hF, d1, d2, ht.cell h0 (hf l ((hF l).2 (.inl rfl))), ht.cell h1 (hf l ((hF l).2 (.inl rfl))), i1.keep ht (fun k hk => hf k ((hF k).2 (.inr (.inl hk)))), i2.keep ht (fun k hk => hf k ((hF k).2 (.inr (.inr hk))))⟩
end Go.Proofs.Ytdjeacmonlgdhaa
