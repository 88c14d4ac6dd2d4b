/- From the guide's word for a row that came in to a row of bytes that came in. No conditions. -/
import Derived.Test.YtjmpmegodhglcaaB5
import Derived.Test.YtjmpmegodhglcaaC1
namespace Go.Proofs.Ytjmpmegodhglcaa
open Go Go.RowKit

theorem in_of_row {w : World} {a : Option Addr} {len cap : Nat} {zs : List Int} (h : (a = none ∧ len = 0 ∧ cap = 0 ∧ zs = []) ∨ ∃ x, a = some x ∧ len ≤ cap ∧ cap ≤ maxLen ∧ zs.length = cap ∧ (∀ i, i < zs.length → w.cell? (x.add i) = some (.int .u8 (zs.getD i 0))) ∧ ∀ n ∈ zs, (Lit.int .u8 n).wf = true) :
    ∃ l : List Int, In w a len cap l ∧ len ≤ maxLen := by
  obtain ⟨l, hA, hf, hn, hm, _⟩ := at_of_row h
  rcases h with ⟨rfl, rfl, rfl, rfl⟩ | ⟨x, rfl, h1, h2, _⟩
  · exact ⟨l, ⟨hn, Nat.le_refl _, fun _ => rfl, hA, hf⟩, by simp⟩
  · exact ⟨l, ⟨hn, h1, fun e => (by cases e), hA, hf⟩, by omega⟩
end Go.Proofs.Ytjmpmegodhglcaa
