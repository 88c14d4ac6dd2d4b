/- Sum of one row and of two. Conditions: the rows hold bytes, at most 2^32 of them. -/
import Derived.Test.YtfbmeoiaedlgoaaRow
namespace Go.Proofs.Ytfbmeoiaedlgoaa
open Go Go.RowKit
set_option linter.unusedVariables false
set_option linter.unusedSimpArgs false

theorem sum1 {W : World} {u : Value} {p : List Int} (h : At W u p) (hf : fit p) (hl : p.length ≤ 4294967296) (n : Nat) (hn : n = W.heap.size) :
    Calls Try.prog 45 #[.slice (some ⟨n, 0, none⟩) 1 1] (W.alloc (.cells #[u] 24)) fun e w' => e = .returned (.int .u16 (65535 - car (ws p))) ∧ (W.alloc (.cells #[u] 24)) = w' := by
  have H := sum_any [p] _ _ (Parts.one h 24 n hn) (by simpa using hf) (by simpa using hl) (by simp)
  rw [show [p].flatten = p by simp] at H
  exact H
theorem sum2 {W : World} {u v : Value} {p q : List Int} (h : At W u p) (h' : At W v q) (hf : fit p) (hf' : fit q) (hl : p.length + q.length ≤ 4294967296) (n : Nat) (hn : n = W.heap.size) :
    Calls Try.prog 45 #[.slice (some ⟨n, 0, none⟩) 2 2] (W.alloc (.cells #[u, v] 24)) fun e w' => e = .returned (.int .u16 (65535 - car (ws (p ++ q)))) ∧ (W.alloc (.cells #[u, v] 24)) = w' := by
  have H := sum_any [p, q] _ _ (Parts.two h h' 24 n hn) (by simpa using fit_app hf hf') (by simpa using hl) (by simp)
  rw [show [p, q].flatten = p ++ q by simp] at H
  exact H
end Go.Proofs.Ytfbmeoiaedlgoaa
