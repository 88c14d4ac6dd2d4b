/- Numbers as bytes, and back. No conditions but those stated. -/
import Derived.Test.YtlmkmbpikhagiaaRow
namespace Go.Proofs.Ytlmkmbpikhagiaa
open Go Go.RowKit
set_option linter.unusedVariables false
set_option linter.unusedSimpArgs false

def b2 (n : Int) : List Int := [n / 256 % 256, n % 256]
def b4 (n : Int) : List Int := [n / 16777216 % 256, n / 65536 % 256, n / 256 % 256, n % 256]
theorem fit_nil : fit [] := by intro b hb; cases hb
theorem fit_cons {x : Int} {l : List Int} (hx : 0 ≤ x ∧ x < 256) (h : fit l) : fit (x :: l) := by
  intro b hb
  rcases List.mem_cons.1 hb with rfl | hb
  · exact hx
  · exact h b hb
theorem fit_b2 (n : Int) : fit (b2 n) := fit_cons (by omega) (fit_cons (by omega) fit_nil)
theorem fit_b4 (n : Int) : fit (b4 n) := fit_cons (by omega) (fit_cons (by omega) (fit_cons (by omega) (fit_cons (by omega) fit_nil)))
/-- Numbers in bytes. -/
def n2 (b : List Int) (i : Nat) : Int := 256 * b.getD i 0 + b.getD (i + 1) 0
def n4 (b : List Int) (i : Nat) : Int := 16777216 * b.getD i 0 + 65536 * b.getD (i + 1) 0 + 256 * b.getD (i + 2) 0 + b.getD (i + 3) 0
theorem two_back {n : Int} (h : 0 ≤ n ∧ n ≤ 65535) : 256 * (n / 256 % 256) + n % 256 = n := by omega
theorem four_back {n : Int} (h : 0 ≤ n ∧ n < 4294967296) : 16777216 * (n / 16777216 % 256) + 65536 * (n / 65536 % 256) + 256 * (n / 256 % 256) + n % 256 = n := by omega
theorem one_back {n : Int} (h : 0 ≤ n ∧ n ≤ 255) : n % 256 = n := by omega
theorem getD_fit {b : List Int} (hf : fit b) (i : Nat) : 0 ≤ b.getD i 0 ∧ b.getD i 0 < 256 := by
  by_cases h : i < b.length
  · exact fit_at hf h
  · rw [List.getD_eq_getElem?_getD, List.getElem?_eq_none (by omega)]
    decide
/-- A number in so many bytes. -/
def be (size : Nat) (n : Int) : List Int := (List.range size).map fun j => n / (256 : Int) ^ (size - 1 - j) % 256
theorem be_len (size : Nat) (n : Int) : (be size n).length = size := by simp [be]
theorem be_fit (size : Nat) (n : Int) : fit (be size n) := by
  intro b hb
  obtain ⟨j, _, rfl⟩ := List.mem_map.1 hb
  omega
theorem be_at {size j : Nat} (n : Int) (hj : j < size) : (be size n).getD j 0 = n / (256 : Int) ^ (size - 1 - j) % 256 := by
  rw [List.getD_eq_getElem?_getD, List.getElem?_eq_getElem (by rw [be_len]; exact hj)]
  simp [be]
theorem be1 (n : Int) : be 1 n = [n % 256] := by simp [be]
theorem be2 (n : Int) : be 2 n = b2 n := by simp [be, b2, List.range_succ]
theorem be4 (n : Int) : be 4 n = b4 n := by
  simp [be, b4, List.range_succ]
def b8 (n : Int) : List Int := [n / 72057594037927936 % 256, n / 281474976710656 % 256, n / 1099511627776 % 256, n / 4294967296 % 256, n / 16777216 % 256, n / 65536 % 256, n / 256 % 256, n % 256]
theorem fit_b8 (n : Int) : fit (b8 n) := fit_cons (by omega) (fit_cons (by omega) (fit_cons (by omega) (fit_cons (by omega) (fit_cons (by omega) (fit_cons (by omega) (fit_cons (by omega) (fit_cons (by omega) fit_nil)))))))
theorem b8_len (n : Int) : (b8 n).length = 8 := rfl
theorem be8 (n : Int) : be 8 n = b8 n := by simp [be, b8, List.range_succ]
theorem b8_wrap (n : Int) : b8 (n % 18446744073709551616) = b8 n := by
  unfold b8
  simp only [List.cons.injEq, and_true]
  refine ⟨?_, ?_, ?_, ?_, ?_, ?_, ?_, ?_⟩ <;> omega
/-- Eight bytes at a place, as a number. -/
def n8 (b : List Int) (i : Nat) : Int := 72057594037927936 * b.getD i 0 + 281474976710656 * b.getD (i + 1) 0 + 1099511627776 * b.getD (i + 2) 0 + 4294967296 * b.getD (i + 3) 0 + 16777216 * b.getD (i + 4) 0 + 65536 * b.getD (i + 5) 0 + 256 * b.getD (i + 6) 0 + b.getD (i + 7) 0
/-- In two's complement. -/
def sg (u : Int) : Int := if 9223372036854775808 ≤ u then u - 18446744073709551616 else u
theorem eight_back (n : Int) : 72057594037927936 * (n / 72057594037927936 % 256) + 281474976710656 * (n / 281474976710656 % 256) + 1099511627776 * (n / 1099511627776 % 256) + 4294967296 * (n / 4294967296 % 256) + 16777216 * (n / 16777216 % 256) + 65536 * (n / 65536 % 256) + 256 * (n / 256 % 256) + n % 256 = n % 18446744073709551616 := by omega
theorem sg_back {n : Int} (h : -9223372036854775808 ≤ n ∧ n < 9223372036854775808) : sg (n % 18446744073709551616) = n := by
  unfold sg
  split <;> omega
theorem sg_bound {u : Int} (h : 0 ≤ u ∧ u < 18446744073709551616) : -9223372036854775808 ≤ sg u ∧ sg u < 9223372036854775808 := by
  unfold sg
  split <;> omega
end Go.Proofs.Ytlmkmbpikhagiaa
