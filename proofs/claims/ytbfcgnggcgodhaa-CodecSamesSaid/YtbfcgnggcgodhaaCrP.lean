/- Plain facts of CRC-32: its register tells every change of one byte. No conditions but those stated. -/
import Derived.Test.YtbfcgnggcgodhaaProg
namespace Go.Proofs.Ytbfcgnggcgodhaa
open Go
set_option linter.unusedVariables false
set_option linter.unusedSimpArgs false

/-- One shift of CRC-32's register, and the way back. -/
def st (x : Nat) : Nat := if x % 2 = 1 then (x / 2) ^^^ 3988292384 else x / 2
def un (y : Nat) : Nat := if 2147483648 ≤ y then 2 * (y ^^^ 3988292384) + 1 else 2 * y
theorem st_lt {x : Nat} (h : x < 4294967296) : st x < 4294967296 := by
  unfold st
  split
  · exact Nat.xor_lt_two_pow (n := 32) (by omega) (by decide)
  · omega
theorem un_st {x : Nat} (h : x < 4294967296) : un (st x) = x := by
  unfold st
  split
  · rename_i h1
    have hge : 2147483648 ≤ (x / 2) ^^^ 3988292384 := by
      apply Decidable.byContradiction
      intro hc
      have hlt := Nat.xor_lt_two_pow (n := 31) (x := (x / 2) ^^^ 3988292384) (y := x / 2) (by omega) (by omega)
      rw [Nat.xor_comm (x / 2), Nat.xor_assoc, Nat.xor_self, Nat.xor_zero] at hlt
      exact absurd hlt (by decide)
    unfold un
    rw [if_pos hge, Nat.xor_assoc, Nat.xor_self, Nat.xor_zero]
    omega
  · unfold un
    rw [if_neg (by omega)]
    omega
def st8 (x : Nat) : Nat := st (st (st (st (st (st (st (st x)))))))
theorem st_inj {x y : Nat} (hx : x < 4294967296) (hy : y < 4294967296) (h : st x = st y) : x = y := by rw [← un_st hx, ← un_st hy, h]
theorem st8_lt {x : Nat} (h : x < 4294967296) : st8 x < 4294967296 := st_lt (st_lt (st_lt (st_lt (st_lt (st_lt (st_lt (st_lt h)))))))
theorem st8_inj {x y : Nat} (hx : x < 4294967296) (hy : y < 4294967296) (h : st8 x = st8 y) : x = y := by
  unfold st8 at h
  iterate 8 (replace h := st_inj (by first | exact hx | exact st_lt hx | exact st_lt (st_lt hx) | exact st_lt (st_lt (st_lt hx)) | exact st_lt (st_lt (st_lt (st_lt hx))) | exact st_lt (st_lt (st_lt (st_lt (st_lt hx)))) | exact st_lt (st_lt (st_lt (st_lt (st_lt (st_lt hx))))) | exact st_lt (st_lt (st_lt (st_lt (st_lt (st_lt (st_lt hx))))))) (by first | exact hy | exact st_lt hy | exact st_lt (st_lt hy) | exact st_lt (st_lt (st_lt hy)) | exact st_lt (st_lt (st_lt (st_lt hy))) | exact st_lt (st_lt (st_lt (st_lt (st_lt hy)))) | exact st_lt (st_lt (st_lt (st_lt (st_lt (st_lt hy))))) | exact st_lt (st_lt (st_lt (st_lt (st_lt (st_lt (st_lt hy))))))) h)
  exact h
/-- Shifting goes through xor: so eight shifts may be looked up by the lowest byte. -/
theorem st_xor (x y : Nat) : st (x ^^^ y) = st x ^^^ st y := by
  have hd : (x ^^^ y) / 2 = x / 2 ^^^ y / 2 := Nat.xor_div_two
  have hm : (x ^^^ y) % 2 = (x + y) % 2 := by
    have h := Nat.xor_mod_two_pow (a := x) (b := y) (n := 1)
    rw [show (2 : Nat) ^ 1 = 2 by rfl] at h
    rw [h]
    have hx : x % 2 = 0 ∨ x % 2 = 1 := by omega
    have hy : y % 2 = 0 ∨ y % 2 = 1 := by omega
    rcases hx with hx | hx <;> rcases hy with hy | hy <;> rw [hx, hy] <;> simp <;> omega
  unfold st
  rw [hd, hm]
  by_cases hx : x % 2 = 1
  · by_cases hy : y % 2 = 1
    · rw [if_neg (by omega), if_pos hx, if_pos hy, Nat.xor_comm (y / 2), ← Nat.xor_assoc, Nat.xor_assoc (x / 2), Nat.xor_self, Nat.xor_zero]
    · rw [if_pos (by omega), if_pos hx, if_neg hy, Nat.xor_assoc, Nat.xor_comm (y / 2), Nat.xor_assoc]
  · by_cases hy : y % 2 = 1
    · rw [if_pos (by omega), if_neg hx, if_pos hy, Nat.xor_assoc]
    · rw [if_neg (by omega), if_neg hx, if_neg hy]
theorem st8_xor (x y : Nat) : st8 (x ^^^ y) = st8 x ^^^ st8 y := by
  unfold st8
  simp only [st_xor]
theorem st_even (z : Nat) : st (2 * z) = z := by
  unfold st
  rw [if_neg (by omega)]
  omega
theorem st8_high (z : Nat) : st8 (256 * z) = z := by
  unfold st8
  rw [show 256 * z = 2 * (2 * (2 * (2 * (2 * (2 * (2 * (2 * z))))))) by omega]
  simp only [st_even]
theorem byte_apart (x : Nat) : (x % 256) ^^^ (256 * (x / 256)) = x := by
  apply Nat.eq_of_testBit_eq
  intro i
  rw [Nat.testBit_xor, show (256 : Nat) = 2 ^ 8 by rfl, Nat.testBit_mod_two_pow, Nat.mul_comm, Nat.testBit_mul_two_pow, Nat.testBit_div_two_pow]
  by_cases h : i < 8
  · simp [h, show ¬ 8 ≤ i by omega]
  · simp [h, show 8 ≤ i by omega]
theorem st8_table (x : Nat) : st8 x = st8 (x % 256) ^^^ (x / 256) := by
  have e := st8_xor (x % 256) (256 * (x / 256))
  rw [byte_apart, st8_high] at e
  exact e
/-- The register behind one byte, and behind a row. -/
def crcB (r : Nat) (b : UInt8) : Nat := st8 (r ^^^ b.toNat)
def crcL (r : Nat) (l : List UInt8) : Nat := l.foldl crcB r
theorem mix_lt {r : Nat} (h : r < 4294967296) (b : UInt8) : r ^^^ b.toNat < 4294967296 := Nat.xor_lt_two_pow (n := 32) h (by have := UInt8.toNat_lt b; omega)
theorem xor_left {a b c : Nat} (h : a ^^^ c = b ^^^ c) : a = b := by
  have e : (a ^^^ c) ^^^ c = (b ^^^ c) ^^^ c := by rw [h]
  rwa [Nat.xor_assoc, Nat.xor_assoc, Nat.xor_self, Nat.xor_zero, Nat.xor_zero] at e
theorem crcB_lt {r : Nat} (h : r < 4294967296) (b : UInt8) : crcB r b < 4294967296 := st8_lt (mix_lt h b)
theorem crcL_lt : ∀ (l : List UInt8) {r : Nat}, r < 4294967296 → crcL r l < 4294967296
  | [], _, h => h
  | b :: l, _, h => crcL_lt l (crcB_lt h b)
theorem crcL_inj : ∀ (l : List UInt8) {r q : Nat}, r < 4294967296 → q < 4294967296 → crcL r l = crcL q l → r = q
  | [], _, _, _, _, h => h
  | b :: l, r, q, hr, hq, h => by
    have e := crcL_inj l (crcB_lt hr b) (crcB_lt hq b) h
    exact xor_left (st8_inj (mix_lt hr b) (mix_lt hq b) e)
theorem crcL_app (r : Nat) (l m : List UInt8) : crcL r (l ++ m) = crcL (crcL r l) m := List.foldl_append
/-- Every change of one byte is told. -/
theorem crc_slip {r : Nat} (hr : r < 4294967296) (l m : List UInt8) {b c : UInt8} (h : b ≠ c) : crcL r (l ++ b :: m) ≠ crcL r (l ++ c :: m) := by
  intro e
  rw [crcL_app, crcL_app] at e
  have hl := crcL_lt l hr
  have e1 := crcL_inj m (crcB_lt hl b) (crcB_lt hl c) e
  have e2 := st8_inj (mix_lt hl b) (mix_lt hl c) e1
  rw [Nat.xor_comm, Nat.xor_comm (crcL r l)] at e2
  exact h (UInt8.toNat_inj.1 (xor_left e2))
end Go.Proofs.Ytbfcgnggcgodhaa
