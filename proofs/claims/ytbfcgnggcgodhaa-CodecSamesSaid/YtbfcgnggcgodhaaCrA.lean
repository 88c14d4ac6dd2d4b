/- CRC-32 over rows of bytes; a slip is told. Condition: the numbers fit their kinds. -/
import Derived.Test.YtbfcgnggcgodhaaCrP
import Derived.Test.YtbfcgnggcgodhaaRowB
namespace Go.Proofs.Ytbfcgnggcgodhaa
open Go Go.RowKit
set_option linter.unusedVariables false
set_option linter.unusedSimpArgs false

/-- So many shifts. -/
def stN : Nat → Nat → Nat
  | 0, s => s
  | n + 1, s => stN n (st s)
theorem st8_N (x : Nat) : st8 x = stN 8 x := rfl
theorem stN_next {k s x : Nat} (h : stN (8 - k) s = st8 x) (hk : k < 8) : stN (8 - (k + 1)) (st s) = st8 x := by
  rw [show 8 - k = (8 - (k + 1)) + 1 by omega] at h
  exact h
theorem low1 (s : Nat) (h1 : s < 4294967296) : bits .and .u32 (s : Int) 1 = ((s % 2 : Nat) : Int) := by
  have h := u32_and_nat s 1 h1 (by decide)
  rw [nat_mask1] at h
  exact h
theorem turn (s : Nat) (h1 : s < 4294967296) : bits .xor .u32 (s : Int) 3988292384 = ((s ^^^ 3988292384 : Nat) : Int) :=
  u32_xor_nat s 3988292384 h1 (by decide)
/-- CRC-32's register behind a row of bytes. -/
def cb (r : Nat) (b : Int) : Nat := st8 (r ^^^ b.toNat)
def cl (r : Nat) (l : List Int) : Nat := l.foldl cb r
theorem cmix {r : Nat} (h : r < 4294967296) {b : Int} (h1 : b < 256) : r ^^^ b.toNat < 4294967296 := Nat.xor_lt_two_pow (n := 32) h (by omega)
theorem cb_lt {r : Nat} (h : r < 4294967296) {b : Int} (h1 : b < 256) : cb r b < 4294967296 := st8_lt (cmix h h1)
theorem cl_lt : ∀ (l : List Int) {r : Nat}, fit l → r < 4294967296 → cl r l < 4294967296
  | [], _, _, h => h
  | b :: l, _, hf, h => cl_lt l (fun x hx => hf x (by simp [hx])) (cb_lt h (hf b (by simp)).2)
theorem cl_inj : ∀ (l : List Int) {r q : Nat}, fit l → r < 4294967296 → q < 4294967296 → cl r l = cl q l → r = q
  | [], _, _, _, _, _, h => h
  | b :: l, r, q, hf, hr, hq, h => by
    have hb := (hf b (by simp)).2
    have e := cl_inj l (fun x hx => hf x (by simp [hx])) (cb_lt hr hb) (cb_lt hq hb) h
    exact xor_left (st8_inj (cmix hr hb) (cmix hq hb) e)
theorem cl_app (r : Nat) (l m : List Int) : cl r (l ++ m) = cl (cl r l) m := List.foldl_append
theorem cl_more (r : Nat) (l : List Int) (b : Int) : cl r (l ++ [b]) = cb (cl r l) b := by rw [cl_app]; rfl
/-- Every change of one byte is told. -/
theorem cl_slip {r : Nat} (hr : r < 4294967296) (l m : List Int) (hl : fit l) (hm : fit m) {b c : Int} (hb : 0 ≤ b ∧ b < 256) (hc : 0 ≤ c ∧ c < 256) (h : b ≠ c) : cl r (l ++ b :: m) ≠ cl r (l ++ c :: m) := by
  intro e
  rw [cl_app, cl_app] at e
  have hL := cl_lt l hl hr
  have e1 := cl_inj m hm (cb_lt hL hb.2) (cb_lt hL hc.2) e
  have e2 := st8_inj (cmix hL hb.2) (cmix hL hc.2) e1
  rw [Nat.xor_comm, Nat.xor_comm (cl r l)] at e2
  have := xor_left e2
  omega
def start : Nat := 4294967295
def crc (l : List Int) : Int := 4294967295 - (cl start l : Nat)
theorem flip32 (x : Nat) (h1 : x < 4294967296) : bits .xor .u32 IntKind.u32.max (x : Int) = 4294967295 - (x : Int) := by
  have h := u32_xor IntKind.u32.max (x : Int) (by decide) (by decide) (by omega) (by omega)
  rw [show IntKind.u32.max.toNat = 2 ^ 32 - 1 by decide, xor_ones 32 _ (by omega)] at h
  rw [h]
  omega
theorem mix32 (r : Nat) (h : r < 4294967296) (x : Int) (h0 : 0 ≤ x) (h1 : x < 256) : bits .xor .u32 (r : Int) x = ((r ^^^ x.toNat : Nat) : Int) := by
  have e := u32_xor (r : Int) x (by omega) (by omega) h0 (by omega)
  exact e
theorem crc_slip_at {l : List Int} (hf : fit l) {J : Nat} (hJ : J < l.length) {y : Int} (hy : 0 ≤ y ∧ y < 256) (hne : y ≠ l.getD J 0) : crc (l.set J y) ≠ crc l := by
  have e1 : l.set J y = l.take J ++ y :: l.drop (J + 1) := List.set_eq_take_append_cons_drop.trans (if_pos hJ)
  have e2 : l = l.take J ++ l.getD J 0 :: l.drop (J + 1) := by
    have h : l.drop J = l.getD J 0 :: l.drop (J + 1) := by
      rw [List.drop_eq_getElem_cons hJ, List.getD_eq_getElem?_getD, List.getElem?_eq_getElem hJ]
      rfl
    rw [← h, List.take_append_drop]
  have hx := fit_at hf hJ
  have H := cl_slip (r := start) (by decide) (l.take J) (l.drop (J + 1)) (fit_take hf J) (fun b hb => hf b (List.mem_of_mem_drop hb)) hy hx hne
  unfold crc
  intro h
  apply H
  rw [← e1, ← e2]
  omega
end Go.Proofs.Ytbfcgnggcgodhaa
