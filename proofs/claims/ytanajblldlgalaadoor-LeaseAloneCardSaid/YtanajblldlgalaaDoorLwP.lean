/- Words of bits, plainly: which block is lent, which is the first that isn't. No conditions but those stated. -/
import Derived.Test.YtanajblldlgalaaDoorLsP
import Derived.Lib.TrailingZeros
namespace Go.Proofs.YtanajblldlgalaaDoor
open Go Go.RowKit
set_option linter.unusedVariables false
set_option linter.unusedSimpArgs false

def lentW (W : List Nat) (k : Nat) : Bool := (W.getD (k / 64) 0).testBit (k % 64)
def FitW (W : List Nat) : Prop := W.length = 126 ∧ ∀ n ∈ W, n < 18446744073709551616
def W0 : List Nat := List.replicate 126 0
theorem fit_W0 : FitW W0 := ⟨List.length_replicate, fun n h => by rw [List.eq_of_mem_replicate h]; decide⟩
theorem FitW.at {W : List Nat} (h : FitW W) {j : Nat} (hj : j < 126) : W.getD j 0 < 18446744073709551616 := by
  have hl : j < W.length := by rw [h.1]; exact hj
  rw [List.getD_eq_getElem?_getD, List.getElem?_eq_getElem hl]
  exact h.2 _ (List.getElem_mem hl)
theorem lentW_W0 (k : Nat) : lentW W0 k = false := by
  unfold lentW W0
  rw [List.getD_eq_getElem?_getD]
  by_cases h : k / 64 < 126
  · rw [List.getElem?_replicate, if_pos h]
    exact Nat.zero_testBit _
  · rw [List.getElem?_replicate, if_neg h]
    exact Nat.zero_testBit _
/-- A bit more. -/
def orW (W : List Nat) (k : Nat) : List Nat := W.set (k / 64) (W.getD (k / 64) 0 ||| 2 ^ (k % 64))
theorem fit_or {W : List Nat} (h : FitW W) {k : Nat} (hk : k < 8064) : FitW (orW W k) := by
  refine ⟨by unfold orW; rw [List.length_set]; exact h.1, fun n hn => ?_⟩
  rcases List.mem_or_eq_of_mem_set hn with h1 | h1
  · exact h.2 n h1
  · rw [h1]
    have h2 := h.at (j := k / 64) (by omega)
    have h3 : 2 ^ (k % 64) < 2 ^ 64 := Nat.pow_lt_pow_right (by decide) (Nat.mod_lt _ (by decide))
    exact Nat.or_lt_two_pow (n := 64) h2 h3
theorem lentW_or {W : List Nat} (h : FitW W) {k : Nat} (hk : k < 8064) (j : Nat) : lentW (orW W k) j = (lentW W j || decide (j = k)) := by
  unfold lentW orW
  have hl : k / 64 < W.length := by rw [h.1]; omega
  by_cases e : j / 64 = k / 64
  · rw [e, List.getD_eq_getElem?_getD, List.getElem?_set_self hl, Option.getD_some, Nat.testBit_or, Nat.testBit_two_pow]
    congr 1
    exact decide_eq_decide.2 ⟨fun h => by omega, fun h => by omega⟩
  · rw [List.getD_eq_getElem?_getD, List.getElem?_set_ne (fun h => e h.symm), ← List.getD_eq_getElem?_getD, decide_eq_false (fun h => e (by rw [h])), Bool.or_false]
/-- The lowest bit of a number. -/
theorem ctz_bit {x : Nat} (h0 : x ≠ 0) (h : x < 18446744073709551616) : Lib.ctz 64 x < 64 ∧ x.testBit (Lib.ctz 64 x) = true ∧ ∀ j, j < Lib.ctz 64 x → x.testBit j = false := by
  obtain ⟨m, hm, hk⟩ := Lib.ctzFrom_spec 64 x (by omega) h
  have e : Lib.ctz 64 x = Lib.ctzFrom 64 x := by simp [Lib.ctz, h0]
  rw [e]
  generalize Lib.ctzFrom 64 x = c at hm hk
  refine ⟨hk, ?_, fun j hj => ?_⟩
  · rw [hm, Nat.testBit_two_pow_mul]
    simp
  · rw [hm, Nat.testBit_two_pow_mul]
    simp
    omega
theorem not_bit {n j : Nat} (h : n < 18446744073709551616) (hj : j < 64) : (18446744073709551615 - n).testBit j = !n.testBit j := by
  have := Nat.testBit_two_pow_sub_succ (x := n) (n := 64) h j
  rw [show 2 ^ 64 - (n + 1) = 18446744073709551615 - n by omega] at this
  rw [this, decide_eq_true hj, Bool.true_and]
def freeW (W : List Nat) : Option Nat := (List.range 8064).find? (fun k => !lentW W k)
theorem freeW_some {W : List Nat} (h : FitW W) {i : Nat} (hi : i < 126) (hp : ∀ k, k < 64 * i → lentW W k = true) (hx : 18446744073709551615 - W.getD i 0 ≠ 0) : Lib.ctz 64 (18446744073709551615 - W.getD i 0) < 64 ∧ freeW W = some (i * 64 + Lib.ctz 64 (18446744073709551615 - W.getD i 0)) := by
  have hw := h.at hi
  obtain ⟨h1, h2, h3⟩ := ctz_bit hx (by omega)
  generalize Lib.ctz 64 (18446744073709551615 - W.getD i 0) = c at h1 h2 h3
  refine ⟨h1, ?_⟩
  unfold freeW
  rw [List.find?_range_eq_some]
  have e1 : (i * 64 + c) / 64 = i := by omega
  have e2 : (i * 64 + c) % 64 = c := by omega
  refine ⟨?_, by simp; omega, fun j hj => ?_⟩
  · unfold lentW
    rw [e1, e2]
    rw [not_bit hw h1] at h2
    exact h2
  · by_cases q : j < 64 * i
    · rw [hp j q]; rfl
    · have e3 : j / 64 = i := by omega
      have h4 := h3 (j % 64) (by omega)
      rw [not_bit hw (by omega)] at h4
      unfold lentW
      rw [e3]
      simpa using h4
theorem freeW_more {W : List Nat} (h : FitW W) {i : Nat} (hi : i < 126) (hp : ∀ k, k < 64 * i → lentW W k = true) (hx : 18446744073709551615 - W.getD i 0 = 0) : ∀ k, k < 64 * (i + 1) → lentW W k = true := by
  intro k hk
  by_cases q : k < 64 * i
  · exact hp k q
  · have e3 : k / 64 = i := by omega
    have hw := h.at hi
    have h4 := not_bit (n := W.getD i 0) (j := k % 64) hw (by omega)
    rw [hx, Nat.zero_testBit] at h4
    unfold lentW
    rw [e3]
    simpa using h4.symm
theorem freeW_none {W : List Nat} (hp : ∀ k, k < 64 * 126 → lentW W k = true) : freeW W = none := by
  unfold freeW
  rw [List.find?_range_eq_none]
  intro j hj
  rw [hp j (by omega)]
  rfl
theorem find_congr {p q : Nat → Bool} (l : List Nat) (h : ∀ k ∈ l, p k = q k) : l.find? p = l.find? q := by
  induction l with
  | nil => rfl
  | cons a l ih =>
    rw [List.find?_cons, List.find?_cons, h a (by simp), ih (fun k hk => h k (by simp [hk]))]
theorem freeW_is {W : List Nat} {vip now : Int} {l : List Ls} (h : ∀ k, k < 8064 → lentW W k = lentB vip now l k) : freeW W = freeL vip now l := by
  unfold freeW freeL
  exact find_congr _ (fun k hk => by rw [h k (by simpa using hk)])
/-- Cells of words. -/
def u64N (W : List Nat) : List Value := W.map (fun n : Nat => Value.int .u64 (n : Int))
theorem u64N_len (W : List Nat) : (u64N W).length = W.length := by unfold u64N; simp
theorem u64N_at {W : List Nat} {j : Nat} (hj : j < W.length) : (u64N W)[j]? = some (.int .u64 (W.getD j 0 : Nat)) := by
  unfold u64N
  rw [List.getElem?_map, List.getElem?_eq_getElem hj, List.getD_eq_getElem?_getD, List.getElem?_eq_getElem hj]
  rfl
theorem u64N_set (W : List Nat) (j n : Nat) : (u64N W).set j (.int .u64 (n : Int)) = u64N (W.set j n) := by unfold u64N; rw [List.map_set]
theorem u64N_one (W : List Nat) : (u64N W).toArray.all (·.oneCell') = true := by
  rw [List.all_toArray, List.all_eq_true]
  intro u hu
  obtain ⟨n, _, rfl⟩ := List.mem_map.1 hu
  rfl
/-- The blocks lent by some leases. -/
def lentM (M : List Ls) (k : Nat) : Bool := M.any (fun x => decide (x.first = 1024 + 8 * (k : Int)))
theorem lentM_step {W : List Nat} {M : List Ls} {i : Nat} (hi : i < M.length) (hf : FitW W) (h : ∀ k, lentW W k = lentM (M.take i) k) {k : Nat} (hk : k < 8064) (hx : (M.getD i ls0).first = 1024 + 8 * (k : Int)) : ∀ j, lentW (orW W k) j = lentM (M.take (i + 1)) j := by
  intro j
  rw [lentW_or hf hk, h j, take_moreL M hi]
  unfold lentM
  rw [List.any_append, List.any_cons, List.any_nil, Bool.or_false, hx]
  congr 1
  exact decide_eq_decide.2 ⟨fun h => by omega, fun h => by omega⟩
end Go.Proofs.YtanajblldlgalaaDoor
