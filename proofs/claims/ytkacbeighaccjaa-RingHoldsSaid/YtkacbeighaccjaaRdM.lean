/- The program's areMembers. Condition: the row came in. -/
import Derived.Test.YtkacbeighaccjaaRgD
namespace Go.Proofs.Ytkacbeighaccjaa
open Go Go.RowKit
set_option linter.unusedVariables false
set_option linter.unusedSimpArgs false

/-- Numbers of members, of which none is as the one ahead of it. -/
def GoodA (l : List Int) (n : Nat) : Prop := ∀ i, i < n → (0 ≤ l.getD i 0 ∧ l.getD i 0 ≤ 65535) ∧ (0 < i → l.getD i 0 ≠ l.getD (i - 1) 0)
theorem GoodA.step {l : List Int} {i : Nat} (h : GoodA l i) (h1 : 0 ≤ l.getD i 0 ∧ l.getD i 0 ≤ 65535) (h2 : 0 < i → l.getD i 0 ≠ l.getD (i - 1) 0) : GoodA l (i + 1) := fun j hj => by
  by_cases e : j = i
  · subst e; exact ⟨h1, h2⟩
  · exact h j (by omega)
theorem getD_at {l : List Int} {i : Nat} (hi : i < l.length) : l.getD i 0 = l[i] := by
  rw [List.getD_eq_getElem?_getD, List.getElem?_eq_getElem hi]; rfl
theorem goodA_iff {l : List Int} (hs : l.Pairwise (· ≤ ·)) : GoodA l l.length ↔ l.Nodup ∧ ∀ m ∈ l, 0 ≤ m ∧ m ≤ 65535 := by
  constructor
  · intro h
    constructor
    · rw [List.Nodup, List.pairwise_iff_getElem]
      intro i j hi hj hij
      have hj1 := (h j hj).2 (by omega)
      rw [getD_at hj, getD_at (by omega)] at hj1
      have h1 : l[j - 1] ≤ l[j] := (List.pairwise_iff_getElem.1 hs) (j - 1) j (by omega) hj (by omega)
      by_cases e : i = j - 1
      · subst e
        omega
      · have h2 : l[i] ≤ l[j - 1] := (List.pairwise_iff_getElem.1 hs) i (j - 1) hi (by omega) (by omega)
        omega
    · intro m hm
      obtain ⟨i, hi, rfl⟩ := List.mem_iff_getElem.1 hm
      have := (h i hi).1
      rwa [getD_at hi] at this
  · rintro ⟨hn, hr⟩ i hi
    refine ⟨?_, fun h0 => ?_⟩
    · rw [getD_at hi]; exact hr _ (List.getElem_mem hi)
    · rw [getD_at hi, getD_at (by omega)]
      intro e
      rw [List.Nodup, List.pairwise_iff_getElem] at hn
      exact hn (i - 1) i (by omega) hi (by omega) e.symm
set_option maxRecDepth 100000 in
theorem areMembers_c (l : List Int) (a : Option Addr) (n c : Nat) (w : World) (hI : InI w a n c l) (hn : n ≤ 1048576) (z : Bool) (hz : IffB z (GoodA l n)) :
    Calls Try.prog 33 #[.slice a n c] w fun e w' => e = .returned (.bool z) ∧ w = w' := by
  have HI := Lib.hid hI
  have HZ := Lib.hid hz
  have H0 : Hid (GoodA l 0) := Lib.hid (fun i hi => absurd hi (Nat.not_lt_zero _))
  clear hI hz
  go_enter Try.func33, Try.ntmps33
  go_wp2
  go_loop [7] (fun i => ∃ j : Nat, j ≤ n ∧ i = .int .i64 j ∧ Hid (GoodA l j)) (fun i => n - (intOf i).toNat)
  case atStart => exact ⟨0, by omega, rfl, H0⟩
  case round =>
    obtain ⟨j, hj, rfl, hE⟩ := hrel
    clear H0
    by_cases hlj : j < n
    · obtain ⟨b1, o1, rfl⟩ := in_blockI HI.out (by omega)
      have c1 := in_cellI HI.out j hlj
      have ilj : (j : Int) < (n : Int) := by omega
      have j0 : (0 : Int) ≤ (j : Int) := by omega
      obtain ⟨m, hm⟩ : ∃ m, m = l.getD j 0 := ⟨_, rfl⟩
      rw [← hm] at c1
      have HM := Lib.hid hm
      clear hm
      by_cases q1 : m < 0
      · have HF : Hid (z = false) := Lib.hid (Bool.eq_false_iff.2 (fun h => by have := ((HZ.out.1 h) j hlj).1; rw [← HM.out] at this; omega))
        go_wp2
        go_ret
        exact ⟨congrArg (fun z => Ending.returned (Value.bool z)) HF.out.symm, rfl⟩
      by_cases q2 : 65535 < m
      · have HF : Hid (z = false) := Lib.hid (Bool.eq_false_iff.2 (fun h => by have := ((HZ.out.1 h) j hlj).1; rw [← HM.out] at this; omega))
        go_wp2
        go_ret
        exact ⟨congrArg (fun z => Ending.returned (Value.bool z)) HF.out.symm, rfl⟩
      by_cases q3 : j = 0
      · subst q3
        rw [Nat.add_zero] at c1
        have HS : Hid (GoodA l (0 + 1)) := Lib.hid (hE.out.step (by rw [← HM.out]; omega) (fun h => by omega))
        go_wp2
        go_round
        case rel => exact ⟨1, by omega, by go_num, HS⟩
        case measure => simp [intOf]; omega
      · obtain ⟨k, rfl⟩ : ∃ k, j = k + 1 := ⟨j - 1, by omega⟩
        have c2 := in_cellI HI.out k (by omega)
        have k0 : (0 : Int) < ((k : Int) + 1) := by omega
        have k1 : ((k : Int) + 1) - 1 = (k : Int) := by omega
        have k2 : (0 : Int) ≤ (k : Int) := by omega
        have k3 : (k : Int) < (n : Int) := by omega
        have k4 : (k : Int) + 1 < (n : Int) := by omega
        by_cases e : l.getD k 0 = m
        · have HF : Hid (z = false) := Lib.hid (Bool.eq_false_iff.2 (fun h => ((HZ.out.1 h) (k + 1) hlj).2 (by omega) (by rw [← HM.out, ← e]; rfl)))
          rw [e] at c2
          have qx : (m == m) = true := by simp
          clear e
          go_wp2
          go_ret
          exact ⟨congrArg (fun z => Ending.returned (Value.bool z)) HF.out.symm, rfl⟩
        · have HS : Hid (GoodA l (k + 1 + 1)) := Lib.hid (hE.out.step (by rw [← HM.out]; omega) (fun _ => by rw [← HM.out]; exact fun h => e h.symm))
          obtain ⟨y, hy⟩ : ∃ y, y = l.getD k 0 := ⟨_, rfl⟩
          rw [← hy] at c2 e
          have qx : (m == y) = false := by simpa using fun h => e h.symm
          clear e hy
          go_wp2
          go_round
          case rel => exact ⟨k + 1 + 1, by omega, by go_num, HS⟩
          case measure => simp [intOf]; omega
    · obtain rfl : j = n := by omega
      have HT : Hid (z = true) := Lib.hid (HZ.out.2 hE.out)
      have ilj : ¬ ((j : Int) < (j : Int)) := by omega
      go_wp2
      go_ret
      exact ⟨congrArg (fun z => Ending.returned (Value.bool z)) HT.out.symm, rfl⟩
end Go.Proofs.Ytkacbeighaccjaa
