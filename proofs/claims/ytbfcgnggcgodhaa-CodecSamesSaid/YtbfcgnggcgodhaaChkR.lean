/- Contract of the document's Check. Conditions: the row's cells hold bytes; there are at most 2^32 of them. -/
import Derived.Test.YtbfcgnggcgodhaaCrA
namespace Go.Proofs.Ytbfcgnggcgodhaa
open Go Go.RowKit
set_option linter.unusedVariables false
set_option linter.unusedSimpArgs false

set_option maxRecDepth 100000 in
theorem refCheck_any (p : List Int) (v : Value) (w : World) (hA : At w v p) (hf : fit p) (hl : p.length ≤ 4294967296) :
    Calls Try.prog 35 #[v] w fun e w' => e = .returned (.int .u32 (crc p)) ∧ w = w' := by
  obtain ⟨a, cap, rfl, hA⟩ := hA
  have HA := Lib.hid hA
  have HF := Lib.hid hf
  obtain ⟨m, hm⟩ : ∃ m, m = p.length := ⟨_, rfl⟩
  rw [← hm] at hl
  rw [← hm]
  have HM := Lib.hid hm
  clear hA hf hm
  go_enter Try.func35, Try.ntmps35
  go_wp2
  go_loop [3, 4] (fun t i => ∃ (j r : Nat), j ≤ m ∧ i = .int .i64 j ∧ t = .int .u32 r ∧ Hid (r = cl start (p.take j))) (fun _ i => m - (intOf i).toNat)
  case atStart => exact ⟨0, 4294967295, by omega, rfl, rfl, Lib.hid rfl⟩
  case round =>
    obtain ⟨j, r, hj, rfl, rfl, hS⟩ := hrel
    by_cases hlj : j < m
    · have hjp : j < p.length := by rw [← HM.out]; exact hlj
      rcases HA.out with h0 | ⟨b1, o1, rfl, hc⟩
      · rw [h0] at hjp; simp at hjp
      have hcj := hc j hjp
      obtain ⟨x, hx⟩ : ∃ x, x = p.getD j 0 := ⟨_, rfl⟩
      have hx0 := fit_at HF.out hjp
      have hr : r < 4294967296 := by rw [hS.out]; exact cl_lt _ (fit_take HF.out j) (by decide)
      have HT : Hid (p.take (j + 1) = p.take j ++ [x]) := Lib.hid (by rw [take_more p 0 hjp, ← hx])
      rw [← hx] at hcj hx0
      obtain ⟨x0, x1⟩ := hx0
      have hmx := mix32 r hr x x0 x1
      have hlt2 := cmix hr x1
      have HR : Hid (st8 (r ^^^ x.toNat) = cl start (p.take (j + 1))) := Lib.hid (by rw [HT.out, cl_more, ← hS.out]; rfl)
      obtain ⟨y, hy⟩ : ∃ y, y = r ^^^ x.toNat := ⟨_, rfl⟩
      rw [← hy] at hmx hlt2 HR
      clear hx hc hjp hy
      go_wp2
      go_loop [3, 5] (fun v i => ∃ k s : Nat, k ≤ 8 ∧ i = .int .i64 k ∧ v = .int .u32 s ∧ s < 4294967296 ∧ Hid (stN (8 - k) s = st8 y)) (fun _ i => 8 - (intOf i).toNat)
      case atStart => exact ⟨0, y, by omega, rfl, rfl, hlt2, Lib.hid rfl⟩
      case round =>
        clear hS hcj hmx hr hlt2
        obtain ⟨k, s, hk, rfl, rfl, s1, hs⟩ := hrel
        by_cases hlt : k < 8
        · have hs' := Lib.hid (stN_next hs.out hlt)
          by_cases ho : s % 2 = 1
          · have hx := turn (s / 2) (by omega)
            have hst : st s = s / 2 ^^^ 3988292384 := by unfold st; rw [if_pos ho]
            have hlt' := st_lt s1
            have ho' : (s : Int) % 2 = 1 := by omega
            rw [hst] at hs' hlt'
            obtain ⟨z, hz⟩ : ∃ z, z = s / 2 ^^^ 3988292384 := ⟨_, rfl⟩
            rw [← hz] at hs' hlt' hx
            have hx' : bits .xor .u32 ((s : Int) / 2) 3988292384 = z := hx
            clear hx hst hz ho
            go_wp2
            go_round
            case rel => exact ⟨k + 1, z, by omega, by go_num, rfl, hlt', hs'⟩
            case measure => simp [intOf]; omega
          · have ho' : (s : Int) % 2 = 0 := by omega
            have hst : st s = s / 2 := by unfold st; rw [if_neg ho]
            rw [hst] at hs'
            clear hst ho
            go_wp2
            go_round
            case rel => exact ⟨k + 1, s / 2, by omega, by go_num, rfl, by omega, hs'⟩
            case measure => simp [intOf]; omega
        · rw [show k = 8 by omega] at hs
          go_wp2
          go_round
          case rel => exact ⟨j + 1, s, by omega, by go_num, rfl, Lib.hid (by rw [← HR.out, ← hs.out]; rfl)⟩
          case measure => simp [intOf]; omega
    · have e : p.take j = p := List.take_of_length_le (by rw [← HM.out]; omega)
      rw [e] at hS
      have hr : r < 4294967296 := by rw [hS.out]; exact cl_lt _ HF.out (by decide)
      have hfl : bits .xor .u32 (r : Int) 4294967295 = 4294967295 - (r : Int) := by
        have h := u32_xor (r : Int) 4294967295 (by omega) (by omega) (by decide) (by decide)
        rw [Nat.xor_comm, show (4294967295 : Int).toNat = 2 ^ 32 - 1 by decide, xor_ones 32 _ (by omega)] at h
        rw [h]
        omega
      clear e
      go_wp2
      go_ret
      exact ⟨by unfold crc; rw [← hS.out]; rfl, rfl⟩
end Go.Proofs.Ytbfcgnggcgodhaa
