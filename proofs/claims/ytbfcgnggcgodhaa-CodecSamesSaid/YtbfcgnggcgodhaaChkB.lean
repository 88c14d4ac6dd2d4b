/- Contract of sum.Check. Conditions: the rows' cells hold bytes; there are at most 2^32 of them. -/
import Derived.Test.YtbfcgnggcgodhaaCrA
namespace Go.Proofs.Ytbfcgnggcgodhaa
open Go Go.RowKit
set_option linter.unusedVariables false
set_option linter.unusedSimpArgs false

theorem shiftOut_any (x : Nat) (h1 : x < 4294967296) (w : World) :
    Calls Try.prog 43 #[.int .u32 x] w fun e w' => e = .returned (.int .u32 (st8 x)) ∧ w = w' := by
  go_enter Try.func43, Try.ntmps43
  go_wp2
  go_loop [0, 4] (fun v i => ∃ k s : Nat, k ≤ 8 ∧ i = .int .i64 k ∧ v = .int .u32 s ∧ s < 4294967296 ∧ Hid (stN (8 - k) s = st8 x)) (fun _ i => 8 - (intOf i).toNat)
  case atStart => exact ⟨0, x, by omega, rfl, rfl, h1, Lib.hid rfl⟩
  case round =>
    obtain ⟨k, s, hk, rfl, rfl, s1, hs⟩ := hrel
    by_cases hlt : k < 8
    · have hs' := Lib.hid (stN_next hs.out hlt)
      have hl := low1 s s1
      by_cases ho : s % 2 = 1
      · rw [ho] at hl
        have hx := turn (s / 2) (by omega)
        have hst : st s = s / 2 ^^^ 3988292384 := by unfold st; rw [if_pos ho]
        have hlt' := st_lt s1
        rw [hst] at hs' hlt'
        obtain ⟨y, hy⟩ : ∃ y, y = s / 2 ^^^ 3988292384 := ⟨_, rfl⟩
        rw [← hy] at hs' hlt' hx
        have hx' : bits .xor .u32 ((s : Int) / 2) 3988292384 = y := hx
        clear hx hst hy
        go_wp2
        go_round
        case rel => exact ⟨k + 1, y, by omega, by go_num, rfl, hlt', hs'⟩
        case measure => simp [intOf]; omega
      · rw [show s % 2 = 0 by omega] at hl
        have hst : st s = s / 2 := by unfold st; rw [if_neg ho]
        rw [hst] at hs'
        go_wp2
        go_round
        case rel => exact ⟨k + 1, s / 2, by omega, by go_num, rfl, by omega, hs'⟩
        case measure => simp [intOf]; omega
    · rw [show k = 8 by omega] at hs
      go_wp2
      go_ret
      exact ⟨by rw [← hs.out]; rfl, rfl⟩
set_option maxRecDepth 100000 in
theorem check_any (ps : List (List Int)) (v : Value) (w : World) (hP : Parts w v ps) (hf : fit ps.flatten) (hl : ps.flatten.length ≤ 4294967296) (hn0 : ps.length ≤ 4294967296) :
    Calls Try.prog 32 #[v] w fun e w' => e = .returned (.int .u32 (crc ps.flatten)) ∧ w = w' := by
  obtain ⟨a, cap, rfl, hP⟩ := hP
  have HP := Lib.hid hP
  have HF := Lib.hid hf
  have HL := Lib.hid hl
  obtain ⟨n, hn⟩ : ∃ n, n = ps.length := ⟨_, rfl⟩
  rw [← hn] at hn0
  rw [← hn]
  have HN := Lib.hid hn
  clear hP hf hl hn
  have CA := Lib.hid (fun x h1 w => shiftOut_any x h1 w)
  go_enter Try.func32, Try.ntmps32
  go_wp2
  go_loop [3, 10] (fun t i => ∃ (k r : Nat), k ≤ n ∧ i = .int .i64 k ∧ t = .int .u32 r ∧ Hid (r = cl start (ps.take k).flatten)) (fun _ i => n - (intOf i).toNat)
  case atStart => exact ⟨0, 4294967295, by omega, rfl, rfl, Lib.hid rfl⟩
  case round =>
    obtain ⟨k, r, hk, rfl, rfl, hS⟩ := hrel
    by_cases hlt : k < n
    · obtain ⟨p, hp⟩ : ∃ p, ps[k]? = some p := ⟨_, List.getElem?_eq_getElem (by rw [← HN.out]; exact hlt)⟩
      rcases HP.out with h0 | ⟨b, off, rfl, hc⟩
      · rw [h0] at hp; simp at hp
      obtain ⟨u, hu, a1, c1, rfl, hA⟩ := hc k p hp
      have HA := Lib.hid hA
      have HPP := Lib.hid hp
      obtain ⟨m, hm⟩ : ∃ m, m = p.length := ⟨_, rfl⟩
      rw [← hm] at hu
      have HM := Lib.hid hm
      have hm0 : m ≤ 4294967296 := by rw [hm]; have := (len_pre hp).1; have := HL.out; omega
      clear hA hp hm hc
      go_wp2
      go_loop [3, 16] (fun t i => ∃ (j r : Nat), j ≤ m ∧ i = .int .i64 j ∧ t = .int .u32 r ∧ Hid (r = cl start ((ps.take k).flatten ++ p.take j))) (fun _ i => m - (intOf i).toNat)
      case atStart => exact ⟨0, r, by omega, rfl, rfl, by rw [List.take_zero, List.append_nil]; exact hS⟩
      case round =>
        clear hS hu
        obtain ⟨j, r, hj, rfl, rfl, hS⟩ := hrel
        by_cases hlj : j < m
        · have hjp : j < p.length := by rw [← HM.out]; exact hlj
          rcases HA.out with h0 | ⟨b1, o1, rfl, hc⟩
          · rw [h0] at hjp; simp at hjp
          have hcj := hc j hjp
          have hfp := fit_part HF.out HPP.out
          obtain ⟨x, hx⟩ : ∃ x, x = p.getD j 0 := ⟨_, rfl⟩
          have hx0 := fit_at hfp hjp
          have hr : r < 4294967296 := by rw [hS.out]; exact cl_lt _ (fit_app (fit_takes HF.out k) (fit_take hfp j)) (by decide)
          have HT : Hid ((ps.take k).flatten ++ p.take (j + 1) = ((ps.take k).flatten ++ p.take j) ++ [x]) := Lib.hid (by rw [take_more p 0 hjp, ← hx, List.append_assoc])
          rw [← hx] at hcj hx0
          obtain ⟨x0, x1⟩ := hx0
          have hmx := mix32 r hr x x0 x1
          have hlt2 := cmix hr x1
          have HR : Hid (st8 (r ^^^ x.toNat) = cl start ((ps.take k).flatten ++ p.take (j + 1))) := Lib.hid (by rw [HT.out, cl_more, ← hS.out]; rfl)
          obtain ⟨y, hy⟩ : ∃ y, y = r ^^^ x.toNat := ⟨_, rfl⟩
          rw [← hy] at hmx hlt2 HR
          clear hx hc hfp hjp hy
          go_wp2_with (go_at_call 43; refine (CA.out y hlt2 _).mono ?_; rintro e w2 ⟨rfl, rfl⟩)
          go_round
          case rel => exact ⟨j + 1, _, by omega, by go_num, rfl, HR⟩
          case measure => simp [intOf]; omega
        · have HT : Hid ((ps.take (k + 1)).flatten = (ps.take k).flatten ++ p.take j) := Lib.hid (by rw [(len_pre HPP.out).2, List.take_of_length_le (l := p) (by rw [← HM.out]; omega)])
          go_wp2
          go_round
          case rel => exact ⟨k + 1, _, by omega, by go_num, rfl, Lib.hid (by rw [HT.out]; exact hS.out)⟩
          case measure => simp [intOf]; omega
    · have e : ps.take k = ps := List.take_of_length_le (by rw [← HN.out]; omega)
      rw [e] at hS
      have hr : r < 4294967296 := by rw [hS.out]; exact cl_lt _ HF.out (by decide)
      have hfl := flip32 r hr
      clear e
      go_wp2
      go_ret
      exact ⟨by unfold crc; rw [← hS.out]; rfl, rfl⟩
end Go.Proofs.Ytbfcgnggcgodhaa
