/- Contracts of the document's answers Byte, IsVip and Home: what each call returns; nothing that was there is turned. No conditions but that the numbers fit their kinds. -/
import Derived.Test.YtolkheelmmgnbaaDoorD2
namespace Go.Proofs.YtolkheelmmgnbaaDoor
open Go Go.RowKit

theorem byte0 (a : Int) (h0 : 0 ≤ a) (h1 : a < 4294967296) (w : World) : Calls Tryd.prog 42 #[.int .u32 a, .int .i64 0] w fun e w' => e = .returned (.int .i64 (a / 16777216)) ∧ w = w' := by
  go_enter Tryd.func42, Tryd.ntmps42
  go_wp2
  go_ret
  exact ⟨ret_int (by omega), rfl⟩
theorem byte1 (a : Int) (h0 : 0 ≤ a) (h1 : a < 4294967296) (w : World) : Calls Tryd.prog 42 #[.int .u32 a, .int .i64 1] w fun e w' => e = .returned (.int .i64 (a / 65536 % 256)) ∧ w = w' := by
  go_enter Tryd.func42, Tryd.ntmps42
  go_wp2
  go_ret
  exact ⟨ret_int (by omega), rfl⟩
theorem byte2 (a : Int) (h0 : 0 ≤ a) (h1 : a < 4294967296) (w : World) : Calls Tryd.prog 42 #[.int .u32 a, .int .i64 2] w fun e w' => e = .returned (.int .i64 (a / 256 % 256)) ∧ w = w' := by
  go_enter Tryd.func42, Tryd.ntmps42
  go_wp2
  go_ret
  exact ⟨ret_int (by omega), rfl⟩
theorem byte3 (a : Int) (h0 : 0 ≤ a) (h1 : a < 4294967296) (w : World) : Calls Tryd.prog 42 #[.int .u32 a, .int .i64 3] w fun e w' => e = .returned (.int .i64 (a % 256)) ∧ w = w' := by
  go_enter Tryd.func42, Tryd.ntmps42
  go_wp2
  go_ret
  exact ⟨ret_int (by omega), rfl⟩

theorem refVip (a : Int) (h0 : 0 ≤ a) (h1 : a < 4294967296) (w : World) :
    Calls Tryd.prog 21 #[.int .u32 a] w fun e w' => e = .returned (.bool (vipB (a / 16777216))) ∧ w = w' := by
  have hs := byte0 a h0 h1
  obtain ⟨b, hb⟩ : ∃ b, b = a / 16777216 := ⟨_, rfl⟩
  have b0 : 0 ≤ b := by omega
  have b1 : b < 256 := by omega
  rw [← hb] at hs ⊢
  have H := Lib.hid hs
  clear hs hb
  by_cases c1 : b < 1
  · have k := Lib.hid (vipB_no (b := b) (by omega))
    go_enter Tryd.func21, Tryd.ntmps21
    go_wp2_with (go_at_call 42; refine (H.out _).mono ?_; rintro e w1 ⟨rfl, rfl⟩)
    go_ret
    exact ⟨by rw [k.out]; rfl, rfl⟩
  by_cases c2 : 223 < b
  · have k := Lib.hid (vipB_no (b := b) (by omega))
    go_enter Tryd.func21, Tryd.ntmps21
    go_wp2_with (go_at_call 42; refine (H.out _).mono ?_; rintro e w1 ⟨rfl, rfl⟩)
    go_ret
    exact ⟨by rw [k.out]; rfl, rfl⟩
  by_cases c3 : b = 10
  · have k := Lib.hid (vipB_no (b := b) (by omega))
    go_enter Tryd.func21, Tryd.ntmps21
    go_wp2_with (go_at_call 42; refine (H.out _).mono ?_; rintro e w1 ⟨rfl, rfl⟩)
    go_ret
    exact ⟨by rw [k.out]; rfl, rfl⟩
  by_cases c4 : b = 127
  · have k := Lib.hid (vipB_no (b := b) (by omega))
    go_enter Tryd.func21, Tryd.ntmps21
    go_wp2_with (go_at_call 42; refine (H.out _).mono ?_; rintro e w1 ⟨rfl, rfl⟩)
    go_ret
    exact ⟨by rw [k.out]; rfl, rfl⟩
  have k := Lib.hid (vipB_yes (b := b) (by omega))
  have d3 : (b != 10) = true := by simp [c3]
  have d4 : (b != 127) = true := by simp [c4]
  go_enter Tryd.func21, Tryd.ntmps21
  go_wp2_with (go_at_call 42; refine (H.out _).mono ?_; rintro e w1 ⟨rfl, rfl⟩)
  go_ret
  exact ⟨by rw [k.out]; rfl, rfl⟩

set_option maxHeartbeats 1000000 in
theorem refHome_no (a : Int) (hd : ¬ IsDip a) (w : World) :
    Calls Tryd.prog 19 #[.int .u32 a] w fun e w' => e = .returned (.tuple #[.int .i64 0, .int .i64 0, .bool false]) ∧ w = w' := by
  have HD := Lib.hid hd
  clear hd
  go_enter Tryd.func19, Tryd.ntmps19
  go_wp2
  go_loop [5] (fun i => KRel 8 i) (fun i => 8 - (intOf i).toNat)
  case atStart => exact ⟨0, by omega, rfl⟩
  case round =>
    obtain ⟨k, hk, rfl⟩ := hrel
    by_cases hlt : k < 8
    · go_wp2
      go_loop [6] (fun i => KRel 16 i) (fun i => 16 - (intOf i).toNat)
      case atStart => exact ⟨0, by omega, rfl⟩
      case round =>
        obtain ⟨j, hj, rfl⟩ := hrel
        by_cases hjt : j < 16
        · obtain ⟨d, ed⟩ : ∃ d, d = 167837696 + 256 * (k : Int) + j := ⟨_, rfl⟩
          have D := refDip k j (by omega) (by omega) (by omega) (by omega)
          rw [← ed] at D
          have hne : (d == a) = false := by
            have : d ≠ a := by
              intro e
              apply HD.out
              unfold IsDip
              omega
            simp [this]
          have DH := Lib.hid D
          clear D ed
          go_wp2_with (go_at_call 17; refine (DH.out _).mono ?_; rintro e w1 ⟨rfl, rfl⟩)
          go_round
          case rel => exact ⟨j + 1, by omega, by go_num⟩
          case measure => simp [intOf]; omega
        · go_wp2
          go_round
          case rel => exact ⟨k + 1, by omega, by go_num⟩
          case measure => simp [intOf]; omega
    · go_wp2
      go_ret3
      exact ⟨rfl, rfl⟩

set_option maxHeartbeats 1000000 in
theorem refHome_ok (a : Int) (hd : IsDip a) (w : World) :
    Calls Tryd.prog 19 #[.int .u32 a] w fun e w' => e = .returned (.tuple #[.int .i64 (a / 256 % 256), .int .i64 (a % 256), .bool true]) ∧ w = w' := by
  obtain ⟨p1, p2, p3⟩ := hd
  obtain ⟨h, eh⟩ : ∃ h : Nat, (h : Int) = a / 256 % 256 := ⟨(a / 256 % 256).toNat, by omega⟩
  obtain ⟨v, ev⟩ : ∃ v : Nat, (v : Int) = a % 256 := ⟨(a % 256).toNat, by omega⟩
  have h1 : h < 8 := by omega
  have v1 : v < 16 := by omega
  have EA := Lib.hid (show 167837696 + 256 * (h : Int) + v = a by omega)
  rw [← eh, ← ev]
  clear p1 p2 p3 eh ev
  go_enter Tryd.func19, Tryd.ntmps19
  go_wp2
  go_loop [5] (fun i => KRel h i) (fun i => 8 - (intOf i).toNat)
  case atStart => exact ⟨0, by omega, rfl⟩
  case round =>
    obtain ⟨k, hk, rfl⟩ := hrel
    by_cases hkh : k = h
    · subst hkh
      go_wp2
      go_loop [6] (fun i => KRel v i) (fun i => 16 - (intOf i).toNat)
      case atStart => exact ⟨0, by omega, rfl⟩
      case round =>
        obtain ⟨j, hj, rfl⟩ := hrel
        by_cases hjv : j = v
        · subst hjv
          have D := refDip k j (by omega) (by omega) (by omega) (by omega)
          rw [EA.out] at D
          have DH := Lib.hid D
          clear D
          go_wp2_with (go_at_call 17; refine (DH.out _).mono ?_; rintro e w1 ⟨rfl, rfl⟩)
          go_ret3
          exact ⟨rfl, rfl⟩
        · obtain ⟨d, ed⟩ : ∃ d, d = 167837696 + 256 * (k : Int) + j := ⟨_, rfl⟩
          have D := refDip k j (by omega) (by omega) (by omega) (by omega)
          rw [← ed] at D
          have hne : (d == a) = false := by
            have := EA.out
            simp
            omega
          have hjt : j < 16 := by omega
          have hjl : j < v := by omega
          have DH := Lib.hid D
          clear D ed hjv
          go_wp2_with (go_at_call 17; refine (DH.out _).mono ?_; rintro e w1 ⟨rfl, rfl⟩)
          go_round
          case rel => exact ⟨j + 1, by omega, by go_num⟩
          case measure => simp [intOf]; omega
    · have hkl : k < h := by omega
      clear hkh
      go_wp2
      go_loop [6] (fun i => KRel 16 i) (fun i => 16 - (intOf i).toNat)
      case atStart => exact ⟨0, by omega, rfl⟩
      case round =>
        obtain ⟨j, hj, rfl⟩ := hrel
        by_cases hjt : j < 16
        · obtain ⟨d, ed⟩ : ∃ d, d = 167837696 + 256 * (k : Int) + j := ⟨_, rfl⟩
          have D := refDip k j (by omega) (by omega) (by omega) (by omega)
          rw [← ed] at D
          have hne : (d == a) = false := by
            have := EA.out
            simp
            omega
          have DH := Lib.hid D
          clear D ed
          go_wp2_with (go_at_call 17; refine (DH.out _).mono ?_; rintro e w1 ⟨rfl, rfl⟩)
          go_round
          case rel => exact ⟨j + 1, by omega, by go_num⟩
          case measure => simp [intOf]; omega
        · go_wp2
          go_round
          case rel => exact ⟨k + 1, by omega, by go_num⟩
          case measure => simp [intOf]; omega
end Go.Proofs.YtolkheelmmgnbaaDoor
