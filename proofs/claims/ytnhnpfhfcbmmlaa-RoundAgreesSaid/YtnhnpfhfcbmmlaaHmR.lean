/- Contracts of the document's Dip and Home. No conditions. -/
import Derived.Test.YtnhnpfhfcbmmlaaGenB
import Derived.LoopTactic
import Derived.LoopN
namespace Go.Proofs.Ytnhnpfhfcbmmlaa
open Go Go.RowKit
set_option linter.unusedVariables false
set_option linter.unusedSimpArgs false

theorem ret_int {k : IntKind} {a b : Int} (h : a = b) : Ending.returned (.int k a) = .returned (.int k b) := by rw [h]
/-- Is an address a machine's? -/
def IsDip (a : Int) : Prop := a / 65536 = 2561 ∧ a / 256 % 256 < 8 ∧ a % 256 < 16

/-- A counter of at most m. -/
def KRel (m : Nat) (i : Value) : Prop := ∃ k : Nat, k ≤ m ∧ i = .int .i64 k
theorem refDip (h v : Int) (h0 : 0 ≤ h) (h1 : h < 8) (v0 : 0 ≤ v) (v1 : v < 16) (w : World) : Calls Try.prog 126 #[.int .i64 h, .int .i64 v] w fun e w' => e = .returned (.int .u32 (167837696 + 256 * h + v)) ∧ w = w' := by
  go_enter Try.func126, Try.ntmps126
  go_wp2
  go_ret
  exact ⟨rfl, rfl⟩
set_option maxHeartbeats 1000000 in
theorem refHome_no (a : Int) (hd : ¬ IsDip a) (w : World) :
    Calls Try.prog 106 #[.int .u32 a] w fun e w' => e = .returned (.tuple #[.int .i64 0, .int .i64 0, .bool false]) ∧ w = w' := by
  have HD := Lib.hid hd
  clear hd
  go_enter Try.func106, Try.ntmps106
  go_wp2
  go_loop [5] (fun i => KRel 8 i) (fun i => 8 - (intOf i).toNat)
  case atStart => exact ⟨0, by omega, rfl⟩
  case round =>
    obtain ⟨k, hk, rfl⟩ := hrel
    by_cases hlt : k < 8
    · go_wp2
      go_loop [6] (fun i => KRel 16 i) (fun i => 16 - (intOf i).toNat)
      case atStart => exact ⟨0, by omega, rfl⟩
      case round =>
        obtain ⟨j, hj, rfl⟩ := hrel
        by_cases hjt : j < 16
        · obtain ⟨d, ed⟩ : ∃ d, d = 167837696 + 256 * (k : Int) + j := ⟨_, rfl⟩
          have D := refDip k j (by omega) (by omega) (by omega) (by omega)
          rw [← ed] at D
          have hne : (d == a) = false := by
            have : d ≠ a := by
              intro e
              apply HD.out
              unfold IsDip
              omega
            simp [this]
          have DH := Lib.hid D
          clear D ed
          go_wp2_with (go_at_call 126; refine (DH.out _).mono ?_; rintro e w1 ⟨rfl, rfl⟩)
          go_round
          case rel => exact ⟨j + 1, by omega, by go_num⟩
          case measure => simp [intOf]; omega
        · go_wp2
          go_round
          case rel => exact ⟨k + 1, by omega, by go_num⟩
          case measure => simp [intOf]; omega
    · go_wp2
      go_ret3
      exact ⟨rfl, rfl⟩

set_option maxHeartbeats 1000000 in
theorem refHome_ok (a : Int) (hd : IsDip a) (w : World) :
    Calls Try.prog 106 #[.int .u32 a] w fun e w' => e = .returned (.tuple #[.int .i64 (a / 256 % 256), .int .i64 (a % 256), .bool true]) ∧ w = w' := by
  obtain ⟨p1, p2, p3⟩ := hd
  obtain ⟨h, eh⟩ : ∃ h : Nat, (h : Int) = a / 256 % 256 := ⟨(a / 256 % 256).toNat, by omega⟩
  obtain ⟨v, ev⟩ : ∃ v : Nat, (v : Int) = a % 256 := ⟨(a % 256).toNat, by omega⟩
  have h1 : h < 8 := by omega
  have v1 : v < 16 := by omega
  have EA := Lib.hid (show 167837696 + 256 * (h : Int) + v = a by omega)
  rw [← eh, ← ev]
  clear p1 p2 p3 eh ev
  go_enter Try.func106, Try.ntmps106
  go_wp2
  go_loop [5] (fun i => KRel h i) (fun i => 8 - (intOf i).toNat)
  case atStart => exact ⟨0, by omega, rfl⟩
  case round =>
    obtain ⟨k, hk, rfl⟩ := hrel
    by_cases hkh : k = h
    · subst hkh
      go_wp2
      go_loop [6] (fun i => KRel v i) (fun i => 16 - (intOf i).toNat)
      case atStart => exact ⟨0, by omega, rfl⟩
      case round =>
        obtain ⟨j, hj, rfl⟩ := hrel
        by_cases hjv : j = v
        · subst hjv
          have D := refDip k j (by omega) (by omega) (by omega) (by omega)
          rw [EA.out] at D
          have DH := Lib.hid D
          clear D
          go_wp2_with (go_at_call 126; refine (DH.out _).mono ?_; rintro e w1 ⟨rfl, rfl⟩)
          go_ret3
          exact ⟨rfl, rfl⟩
        · obtain ⟨d, ed⟩ : ∃ d, d = 167837696 + 256 * (k : Int) + j := ⟨_, rfl⟩
          have D := refDip k j (by omega) (by omega) (by omega) (by omega)
          rw [← ed] at D
          have hne : (d == a) = false := by
            have := EA.out
            simp
            omega
          have hjt : j < 16 := by omega
          have hjl : j < v := by omega
          have DH := Lib.hid D
          clear D ed hjv
          go_wp2_with (go_at_call 126; refine (DH.out _).mono ?_; rintro e w1 ⟨rfl, rfl⟩)
          go_round
          case rel => exact ⟨j + 1, by omega, by go_num⟩
          case measure => simp [intOf]; omega
    · have hkl : k < h := by omega
      clear hkh
      go_wp2
      go_loop [6] (fun i => KRel 16 i) (fun i => 16 - (intOf i).toNat)
      case atStart => exact ⟨0, by omega, rfl⟩
      case round =>
        obtain ⟨j, hj, rfl⟩ := hrel
        by_cases hjt : j < 16
        · obtain ⟨d, ed⟩ : ∃ d, d = 167837696 + 256 * (k : Int) + j := ⟨_, rfl⟩
          have D := refDip k j (by omega) (by omega) (by omega) (by omega)
          rw [← ed] at D
          have hne : (d == a) = false := by
            have := EA.out
            simp
            omega
          have DH := Lib.hid D
          clear D ed
          go_wp2_with (go_at_call 126; refine (DH.out _).mono ?_; rintro e w1 ⟨rfl, rfl⟩)
          go_round
          case rel => exact ⟨j + 1, by omega, by go_num⟩
          case measure => simp [intOf]; omega
        · go_wp2
          go_round
          case rel => exact ⟨k + 1, by omega, by go_num⟩
          case measure => simp [intOf]; omega
end Go.Proofs.Ytnhnpfhfcbmmlaa
