/- Nodes: addr's Kind. Conditions: those stated. -/
import Derived.Test.YtnhnpfhfcbmmlaaHmA
import Derived.Test.YtnhnpfhfcbmmlaaVtP
import Derived.Lib.Hide
import Derived.LoopTactic
import Derived.LoopN
namespace Go.Proofs.Ytnhnpfhfcbmmlaa
open Go Go.RowKit
set_option linter.unusedVariables false
set_option linter.unusedSimpArgs false

def IsNode (n : Int) : Prop := n = 0 ∨ (16 ≤ n ∧ n ≤ 23) ∨ (32 ≤ n ∧ n ≤ 39) ∨ (48 ≤ n ∧ n ≤ 55)
instance (n : Int) : Decidable (IsNode n) := by unfold IsNode; infer_instance

theorem places_0 (w : World) : Calls Try.prog 122 #[.int .i64 0] w fun e w' => e = .returned (.int .i64 1) ∧ w = w' := by
  go_enter Try.func122, Try.ntmps122
  go_wp2
  go_ret
  exact ⟨rfl, rfl⟩
theorem places_8 (k : Int) (h : k = 16 ∨ k = 32 ∨ k = 48) (w : World) : Calls Try.prog 122 #[.int .i64 k] w fun e w' => e = .returned (.int .i64 8) ∧ w = w' := by
  rcases h with rfl | rfl | rfl
  all_goals
    go_enter Try.func122, Try.ntmps122
    go_wp2
    go_ret
    exact ⟨rfl, rfl⟩
theorem places_no (k : Int) (h0 : k ≠ 0) (h1 : k ≠ 16) (h2 : k ≠ 32) (h3 : k ≠ 48) (w : World) : Calls Try.prog 122 #[.int .i64 k] w fun e w' => e = .returned (.int .i64 0) ∧ w = w' := by
  have b0 : (k == 0) = false := by simp [h0]
  have b1 : (k == 16) = false := by simp [h1]
  have b2 : (k == 32) = false := by simp [h2]
  have b3 : (k == 48) = false := by simp [h3]
  clear h0 h1 h2 h3
  go_enter Try.func122, Try.ntmps122
  go_wp2
  go_ret
  exact ⟨rfl, rfl⟩

theorem kat0 (w : World) : (Instr.index 190 (.agg #[.int .i64 0, .int .i64 16, .int .i64 32, .int .i64 48]) (.int .i64 0)).run Try.prog w = .ok (.int .i64 0) w := by kernel_rfl
theorem kat1 (w : World) : (Instr.index 190 (.agg #[.int .i64 0, .int .i64 16, .int .i64 32, .int .i64 48]) (.int .i64 1)).run Try.prog w = .ok (.int .i64 16) w := by kernel_rfl
theorem kat2 (w : World) : (Instr.index 190 (.agg #[.int .i64 0, .int .i64 16, .int .i64 32, .int .i64 48]) (.int .i64 2)).run Try.prog w = .ok (.int .i64 32) w := by kernel_rfl
theorem kat3 (w : World) : (Instr.index 190 (.agg #[.int .i64 0, .int .i64 16, .int .i64 32, .int .i64 48]) (.int .i64 3)).run Try.prog w = .ok (.int .i64 48) w := by kernel_rfl

/-- A node's kind. -/
def kd (n : Int) : Int := n / 16 * 16

/-- A counter of at most m. -/
theorem kind_no (n : Int) (hm : n ≤ 9223372036854775807) (h : ¬ IsNode n) (w : World) : Calls Try.prog 101 #[.int .i64 n] w fun e w' => e = .returned (.tuple #[.int .i64 0, .int .i64 0, .bool false]) ∧ w = w' := by
  have e0 := kat0
  have e1 := kat1
  have e2 := kat2
  have e3 := kat3
  have q0 : n < 0 ∨ (0 ≤ n ∧ 1 ≤ n) := by unfold IsNode at h; omega
  have q1 : n < 16 ∨ (16 ≤ n ∧ 24 ≤ n) := by unfold IsNode at h; omega
  have q2 : n < 32 ∨ (32 ≤ n ∧ 40 ≤ n) := by unfold IsNode at h; omega
  have q3 : n < 48 ∨ (48 ≤ n ∧ 56 ≤ n) := by unfold IsNode at h; omega
  have Q := Lib.hid (And.intro q0 (And.intro q1 (And.intro q2 q3)))
  clear h q0 q1 q2 q3
  go_enter Try.func101, Try.ntmps101
  go_wp2
  go_loop [8] (fun i => KRel 4 i) (fun i => 4 - (intOf i).toNat)
  case atStart => exact ⟨0, by omega, rfl⟩
  case round =>
    obtain ⟨k, hk, rfl⟩ := hrel
    have hk' : k = 0 ∨ k = 1 ∨ k = 2 ∨ k = 3 ∨ k = 4 := by omega
    rcases hk' with rfl | rfl | rfl | rfl | rfl
    · rcases Q.out.1 with h | ⟨h, h'⟩
      all_goals
        go_wp2_with (go_at_call 122; refine (places_0 _).mono ?_; rintro e w' ⟨rfl, rfl⟩)
        go_round
        case rel => exact ⟨1, by omega, rfl⟩
        case measure => simp [intOf]
    · rcases Q.out.2.1 with h | ⟨h, h'⟩
      all_goals
        go_wp2_with (go_at_call 122; refine (places_8 16 (by decide) _).mono ?_; rintro e w' ⟨rfl, rfl⟩)
        go_round
        case rel => exact ⟨2, by omega, rfl⟩
        case measure => simp [intOf]
    · rcases Q.out.2.2.1 with h | ⟨h, h'⟩
      all_goals
        go_wp2_with (go_at_call 122; refine (places_8 32 (by decide) _).mono ?_; rintro e w' ⟨rfl, rfl⟩)
        go_round
        case rel => exact ⟨3, by omega, rfl⟩
        case measure => simp [intOf]
    · rcases Q.out.2.2.2 with h | ⟨h, h'⟩
      all_goals
        go_wp2_with (go_at_call 122; refine (places_8 48 (by decide) _).mono ?_; rintro e w' ⟨rfl, rfl⟩)
        go_round
        case rel => exact ⟨4, by omega, rfl⟩
        case measure => simp [intOf]
    · go_wp2
      go_ret3
      exact ⟨rfl, rfl⟩

/-- One round of Kind's loop at which the node is not of that kind; the last one finds it. -/
theorem kind_ok (n : Int) (h : IsNode n) (w : World) : Calls Try.prog 101 #[.int .i64 n] w fun e w' => e = .returned (.tuple #[.int .i64 (kd n), .int .i64 (n - kd n), .bool true]) ∧ w = w' := by
  have e0 := kat0
  have e1 := kat1
  have e2 := kat2
  have e3 := kat3
  obtain ⟨c, hc⟩ : ∃ c, c = kd n := ⟨_, rfl⟩
  rw [← hc]
  unfold kd at hc
  have h' : (c = 0 ∧ n = 0) ∨ (c = 16 ∧ 16 ≤ n ∧ n < 24) ∨ (c = 32 ∧ 32 ≤ n ∧ n < 40) ∨ (c = 48 ∧ 48 ≤ n ∧ n < 56) := by unfold IsNode at h; omega
  clear h hc
  rcases h' with ⟨rfl, rfl⟩ | ⟨rfl, g0, g1⟩ | ⟨rfl, g0, g1⟩ | ⟨rfl, g0, g1⟩
  · go_enter Try.func101, Try.ntmps101
    go_wp2
    go_loop [8] (fun i => KRel 0 i) (fun i => 4 - (intOf i).toNat)
    case atStart => exact ⟨0, by omega, rfl⟩
    case round =>
      obtain ⟨k, hk, rfl⟩ := hrel
      have hk' : k = 0 := by omega
      rcases hk' with rfl
      · go_wp2_with (go_at_call 122; refine (places_0 _).mono ?_; rintro e w' ⟨rfl, rfl⟩)
        go_ret3
        exact ⟨rfl, rfl⟩
  · go_enter Try.func101, Try.ntmps101
    go_wp2
    go_loop [8] (fun i => KRel 1 i) (fun i => 4 - (intOf i).toNat)
    case atStart => exact ⟨0, by omega, rfl⟩
    case round =>
      obtain ⟨k, hk, rfl⟩ := hrel
      have hk' : k = 0 ∨ k = 1 := by omega
      rcases hk' with rfl | rfl
      · go_wp2_with (go_at_call 122; refine (places_0 _).mono ?_; rintro e w' ⟨rfl, rfl⟩)
        go_round
        case rel => exact ⟨1, by omega, rfl⟩
        case measure => simp [intOf]
      · go_wp2_with (go_at_call 122; refine (places_8 16 (by decide) _).mono ?_; rintro e w' ⟨rfl, rfl⟩)
        go_ret3
        exact ⟨rfl, rfl⟩
  · go_enter Try.func101, Try.ntmps101
    go_wp2
    go_loop [8] (fun i => KRel 2 i) (fun i => 4 - (intOf i).toNat)
    case atStart => exact ⟨0, by omega, rfl⟩
    case round =>
      obtain ⟨k, hk, rfl⟩ := hrel
      have hk' : k = 0 ∨ k = 1 ∨ k = 2 := by omega
      rcases hk' with rfl | rfl | rfl
      · go_wp2_with (go_at_call 122; refine (places_0 _).mono ?_; rintro e w' ⟨rfl, rfl⟩)
        go_round
        case rel => exact ⟨1, by omega, rfl⟩
        case measure => simp [intOf]
      · go_wp2_with (go_at_call 122; refine (places_8 16 (by decide) _).mono ?_; rintro e w' ⟨rfl, rfl⟩)
        go_round
        case rel => exact ⟨2, by omega, rfl⟩
        case measure => simp [intOf]
      · go_wp2_with (go_at_call 122; refine (places_8 32 (by decide) _).mono ?_; rintro e w' ⟨rfl, rfl⟩)
        go_ret3
        exact ⟨rfl, rfl⟩
  · go_enter Try.func101, Try.ntmps101
    go_wp2
    go_loop [8] (fun i => KRel 3 i) (fun i => 4 - (intOf i).toNat)
    case atStart => exact ⟨0, by omega, rfl⟩
    case round =>
      obtain ⟨k, hk, rfl⟩ := hrel
      have hk' : k = 0 ∨ k = 1 ∨ k = 2 ∨ k = 3 := by omega
      rcases hk' with rfl | rfl | rfl | rfl
      · go_wp2_with (go_at_call 122; refine (places_0 _).mono ?_; rintro e w' ⟨rfl, rfl⟩)
        go_round
        case rel => exact ⟨1, by omega, rfl⟩
        case measure => simp [intOf]
      · go_wp2_with (go_at_call 122; refine (places_8 16 (by decide) _).mono ?_; rintro e w' ⟨rfl, rfl⟩)
        go_round
        case rel => exact ⟨2, by omega, rfl⟩
        case measure => simp [intOf]
      · go_wp2_with (go_at_call 122; refine (places_8 32 (by decide) _).mono ?_; rintro e w' ⟨rfl, rfl⟩)
        go_round
        case rel => exact ⟨3, by omega, rfl⟩
        case measure => simp [intOf]
      · go_wp2_with (go_at_call 122; refine (places_8 48 (by decide) _).mono ?_; rintro e w' ⟨rfl, rfl⟩)
        go_ret3
        exact ⟨rfl, rfl⟩
end Go.Proofs.Ytnhnpfhfcbmmlaa
