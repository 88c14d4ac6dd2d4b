/- Small calls: nodes, times, vips; the program's and the document's. Conditions: those stated. -/
import Derived.Test.YtlmkmbpikhagiaaRowA
import Derived.Test.YtlmkmbpikhagiaaRowI
import Derived.Test.YtlmkmbpikhagiaaQStB
import Derived.Test.YtlmkmbpikhagiaaTch
import Derived.Lib.Hide
import Derived.LoopTactic
import Derived.LoopN
namespace Go.Proofs.Ytlmkmbpikhagiaa
open Go Go.RowKit
set_option linter.unusedVariables false
set_option linter.unusedSimpArgs false

def i64c (n : Int) : Prop := -9223372036854775808 ≤ n ∧ n ≤ 9223372036854775807
def u32c (n : Int) : Prop := 0 ≤ n ∧ n < 4294967296
def IsMux (n : Int) : Prop := 32 ≤ n ∧ n ≤ 39
instance (n : Int) : Decidable (IsMux n) := by unfold IsMux; infer_instance
def IsTm (n : Int) : Prop := 0 ≤ n ∧ n ≤ 1099511627776
instance (n : Int) : Decidable (IsTm n) := by unfold IsTm; infer_instance
def IsVp (a : Int) : Prop := 1 ≤ a / 16777216 ∧ a / 16777216 ≤ 223 ∧ a / 16777216 ≠ 10 ∧ a / 16777216 ≠ 127
instance (n : Int) : Decidable (IsVp n) := by unfold IsVp; infer_instance
def IsNode (n : Int) : Prop := n = 0 ∨ (16 ≤ n ∧ n ≤ 23) ∨ (32 ≤ n ∧ n ≤ 39) ∨ (48 ≤ n ∧ n ≤ 55)
instance (n : Int) : Decidable (IsNode n) := by unfold IsNode; infer_instance

/-- A counter of at most m. -/
def KRel (m : Nat) (i : Value) : Prop := ∃ k : Nat, k ≤ m ∧ i = .int .i64 k
theorem places_0 (w : World) : Calls Try.prog 60 #[.int .i64 0] w fun e w' => e = .returned (.int .i64 1) ∧ w = w' := by
  go_enter Try.func60, Try.ntmps60
  go_wp2
  go_ret
  exact ⟨rfl, rfl⟩
theorem places_8 (k : Int) (h : k = 16 ∨ k = 32 ∨ k = 48) (w : World) : Calls Try.prog 60 #[.int .i64 k] w fun e w' => e = .returned (.int .i64 8) ∧ w = w' := by
  rcases h with rfl | rfl | rfl
  all_goals
    go_enter Try.func60, Try.ntmps60
    go_wp2
    go_ret
    exact ⟨rfl, rfl⟩
theorem places_no (k : Int) (h0 : k ≠ 0) (h1 : k ≠ 16) (h2 : k ≠ 32) (h3 : k ≠ 48) (w : World) : Calls Try.prog 60 #[.int .i64 k] w fun e w' => e = .returned (.int .i64 0) ∧ w = w' := by
  have b0 : (k == 0) = false := by simp [h0]
  have b1 : (k == 16) = false := by simp [h1]
  have b2 : (k == 32) = false := by simp [h2]
  have b3 : (k == 48) = false := by simp [h3]
  clear h0 h1 h2 h3
  go_enter Try.func60, Try.ntmps60
  go_wp2
  go_ret
  exact ⟨rfl, rfl⟩

theorem kat0 (w : World) : (Instr.index 105 (.agg #[.int .i64 0, .int .i64 16, .int .i64 32, .int .i64 48]) (.int .i64 0)).run Try.prog w = .ok (.int .i64 0) w := by kernel_rfl
theorem kat1 (w : World) : (Instr.index 105 (.agg #[.int .i64 0, .int .i64 16, .int .i64 32, .int .i64 48]) (.int .i64 1)).run Try.prog w = .ok (.int .i64 16) w := by kernel_rfl
theorem kat2 (w : World) : (Instr.index 105 (.agg #[.int .i64 0, .int .i64 16, .int .i64 32, .int .i64 48]) (.int .i64 2)).run Try.prog w = .ok (.int .i64 32) w := by kernel_rfl
theorem kat3 (w : World) : (Instr.index 105 (.agg #[.int .i64 0, .int .i64 16, .int .i64 32, .int .i64 48]) (.int .i64 3)).run Try.prog w = .ok (.int .i64 48) w := by kernel_rfl

/-- A node's kind. -/
def kd (n : Int) : Int := n / 16 * 16

/-- A counter of at most m. -/
theorem kind_no (n : Int) (hm : n ≤ 9223372036854775807) (h : ¬ IsNode n) (w : World) : Calls Try.prog 50 #[.int .i64 n] w fun e w' => e = .returned (.tuple #[.int .i64 0, .int .i64 0, .bool false]) ∧ w = w' := by
  have e0 := kat0
  have e1 := kat1
  have e2 := kat2
  have e3 := kat3
  have q0 : n < 0 ∨ (0 ≤ n ∧ 1 ≤ n) := by unfold IsNode at h; omega
  have q1 : n < 16 ∨ (16 ≤ n ∧ 24 ≤ n) := by unfold IsNode at h; omega
  have q2 : n < 32 ∨ (32 ≤ n ∧ 40 ≤ n) := by unfold IsNode at h; omega
  have q3 : n < 48 ∨ (48 ≤ n ∧ 56 ≤ n) := by unfold IsNode at h; omega
  have Q := Lib.hid (And.intro q0 (And.intro q1 (And.intro q2 q3)))
  clear h q0 q1 q2 q3
  go_enter Try.func50, Try.ntmps50
  go_wp2
  go_loop [8] (fun i => KRel 4 i) (fun i => 4 - (intOf i).toNat)
  case atStart => exact ⟨0, by omega, rfl⟩
  case round =>
    obtain ⟨k, hk, rfl⟩ := hrel
    have hk' : k = 0 ∨ k = 1 ∨ k = 2 ∨ k = 3 ∨ k = 4 := by omega
    rcases hk' with rfl | rfl | rfl | rfl | rfl
    · rcases Q.out.1 with h | ⟨h, h'⟩
      all_goals
        go_wp2_with (go_at_call 60; refine (places_0 _).mono ?_; rintro e w' ⟨rfl, rfl⟩)
        go_round
        case rel => exact ⟨1, by omega, rfl⟩
        case measure => simp [intOf]
    · rcases Q.out.2.1 with h | ⟨h, h'⟩
      all_goals
        go_wp2_with (go_at_call 60; refine (places_8 16 (by decide) _).mono ?_; rintro e w' ⟨rfl, rfl⟩)
        go_round
        case rel => exact ⟨2, by omega, rfl⟩
        case measure => simp [intOf]
    · rcases Q.out.2.2.1 with h | ⟨h, h'⟩
      all_goals
        go_wp2_with (go_at_call 60; refine (places_8 32 (by decide) _).mono ?_; rintro e w' ⟨rfl, rfl⟩)
        go_round
        case rel => exact ⟨3, by omega, rfl⟩
        case measure => simp [intOf]
    · rcases Q.out.2.2.2 with h | ⟨h, h'⟩
      all_goals
        go_wp2_with (go_at_call 60; refine (places_8 48 (by decide) _).mono ?_; rintro e w' ⟨rfl, rfl⟩)
        go_round
        case rel => exact ⟨4, by omega, rfl⟩
        case measure => simp [intOf]
    · go_wp2
      go_ret3
      exact ⟨rfl, rfl⟩

/-- One round of Kind's loop at which the node is not of that kind; the last one finds it. -/
theorem kind_ok (n : Int) (h : IsNode n) (w : World) : Calls Try.prog 50 #[.int .i64 n] w fun e w' => e = .returned (.tuple #[.int .i64 (kd n), .int .i64 (n - kd n), .bool true]) ∧ w = w' := by
  have e0 := kat0
  have e1 := kat1
  have e2 := kat2
  have e3 := kat3
  obtain ⟨c, hc⟩ : ∃ c, c = kd n := ⟨_, rfl⟩
  rw [← hc]
  unfold kd at hc
  have h' : (c = 0 ∧ n = 0) ∨ (c = 16 ∧ 16 ≤ n ∧ n < 24) ∨ (c = 32 ∧ 32 ≤ n ∧ n < 40) ∨ (c = 48 ∧ 48 ≤ n ∧ n < 56) := by unfold IsNode at h; omega
  clear h hc
  rcases h' with ⟨rfl, rfl⟩ | ⟨rfl, g0, g1⟩ | ⟨rfl, g0, g1⟩ | ⟨rfl, g0, g1⟩
  · go_enter Try.func50, Try.ntmps50
    go_wp2
    go_loop [8] (fun i => KRel 0 i) (fun i => 4 - (intOf i).toNat)
    case atStart => exact ⟨0, by omega, rfl⟩
    case round =>
      obtain ⟨k, hk, rfl⟩ := hrel
      have hk' : k = 0 := by omega
      rcases hk' with rfl
      · go_wp2_with (go_at_call 60; refine (places_0 _).mono ?_; rintro e w' ⟨rfl, rfl⟩)
        go_ret3
        exact ⟨rfl, rfl⟩
  · go_enter Try.func50, Try.ntmps50
    go_wp2
    go_loop [8] (fun i => KRel 1 i) (fun i => 4 - (intOf i).toNat)
    case atStart => exact ⟨0, by omega, rfl⟩
    case round =>
      obtain ⟨k, hk, rfl⟩ := hrel
      have hk' : k = 0 ∨ k = 1 := by omega
      rcases hk' with rfl | rfl
      · go_wp2_with (go_at_call 60; refine (places_0 _).mono ?_; rintro e w' ⟨rfl, rfl⟩)
        go_round
        case rel => exact ⟨1, by omega, rfl⟩
        case measure => simp [intOf]
      · go_wp2_with (go_at_call 60; refine (places_8 16 (by decide) _).mono ?_; rintro e w' ⟨rfl, rfl⟩)
        go_ret3
        exact ⟨rfl, rfl⟩
  · go_enter Try.func50, Try.ntmps50
    go_wp2
    go_loop [8] (fun i => KRel 2 i) (fun i => 4 - (intOf i).toNat)
    case atStart => exact ⟨0, by omega, rfl⟩
    case round =>
      obtain ⟨k, hk, rfl⟩ := hrel
      have hk' : k = 0 ∨ k = 1 ∨ k = 2 := by omega
      rcases hk' with rfl | rfl | rfl
      · go_wp2_with (go_at_call 60; refine (places_0 _).mono ?_; rintro e w' ⟨rfl, rfl⟩)
        go_round
        case rel => exact ⟨1, by omega, rfl⟩
        case measure => simp [intOf]
      · go_wp2_with (go_at_call 60; refine (places_8 16 (by decide) _).mono ?_; rintro e w' ⟨rfl, rfl⟩)
        go_round
        case rel => exact ⟨2, by omega, rfl⟩
        case measure => simp [intOf]
      · go_wp2_with (go_at_call 60; refine (places_8 32 (by decide) _).mono ?_; rintro e w' ⟨rfl, rfl⟩)
        go_ret3
        exact ⟨rfl, rfl⟩
  · go_enter Try.func50, Try.ntmps50
    go_wp2
    go_loop [8] (fun i => KRel 3 i) (fun i => 4 - (intOf i).toNat)
    case atStart => exact ⟨0, by omega, rfl⟩
    case round =>
      obtain ⟨k, hk, rfl⟩ := hrel
      have hk' : k = 0 ∨ k = 1 ∨ k = 2 ∨ k = 3 := by omega
      rcases hk' with rfl | rfl | rfl | rfl
      · go_wp2_with (go_at_call 60; refine (places_0 _).mono ?_; rintro e w' ⟨rfl, rfl⟩)
        go_round
        case rel => exact ⟨1, by omega, rfl⟩
        case measure => simp [intOf]
      · go_wp2_with (go_at_call 60; refine (places_8 16 (by decide) _).mono ?_; rintro e w' ⟨rfl, rfl⟩)
        go_round
        case rel => exact ⟨2, by omega, rfl⟩
        case measure => simp [intOf]
      · go_wp2_with (go_at_call 60; refine (places_8 32 (by decide) _).mono ?_; rintro e w' ⟨rfl, rfl⟩)
        go_round
        case rel => exact ⟨3, by omega, rfl⟩
        case measure => simp [intOf]
      · go_wp2_with (go_at_call 60; refine (places_8 48 (by decide) _).mono ?_; rintro e w' ⟨rfl, rfl⟩)
        go_ret3
        exact ⟨rfl, rfl⟩
theorem split_any (a : Int) (h0 : 0 ≤ a) (h1 : a < 4294967296) (w : World) :
    Calls Try.prog 61 #[.int .u32 a] w fun e w' => e = .returned (.agg #[.int .u8 (a / 16777216), .int .u8 (a / 65536 % 256), .int .u8 (a / 256 % 256), .int .u8 (a % 256)]) ∧ Below w.heap.size w w' := by
  go_enter Try.func61, Try.ntmps61
  go_wp2
  exact bodyPost_ret (v := .agg #[.int .u8 (a / 16777216), .int .u8 (a / 65536 % 256), .int .u8 (a / 256 % 256), .int .u8 (a % 256)]) (by simp [results, Try.results61, go_sem]) rfl ⟨rfl, (Below.refl _ _).alloc (Nat.le_refl _) _⟩

theorem at0 (x0 x1 x2 x3 : Value) (w : World) : (Instr.index 107 (.agg #[x0, x1, x2, x3]) (.int .i64 0)).run Try.prog w = .ok x0 w := by kernel_rfl
theorem mux_c (n : Int) (hn : i64c n) (w : World) : Calls Try.prog 33 #[.int .i64 n] w fun e w' => e = .returned (.bool (decide (IsMux n))) ∧ w = w' := by
  by_cases h : IsNode n
  · have K := Lib.hid (kind_ok n h)
    by_cases hm : IsMux n
    · rw [decide_eq_true hm]
      have e1 : kd n = 32 := by unfold kd; unfold IsMux at hm; omega
      rw [e1] at K
      clear hm h hn e1
      go_enter Try.func33, Try.ntmps33
      go_wp2_with fail
      refine (K.out _).mono ?_
      rintro e w1 ⟨rfl, rfl⟩
      go_wp2
      go_ret
      exact ⟨rfl, rfl⟩
    · rw [decide_eq_false hm]
      have e1 : kd n ≠ 32 := by unfold kd; unfold IsMux at hm; unfold IsNode at h; omega
      obtain ⟨k, hk⟩ : ∃ k, k = kd n := ⟨_, rfl⟩
      rw [← hk] at K e1
      have e2 : (k == 32) = false := by simp [e1]
      clear hm h hn e1 hk
      go_enter Try.func33, Try.ntmps33
      go_wp2_with fail
      refine (K.out _).mono ?_
      rintro e w1 ⟨rfl, rfl⟩
      go_wp2
      go_ret
      exact ⟨rfl, rfl⟩
  · have K := Lib.hid (kind_no n hn.2 h)
    rw [decide_eq_false (fun hm => h (by unfold IsMux at hm; unfold IsNode; omega))]
    clear h hn
    go_enter Try.func33, Try.ntmps33
    go_wp2_with fail
    refine (K.out _).mono ?_
    rintro e w1 ⟨rfl, rfl⟩
    go_wp2
    go_ret
    exact ⟨rfl, rfl⟩
theorem time_c (n : Int) (w : World) : Calls Try.prog 34 #[.int .i64 n] w fun e w' => e = .returned (.bool (decide (IsTm n))) ∧ w = w' := by
  by_cases h0 : 0 ≤ n
  · by_cases h1 : n ≤ 1099511627776
    · rw [decide_eq_true (show IsTm n from ⟨h0, h1⟩)]
      go_enter Try.func34, Try.ntmps34
      go_wp2
      go_ret
      exact ⟨rfl, rfl⟩
    · rw [decide_eq_false (fun h : IsTm n => h1 h.2)]
      have h2 : 1099511627776 < n := by omega
      go_enter Try.func34, Try.ntmps34
      go_wp2
      go_ret
      exact ⟨rfl, rfl⟩
  · rw [decide_eq_false (fun h : IsTm n => h0 h.1)]
    have h2 : n < 0 := by omega
    go_enter Try.func34, Try.ntmps34
    go_wp2
    go_ret
    exact ⟨rfl, rfl⟩
theorem timeR_c (n : Int) (w : World) : Calls Try.prog 42 #[.int .i64 n] w fun e w' => e = .returned (.bool (decide (IsTm n))) ∧ w = w' := by
  by_cases h0 : 0 ≤ n
  · by_cases h1 : n ≤ 1099511627776
    · rw [decide_eq_true (show IsTm n from ⟨h0, h1⟩)]
      go_enter Try.func42, Try.ntmps42
      go_wp2
      go_ret
      exact ⟨rfl, rfl⟩
    · rw [decide_eq_false (fun h : IsTm n => h1 h.2)]
      have h2 : 1099511627776 < n := by omega
      go_enter Try.func42, Try.ntmps42
      go_wp2
      go_ret
      exact ⟨rfl, rfl⟩
  · rw [decide_eq_false (fun h : IsTm n => h0 h.1)]
    have h2 : n < 0 := by omega
    go_enter Try.func42, Try.ntmps42
    go_wp2
    go_ret
    exact ⟨rfl, rfl⟩
theorem muxR_c (n : Int) (w : World) : Calls Try.prog 10 #[.int .i64 n] w fun e w' => e = .returned (.bool (decide (IsMux n))) ∧ w = w' := by
  by_cases h0 : 32 ≤ n
  · by_cases h1 : n ≤ 39
    · rw [decide_eq_true (show IsMux n from ⟨h0, h1⟩)]
      go_enter Try.func10, Try.ntmps10
      go_wp2
      go_ret
      exact ⟨rfl, rfl⟩
    · rw [decide_eq_false (fun h : IsMux n => h1 h.2)]
      have h2 : 39 < n := by omega
      go_enter Try.func10, Try.ntmps10
      go_wp2
      go_ret
      exact ⟨rfl, rfl⟩
  · rw [decide_eq_false (fun h : IsMux n => h0 h.1)]
    have h2 : n < 32 := by omega
    go_enter Try.func10, Try.ntmps10
    go_wp2
    go_ret
    exact ⟨rfl, rfl⟩
theorem vip_cases (f : Int) : (f < 1 ∨ 223 < f ∨ f = 10 ∨ f = 127) ∨ (1 ≤ f ∧ f ≤ 223 ∧ f ≠ 10 ∧ f ≠ 127) := by omega
theorem vip_c (a : Int) (ha : u32c a) (w : World) : Calls Try.prog 51 #[.int .u32 a] w fun e w' => e = .returned (.bool (decide (IsVp a))) ∧ Below w.heap.size w w' := by
  have S := Lib.hid (split_any a ha.1 ha.2)
  have E : decide (IsVp a) = decide (1 ≤ a / 16777216 ∧ a / 16777216 ≤ 223 ∧ a / 16777216 ≠ 10 ∧ a / 16777216 ≠ 127) := rfl
  rw [E]
  have e0 := at0
  obtain ⟨f, hf⟩ : ∃ f, f = a / 16777216 := ⟨_, rfl⟩
  rw [← hf] at S ⊢
  clear hf ha E
  rcases vip_cases f with (h | h | h | h) | ⟨h1, h2, h3, h4⟩
  · rw [decide_eq_false (by omega)]
    go_enter Try.func51, Try.ntmps51
    go_wp2_with fail
    refine (S.out _).mono ?_
    rintro e w1 ⟨rfl, hb⟩
    go_wp2
    go_ret
    exact ⟨rfl, hb⟩
  · rw [decide_eq_false (by omega)]
    have h0 : 1 ≤ f := by omega
    go_enter Try.func51, Try.ntmps51
    go_wp2_with fail
    refine (S.out _).mono ?_
    rintro e w1 ⟨rfl, hb⟩
    go_wp2
    go_ret
    exact ⟨rfl, hb⟩
  · subst h
    rw [decide_eq_false (by omega)]
    go_enter Try.func51, Try.ntmps51
    go_wp2_with fail
    refine (S.out _).mono ?_
    rintro e w1 ⟨rfl, hb⟩
    go_wp2
    go_ret
    exact ⟨rfl, hb⟩
  · subst h
    rw [decide_eq_false (by omega)]
    go_enter Try.func51, Try.ntmps51
    go_wp2_with fail
    refine (S.out _).mono ?_
    rintro e w1 ⟨rfl, hb⟩
    go_wp2
    go_ret
    exact ⟨rfl, hb⟩
  · rw [decide_eq_true ⟨h1, h2, h3, h4⟩]
    have b3 : (f != 10) = true := by simp [h3]
    have b4 : (f != 127) = true := by simp [h4]
    clear h3 h4
    go_enter Try.func51, Try.ntmps51
    go_wp2_with fail
    refine (S.out _).mono ?_
    rintro e w1 ⟨rfl, hb⟩
    go_wp2
    go_ret
    exact ⟨rfl, hb⟩
theorem byte0_c (a : Int) (ha : u32c a) (w : World) : Calls Try.prog 57 #[.int .u32 a, .int .i64 0] w fun e w' => e = .returned (.int .i64 (a / 16777216)) ∧ w = w' := by
  obtain ⟨h0, h1⟩ := ha
  obtain ⟨f, hf⟩ : ∃ f, f = a / 16777216 := ⟨_, rfl⟩
  have f0 : 0 ≤ f ∧ f < 256 := by omega
  rw [← hf]
  have g1 : Int.tmod f 256 = f := Int.tmod_eq_of_lt f0.1 f0.2
  have g2 : Int.tmod (a / 16777216) 256 = a / 16777216 := by rw [← hf]; exact g1
  go_enter Try.func57, Try.ntmps57
  go_wp2
  go_ret
  refine ⟨?_, rfl⟩
  rw [hf]
  rfl
theorem vipR_c (a : Int) (ha : u32c a) (w : World) : Calls Try.prog 45 #[.int .u32 a] w fun e w' => e = .returned (.bool (decide (IsVp a))) ∧ w = w' := by
  have S := Lib.hid (byte0_c a ha)
  have E : decide (IsVp a) = decide (1 ≤ a / 16777216 ∧ a / 16777216 ≤ 223 ∧ a / 16777216 ≠ 10 ∧ a / 16777216 ≠ 127) := rfl
  rw [E]
  obtain ⟨f, hf⟩ : ∃ f, f = a / 16777216 := ⟨_, rfl⟩
  rw [← hf] at S ⊢
  clear hf ha E
  rcases vip_cases f with (h | h | h | h) | ⟨h1, h2, h3, h4⟩
  · rw [decide_eq_false (by omega)]
    go_enter Try.func45, Try.ntmps45
    go_wp2_with fail
    refine (S.out _).mono ?_
    rintro e w1 ⟨rfl, rfl⟩
    go_wp2
    go_ret
    exact ⟨rfl, rfl⟩
  · rw [decide_eq_false (by omega)]
    have h0 : 1 ≤ f := by omega
    go_enter Try.func45, Try.ntmps45
    go_wp2_with fail
    refine (S.out _).mono ?_
    rintro e w1 ⟨rfl, rfl⟩
    go_wp2
    go_ret
    exact ⟨rfl, rfl⟩
  · subst h
    rw [decide_eq_false (by omega)]
    go_enter Try.func45, Try.ntmps45
    go_wp2_with fail
    refine (S.out _).mono ?_
    rintro e w1 ⟨rfl, rfl⟩
    go_wp2
    go_ret
    exact ⟨rfl, rfl⟩
  · subst h
    rw [decide_eq_false (by omega)]
    go_enter Try.func45, Try.ntmps45
    go_wp2_with fail
    refine (S.out _).mono ?_
    rintro e w1 ⟨rfl, rfl⟩
    go_wp2
    go_ret
    exact ⟨rfl, rfl⟩
  · rw [decide_eq_true ⟨h1, h2, h3, h4⟩]
    have b3 : (f != 10) = true := by simp [h3]
    have b4 : (f != 127) = true := by simp [h4]
    clear h3 h4
    go_enter Try.func45, Try.ntmps45
    go_wp2_with fail
    refine (S.out _).mono ?_
    rintro e w1 ⟨rfl, rfl⟩
    go_wp2
    go_ret
    exact ⟨rfl, rfl⟩
end Go.Proofs.Ytlmkmbpikhagiaa
