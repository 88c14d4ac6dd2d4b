/- Contracts of sum's small functions, carry and shiftOut, and of the document's carried. Condition: the numbers fit their kinds. -/
import Derived.Test.YtjmpmegodhglcaaP1
import Derived.WalkKit
import Derived.WalkSpells
import Derived.WalkLawsBesides
import Derived.RegionTactic
import Derived.Deep.QuietTactic
import Derived.BigQuiet
import Derived.Outline
import Derived.Lib.Hide
import Derived.LoopTactic
import Derived.Laws.BitsAllLaws
namespace Go.Proofs.Ytjmpmegodhglcaa
open Go Go.RowKit

theorem low16 (s : Int) (h0 : 0 ≤ s) (h1 : s < 18446744073709551616) : bits .and .u64 s 65535 = s % 65536 := by
  rw [u64_and s 65535 h0 h1 (by decide) (by decide), show ((65535 : Int).toNat) = 65535 from rfl, nat_mask16]
  omega
theorem carry_any (t : Int) (h0 : 0 ≤ t) (h1 : t < 18446744073709551616) (w : World) :
    Calls Try.prog 20 #[.int .u64 t] w fun e w' => e = .returned (.int .u16 (car t)) ∧ w = w' := by
  go_enter Try.func20, Try.ntmps20
  go_wp2
  go_loop [0] (fun v => ∃ s : Int, v = .int .u64 s ∧ 0 ≤ s ∧ s ≤ t ∧ Hid (car s = car t)) (fun v => (intOf v).toNat)
  case atStart => exact ⟨t, rfl, h0, Int.le_refl _, Lib.hid rfl⟩
  case round =>
    obtain ⟨s, rfl, s0, s1, hs⟩ := hrel
    have hl := low16 s s0 (by omega)
    by_cases hlt : 65535 < s
    · go_wp2
      go_round
      case rel => exact ⟨_, rfl, by omega, by omega, Lib.hid (by rw [car_step (by omega)]; exact hs.out)⟩
      case measure => simp [intOf]; omega
    · go_wp2
      go_ret
      exact ⟨by rw [← hs.out, car_small s0 (by omega)]; rfl, rfl⟩

theorem carried_any (t : Int) (h0 : 0 ≤ t) (h1 : t < 18446744073709551616) (w : World) :
    Calls Try.prog 22 #[.int .u64 t] w fun e w' => e = .returned (.int .u64 (car t)) ∧ w = w' := by
  go_enter Try.func22, Try.ntmps22
  go_wp2
  go_loop [0] (fun v => ∃ s : Int, v = .int .u64 s ∧ 0 ≤ s ∧ s ≤ t ∧ Hid (car s = car t)) (fun v => (intOf v).toNat)
  case atStart => exact ⟨t, rfl, h0, Int.le_refl _, Lib.hid rfl⟩
  case round =>
    obtain ⟨s, rfl, s0, s1, hs⟩ := hrel
    by_cases hlt : 65535 < s
    · go_wp2
      go_round
      case rel => exact ⟨_, rfl, by omega, by omega, Lib.hid (by rw [car_step (by omega)]; exact hs.out)⟩
      case measure => simp [intOf]; omega
    · go_wp2
      go_ret
      exact ⟨by rw [← hs.out, car_small s0 (by omega)]; rfl, rfl⟩

/-- So many shifts. -/
def stN : Nat → Nat → Nat
  | 0, s => s
  | n + 1, s => stN n (st s)
theorem st8_N (x : Nat) : st8 x = stN 8 x := rfl
theorem stN_next {k s x : Nat} (h : stN (8 - k) s = st8 x) (hk : k < 8) : stN (8 - (k + 1)) (st s) = st8 x := by
  rw [show 8 - k = (8 - (k + 1)) + 1 by omega] at h
  exact h
theorem low1 (s : Nat) (h1 : s < 4294967296) : bits .and .u32 (s : Int) 1 = ((s % 2 : Nat) : Int) := by
  have h := u32_and_nat s 1 h1 (by decide)
  rw [nat_mask1] at h
  exact h
theorem turn (s : Nat) (h1 : s < 4294967296) : bits .xor .u32 (s : Int) 3988292384 = ((s ^^^ 3988292384 : Nat) : Int) :=
  u32_xor_nat s 3988292384 h1 (by decide)
theorem shiftOut_any (x : Nat) (h1 : x < 4294967296) (w : World) :
    Calls Try.prog 23 #[.int .u32 x] w fun e w' => e = .returned (.int .u32 (st8 x)) ∧ w = w' := by
  go_enter Try.func23, Try.ntmps23
  go_wp2
  go_loop [0, 4] (fun v i => ∃ k s : Nat, k ≤ 8 ∧ i = .int .i64 k ∧ v = .int .u32 s ∧ s < 4294967296 ∧ Hid (stN (8 - k) s = st8 x)) (fun _ i => 8 - (intOf i).toNat)
  case atStart => exact ⟨0, x, by omega, rfl, rfl, h1, Lib.hid rfl⟩
  case round =>
    obtain ⟨k, s, hk, rfl, rfl, s1, hs⟩ := hrel
    by_cases hlt : k < 8
    · have hs' := Lib.hid (stN_next hs.out hlt)
      have hl := low1 s s1
      by_cases ho : s % 2 = 1
      · rw [ho] at hl
        have hx := turn (s / 2) (by omega)
        have hst : st s = s / 2 ^^^ 3988292384 := by unfold st; rw [if_pos ho]
        have hlt' := st_lt s1
        rw [hst] at hs' hlt'
        obtain ⟨y, hy⟩ : ∃ y, y = s / 2 ^^^ 3988292384 := ⟨_, rfl⟩
        rw [← hy] at hs' hlt' hx
        have hx' : bits .xor .u32 ((s : Int) / 2) 3988292384 = y := hx
        clear hx hst hy
        go_wp2
        go_round
        case rel => exact ⟨k + 1, y, by omega, by go_num, rfl, hlt', hs'⟩
        case measure => simp [intOf]; omega
      · rw [show s % 2 = 0 by omega] at hl
        have hst : st s = s / 2 := by unfold st; rw [if_neg ho]
        rw [hst] at hs'
        go_wp2
        go_round
        case rel => exact ⟨k + 1, s / 2, by omega, by go_num, rfl, by omega, hs'⟩
        case measure => simp [intOf]; omega
    · rw [show k = 8 by omega] at hs
      go_wp2
      go_ret
      exact ⟨by rw [← hs.out]; rfl, rfl⟩
end Go.Proofs.Ytjmpmegodhglcaa
