/- Contracts of sum.carry and of the document's carried. Condition: the numbers fit their kinds. -/
import Derived.Test.YtfbmeoiaedlgoaaSumP
import Derived.WalkKit
import Derived.WalkSpells
import Derived.WalkLawsBesides
import Derived.RegionTactic
import Derived.Deep.QuietTactic
import Derived.BigQuiet
import Derived.Outline
import Derived.Lib.Hide
import Derived.LoopTactic
import Derived.Laws.BitsAllLaws
namespace Go.Proofs.Ytfbmeoiaedlgoaa
open Go Go.RowKit
set_option linter.unusedVariables false
set_option linter.unusedSimpArgs false

theorem low16 (s : Int) (h0 : 0 ≤ s) (h1 : s < 18446744073709551616) : bits .and .u64 s 65535 = s % 65536 := by
  rw [u64_and s 65535 h0 h1 (by decide) (by decide), show ((65535 : Int).toNat) = 65535 from rfl, nat_mask16]
  omega
theorem carry_any (t : Int) (h0 : 0 ≤ t) (h1 : t < 18446744073709551616) (w : World) :
    Calls Try.prog 63 #[.int .u64 t] w fun e w' => e = .returned (.int .u16 (car t)) ∧ w = w' := by
  go_enter Try.func63, Try.ntmps63
  go_wp2
  go_loop [0] (fun v => ∃ s : Int, v = .int .u64 s ∧ 0 ≤ s ∧ s ≤ t ∧ Hid (car s = car t)) (fun v => (intOf v).toNat)
  case atStart => exact ⟨t, rfl, h0, Int.le_refl _, Lib.hid rfl⟩
  case round =>
    obtain ⟨s, rfl, s0, s1, hs⟩ := hrel
    have hl := low16 s s0 (by omega)
    by_cases hlt : 65535 < s
    · go_wp2
      go_round
      case rel => exact ⟨_, rfl, by omega, by omega, Lib.hid (by rw [car_step (by omega)]; exact hs.out)⟩
      case measure => simp [intOf]; omega
    · go_wp2
      go_ret
      exact ⟨by rw [← hs.out, car_small s0 (by omega)]; rfl, rfl⟩

theorem carried_any (t : Int) (h0 : 0 ≤ t) (h1 : t < 18446744073709551616) (w : World) :
    Calls Try.prog 48 #[.int .u64 t] w fun e w' => e = .returned (.int .u64 (car t)) ∧ w = w' := by
  go_enter Try.func48, Try.ntmps48
  go_wp2
  go_loop [0] (fun v => ∃ s : Int, v = .int .u64 s ∧ 0 ≤ s ∧ s ≤ t ∧ Hid (car s = car t)) (fun v => (intOf v).toNat)
  case atStart => exact ⟨t, rfl, h0, Int.le_refl _, Lib.hid rfl⟩
  case round =>
    obtain ⟨s, rfl, s0, s1, hs⟩ := hrel
    by_cases hlt : 65535 < s
    · go_wp2
      go_round
      case rel => exact ⟨_, rfl, by omega, by omega, Lib.hid (by rw [car_step (by omega)]; exact hs.out)⟩
      case measure => simp [intOf]; omega
    · go_wp2
      go_ret
      exact ⟨by rw [← hs.out, car_small s0 (by omega)]; rfl, rfl⟩
end Go.Proofs.Ytfbmeoiaedlgoaa
