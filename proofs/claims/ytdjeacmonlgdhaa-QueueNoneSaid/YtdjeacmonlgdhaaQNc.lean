/- The contracts of nil queues and lanes. -/
import Derived.Test.YtdjeacmonlgdhaaQdE
import Derived.Test.YtdjeacmonlgdhaaLdc
namespace Go.Proofs.Ytdjeacmonlgdhaa
open Go Go.RowKit
set_option linter.unusedVariables false
set_option linter.unusedSimpArgs false

theorem putN_t (b k c : Nat) (a : Option Addr) (l : List Int) (w : World) (hc : w.cell? ⟨b, 0, none⟩ = some (.slice a k c)) (hI : In w a k c l) (hk : k ≤ 140737488351232) :
    Calls Try.prog 13 #[.pointer none, .slice (some ⟨b, 0, none⟩) 1 1] w fun e w' => e = .returned (.int .i64 0) ∧ Below w.heap.size w w' := putN_q b k c a l w hc hI hk
theorem getN_t (w : World) : Calls Try.prog 16 #[.pointer none] w fun e w' => (∃ v, e = .returned (.tuple #[v, .bool false])) ∧ Below w.heap.size w w' := by
  refine (getN_q w).mono ?_
  rintro e w' ⟨rfl, rfl⟩
  exact ⟨⟨_, rfl⟩, Below.refl _ _⟩
theorem lenN_t (w : World) : Calls Try.prog 22 #[.pointer none] w fun e w' => e = .returned (.int .i64 0) ∧ Below w.heap.size w w' := by
  refine (lenN_q w).mono ?_
  rintro e w' ⟨rfl, rfl⟩
  exact ⟨rfl, Below.refl _ _⟩
theorem roomN_t (w : World) : Calls Try.prog 23 #[.pointer none] w fun e w' => e = .returned (.int .i64 0) ∧ Below w.heap.size w w' := by
  refine (roomN_q w).mono ?_
  rintro e w' ⟨rfl, rfl⟩
  exact ⟨rfl, Below.refl _ _⟩
theorem drainN_t (w : World) : Calls Try.prog 20 #[.pointer none] w fun e w' => (∃ ao c, e = .returned (.slice ao 0 c)) ∧ Below w.heap.size w w' := by
  refine (drainN_q w).mono ?_
  rintro e w' ⟨h, rfl⟩
  exact ⟨h, Below.refl _ _⟩
set_option maxRecDepth 100000 in
theorem urgentN_t (b k c : Nat) (a : Option Addr) (l : List Int) (w : World) (hc : w.cell? ⟨b, 0, none⟩ = some (.slice a k c)) (hI : In w a k c l) (hk : k ≤ 140737488351232) :
    Calls Try.prog 25 #[.pointer none, .slice (some ⟨b, 0, none⟩) 1 1] w fun e w' => e = .returned (.int .i64 0) ∧ Below w.heap.size w w' := by
  have CB := Lib.hid (bothN_t w)
  have CP := Lib.hid (putN_t b k c a l w hc hI hk)
  clear hc hI
  go_enter Try.func25, Try.ntmps25
  go_wp2_with fail
  refine CB.out.mono ?_
  rintro e w0 ⟨rfl, rfl⟩
  clear CB
  go_wp2_with fail
  refine CP.out.mono ?_
  rintro e w1 ⟨rfl, hb⟩
  have HB := Lib.hid hb
  clear hb CP
  go_wp2
  go_ret
  exact ⟨rfl, HB.out⟩
set_option maxRecDepth 100000 in
theorem plainN_t (b k c : Nat) (a : Option Addr) (l : List Int) (w : World) (hc : w.cell? ⟨b, 0, none⟩ = some (.slice a k c)) (hI : In w a k c l) (hk : k ≤ 140737488351232) :
    Calls Try.prog 26 #[.pointer none, .slice (some ⟨b, 0, none⟩) 1 1] w fun e w' => e = .returned (.int .i64 0) ∧ Below w.heap.size w w' := by
  have CB := Lib.hid (bothN_t w)
  have CP := Lib.hid (putN_t b k c a l w hc hI hk)
  clear hc hI
  go_enter Try.func26, Try.ntmps26
  go_wp2_with fail
  refine CB.out.mono ?_
  rintro e w0 ⟨rfl, rfl⟩
  clear CB
  go_wp2_with fail
  refine CP.out.mono ?_
  rintro e w1 ⟨rfl, hb⟩
  have HB := Lib.hid hb
  clear hb CP
  go_wp2
  go_ret
  exact ⟨rfl, HB.out⟩
set_option maxRecDepth 100000 in
theorem lgetN_t (w : World) : Calls Try.prog 27 #[.pointer none] w fun e w' => (∃ v, e = .returned (.tuple #[v, .bool false, .bool false])) ∧ Below w.heap.size w w' := by
  have CB := Lib.hid (bothN_t w)
  have CG := Lib.hid (getN_q w)
  go_enter Try.func27, Try.ntmps27
  go_wp2_with fail
  refine CB.out.mono ?_
  rintro e w0 ⟨rfl, rfl⟩
  clear CB
  go_wp2_with fail
  refine CG.out.mono ?_
  rintro e w0 ⟨rfl, rfl⟩
  go_wp2_with fail
  refine CG.out.mono ?_
  rintro e w0 ⟨rfl, rfl⟩
  clear CG
  go_wp2
  go_ret3
  exact ⟨⟨_, rfl⟩, Below.refl _ _⟩
set_option maxRecDepth 100000 in
theorem llenN_q (w : World) : Calls Try.prog 31 #[.pointer none] w fun e w' => e = .returned (.int .i64 0) ∧ w = w' := by
  have CB := Lib.hid (bothN_t w)
  have CG := Lib.hid (lenN_q w)
  go_enter Try.func31, Try.ntmps31
  go_wp2_with fail
  refine CB.out.mono ?_
  rintro e w0 ⟨rfl, rfl⟩
  clear CB
  go_wp2_with fail
  refine CG.out.mono ?_
  rintro e w0 ⟨rfl, rfl⟩
  go_wp2_with fail
  refine CG.out.mono ?_
  rintro e w0 ⟨rfl, rfl⟩
  clear CG
  go_wp2
  go_ret
  exact ⟨rfl, rfl⟩
theorem llenN_t (w : World) : Calls Try.prog 31 #[.pointer none] w fun e w' => e = .returned (.int .i64 0) ∧ Below w.heap.size w w' := by
  refine (llenN_q w).mono ?_
  rintro e w' ⟨rfl, rfl⟩
  exact ⟨rfl, Below.refl _ _⟩
set_option maxRecDepth 100000 in
theorem takeN_t (n : Int) (hn : -9223372036854775808 ≤ n ∧ n ≤ 9223372036854775807) (w : World) : Calls Try.prog 29 #[.pointer none, .int .i64 n] w fun e w' => (∃ ao c, e = .returned (.slice ao 0 c)) ∧ Below w.heap.size w w' := by
  have CL := Lib.hid (llenN_q w)
  go_enter Try.func29, Try.ntmps29
  rcases Int.lt_trichotomy n 0 with hmn | hmn | hmn
  · go_wp2_with fail
    refine CL.out.mono ?_
    rintro e w0 ⟨rfl, rfl⟩
    clear CL
    go_wp2
    go_loopw [5, 13] (fun v i wr => v = .slice none 0 0 ∧ i = .int .i64 0 ∧ Hid (w = wr)) (fun _ _ _ => 0)
    case atStart => exact ⟨rfl, rfl, Lib.hid rfl⟩
    case round =>
      obtain ⟨rfl, rfl, hw⟩ := hrel
      have hw' := hw.out
      subst hw'
      clear hw
      have hx : ¬ 0 < n := by omega
      go_wp2
      go_ret
      exact ⟨⟨_, _, rfl⟩, Below.refl _ _⟩
  · subst hmn
    go_wp2_with fail
    refine CL.out.mono ?_
    rintro e w0 ⟨rfl, rfl⟩
    clear CL
    go_wp2
    go_loopw [5, 13] (fun v i wr => v = .slice none 0 0 ∧ i = .int .i64 0 ∧ Hid (w = wr)) (fun _ _ _ => 0)
    case atStart => exact ⟨rfl, rfl, Lib.hid rfl⟩
    case round =>
      obtain ⟨rfl, rfl, hw⟩ := hrel
      have hw' := hw.out
      subst hw'
      clear hw
      go_wp2
      go_ret
      exact ⟨⟨_, _, rfl⟩, Below.refl _ _⟩
  · go_wp2_with fail
    refine CL.out.mono ?_
    rintro e w0 ⟨rfl, rfl⟩
    clear CL
    go_wp2
    go_loopw [5, 13] (fun v i wr => v = .slice none 0 0 ∧ i = .int .i64 0 ∧ Hid (w = wr)) (fun _ _ _ => 0)
    case atStart => exact ⟨rfl, rfl, Lib.hid rfl⟩
    case round =>
      obtain ⟨rfl, rfl, hw⟩ := hrel
      have hw' := hw.out
      subst hw'
      clear hw
      go_wp2
      go_ret
      exact ⟨⟨_, _, rfl⟩, Below.refl _ _⟩
end Go.Proofs.Ytdjeacmonlgdhaa
