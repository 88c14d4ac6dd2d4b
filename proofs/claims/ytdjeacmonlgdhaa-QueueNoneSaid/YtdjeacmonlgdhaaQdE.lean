/- Nil queues and lanes. -/
import Derived.Test.YtdjeacmonlgdhaaQdQ
import Derived.Test.YtdjeacmonlgdhaaQdN
import Derived.Deep.LoopGhost
namespace Go.Proofs.Ytdjeacmonlgdhaa
open Go Go.Conc Go.RowKit
set_option linter.unusedVariables false
set_option linter.unusedSimpArgs false

set_option maxRecDepth 100000 in
theorem getN_q (w : World) : Calls Try.prog 16 #[.pointer none] w fun e w' => e = .returned (.tuple #[.slice none 0 0, .bool false]) ∧ w = w' := by
  have CH := Lib.hid (heldN_t w)
  go_enter Try.func16, Try.ntmps16
  go_wp2_with fail
  refine CH.out.mono ?_
  rintro e w0 ⟨rfl, rfl⟩
  go_upto_region 2 with fail
  refine wp_region_comm (w' := w) (.tuple #[goInt (-1), .bool false, .slice none 0 0]) ?h ?h2
  case h => exact comm_recv_nil rfl rfl (by simp [go_sem, execOp, rcaseNil, Act.eval])
  clear CH
  go_wp2
  go_ret2
  exact ⟨rfl, rfl⟩
set_option maxRecDepth 100000 in
theorem lenN_q (w : World) : Calls Try.prog 22 #[.pointer none] w fun e w' => e = .returned (.int .i64 0) ∧ w = w' := by
  have CH := Lib.hid (heldN_t w)
  have hlen : ∀ ty, (Builtin.len_ #[67] ty #[.chan none]).run Try.prog w = .ok (goInt 0) w := fun ty => by
    simp [Builtin.len_, run_underlying Try.underlying67]
  go_enter Try.func22, Try.ntmps22
  go_wp2_with fail
  refine CH.out.mono ?_
  rintro e w0 ⟨rfl, rfl⟩
  clear CH
  go_wp2
  go_ret
  exact ⟨rfl, rfl⟩
set_option maxRecDepth 100000 in
theorem roomN_q (w : World) : Calls Try.prog 23 #[.pointer none] w fun e w' => e = .returned (.int .i64 0) ∧ w = w' := by
  have CH := Lib.hid (heldN_t w)
  have CL := Lib.hid (lenN_q w)
  have hcap : ∀ ty, (Builtin.cap_ #[67] ty #[.chan none]).run Try.prog w = .ok (goInt 0) w := fun ty => by
    simp [Builtin.cap_, run_underlying Try.underlying67]
  go_enter Try.func23, Try.ntmps23
  go_wp2_with fail
  refine CH.out.mono ?_
  rintro e w0 ⟨rfl, rfl⟩
  clear CH
  go_wp2_with fail
  refine CL.out.mono ?_
  rintro e w0 ⟨rfl, rfl⟩
  clear CL
  go_wp2
  go_ret
  exact ⟨rfl, rfl⟩
set_option maxRecDepth 100000 in
theorem drainN_q (w : World) : Calls Try.prog 20 #[.pointer none] w fun e w' => (∃ ao c, e = .returned (.slice ao 0 c)) ∧ w = w' := by
  have CG := Lib.hid (getN_q w)
  go_enter Try.func20, Try.ntmps20
  go_wp2_with fail
  refine CG.out.mono ?_
  rintro e w1 ⟨rfl, rfl⟩
  clear CG
  go_wp2
  go_loopw [3, 4, 5] (fun v r o wr => v = .slice none 0 0 ∧ r = .slice none 0 0 ∧ o = .bool false ∧ Hid (w = wr)) (fun _ _ _ _ => 0)
  case atStart => exact ⟨rfl, rfl, rfl, Lib.hid rfl⟩
  case round =>
    obtain ⟨rfl, rfl, rfl, hw⟩ := hrel
    have hw' := hw.out
    subst hw'
    clear hw
    go_wp2
    go_ret
    exact ⟨⟨_, _, rfl⟩, rfl⟩
set_option maxRecDepth 100000 in
theorem putN_q (b k c : Nat) (a : Option Addr) (l : List Int) (w : World) (hc : w.cell? ⟨b, 0, none⟩ = some (.slice a k c)) (hI : In w a k c l) (hk : k ≤ 140737488351232) :
    Calls Try.prog 13 #[.pointer none, .slice (some ⟨b, 0, none⟩) 1 1] w fun e w' => e = .returned (.int .i64 0) ∧ Below w.heap.size w w' := by
  have CH := Lib.hid (heldN_t w)
  have CC := Lib.hid (bclone_t l a k c w hI hk)
  clear hI
  go_enter Try.func13, Try.ntmps13
  go_wp2
  go_step3
  go_wp2_with fail
  refine CH.out.mono ?_
  rintro e w0 ⟨rfl, rfl⟩
  clear CH
  go_wp2
  go_step3
  go_wp2
  go_loopg [6, 13] 1 (fun g u i wr => u = .int .i64 0 ∧ i = .int .i64 0 ∧ Hid (w = wr))
  case atStart => exact ⟨rfl, rfl, Lib.hid rfl⟩
  case round =>
    obtain ⟨rfl, rfl, hw⟩ := hrel
    have hw' := hw.out
    subst hw'
    clear hw
    go_upto_region 7 with fail
    go_wp2_with fail
    refine CC.out.mono ?_
    rintro e w1 ⟨ua, uc, rfl, hu, hb⟩
    have HB := Lib.hid hb
    clear hu hb CC hc
    go_upto_region 8 with fail
    refine wp_region_comm (w' := w1) (.tuple #[goInt (-1), .bool false]) ?g ?g2
    case g => exact comm_send_nil (v := .slice ua k uc) (z := .slice none 0 0) rfl rfl (by simp [go_sem, execOp, scaseNil, Act.eval])
    go_wp2
    rw [Exit.noGoto_ret]
    go_ret
    exact ⟨rfl, HB.out⟩
end Go.Proofs.Ytdjeacmonlgdhaa
