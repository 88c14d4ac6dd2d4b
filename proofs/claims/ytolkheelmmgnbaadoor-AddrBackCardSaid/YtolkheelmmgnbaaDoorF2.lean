/- The walk of AddrMachines: at any host, machine and address the call returns true, and nothing that was there is turned. Condition: the library's variables lie as their text lays them; the numbers fit their kinds. -/
import Derived.Test.YtolkheelmmgnbaaDoorF1
import Derived.Test.YtolkheelmmgnbaaDoorA5
import Derived.Deep.DeepCutAuto
import Derived.Deep.CutRange
namespace Go.Proofs.YtolkheelmmgnbaaDoor
open Go Go.RowKit

/-- A host's place and a machine that there are. -/
def DipOk (h v : Int) : Prop := 0 ≤ h ∧ h < 8 ∧ 0 ≤ v ∧ v < 16
instance (h v : Int) : Decidable (DipOk h v) := by unfold DipOk; infer_instance
def dipA (h v : Int) : Int := if DipOk h v then 167837696 + 256 * h + v else 0
def dipE (h v : Int) : Value := if DipOk h v then .nilIface else errno 12
def dipOkB (h v : Int) : Bool := decide (DipOk h v)
theorem dip_any (h v : Int) (w : World) : Calls Tryd.prog 16 #[.int .i64 h, .int .i64 v] w fun e w' => e = .returned (.tuple #[.int .u32 (dipA h v), dipE h v]) ∧ Below w.heap.size w w' := by
  unfold dipA dipE
  by_cases c : DipOk h v
  · rw [if_pos c, if_pos c]; exact dip_ok h v c.1 c.2.1 c.2.2.1 c.2.2.2 w
  · rw [if_neg c, if_neg c]
    refine (dip_no h v c w).mono ?_
    rintro e w' ⟨rfl, rfl⟩
    exact ⟨rfl, Below.refl _ _⟩
theorem neq_12b (w : World) : (binOp .neq 26 (errno 12) (errno 12)).run Tryd.prog w = .ok (.bool false) w := by kernel_rfl

set_option maxRecDepth 100000 in
set_option maxHeartbeats 4000000 in
theorem machines_any (h v a : Int) (a0 : 0 ≤ a) (a1 : a < 4294967296) (w : World) (hg : Good w) :
    Calls Tryd.prog 5 #[.int .i64 h, .int .i64 v, .int .u32 a] w fun e w' => e = .returned (.bool true) ∧ Below w.heap.size w w' := by
  have A := Lib.hid (alive_any w hg)
  clear hg
  have q12 := neq_12b
  go_enter Tryd.func5, Tryd.ntmps5
  go_upto_region 4 with (first | (go_at_call 9; refine A.out.mono ?_; rintro e w1 ⟨rfl, hb1⟩) | (go_at_call 16; refine (dip_any h v _).mono ?_; rintro e w2 ⟨rfl, hb2⟩))
  go_cut [9] from 24 (fun s9 wx => s9 = .bool (dipOkB h v) ∧ w2 = wx)
  case first =>
    by_cases c1 : h < 0
    · have hB := Lib.hid (show dipOkB h v = false from decide_eq_false (by unfold DipOk; omega))
      go_wp2
      go_meet
      exact ⟨congrArg Value.bool hB.out.symm, rfl⟩
    by_cases c2 : 8 ≤ h
    · have hB := Lib.hid (show dipOkB h v = false from decide_eq_false (by unfold DipOk; omega))
      go_wp2
      go_meet
      exact ⟨congrArg Value.bool hB.out.symm, rfl⟩
    by_cases c3 : v < 0
    · have hB := Lib.hid (show dipOkB h v = false from decide_eq_false (by unfold DipOk; omega))
      go_wp2
      go_meet
      exact ⟨congrArg Value.bool hB.out.symm, rfl⟩
    by_cases c4 : 16 ≤ v
    · have hB := Lib.hid (show dipOkB h v = false from decide_eq_false (by unfold DipOk; omega))
      have d4 : decide (v < 16) = false := by simp; omega
      go_wp2
      go_meet
      exact ⟨congrArg Value.bool hB.out.symm, rfl⟩
    have hB := Lib.hid (show dipOkB h v = true from decide_eq_true (by unfold DipOk; omega))
    go_wp2
    go_meet
    exact ⟨congrArg Value.bool hB.out.symm, rfl⟩
  case rest =>
    obtain ⟨rfl, rfl⟩ := hcut
    go_upto_region 5 with fail
    go_cut [62] from 7 (fun s62 wx => s62 = .bool false ∧ w2 = wx)
    case first =>
      by_cases hok : DipOk h v
      · have e1 : dipOkB h v = true := decide_eq_true hok
        have e2 : dipE h v = .nilIface := if_pos hok
        have e3 : dipA h v = 167837696 + 256 * h + v := if_pos hok
        obtain ⟨b0, b1, b2, b3⟩ := hok
        go_wp2_with (go_at_call 17; refine (refDip h v b0 b1 b2 b3 _).mono ?_; rintro e w3 ⟨rfl, rfl⟩)
        go_meet
        exact ⟨rfl, rfl⟩
      · have e1 : dipOkB h v = false := decide_eq_false hok
        have e2 : dipE h v = errno 12 := if_neg hok
        have e3 : dipA h v = 0 := if_neg hok
        clear hok
        go_wp2
        go_meet
        exact ⟨rfl, rfl⟩
    case rest =>
      obtain ⟨rfl, rfl⟩ := hcut
      have HB := Lib.hid (bl_tr hb1 hb2)
      clear hb1 hb2
      by_cases hd : IsDip a
      · have H1 := Lib.hid (home_ok a hd)
        have H2 := Lib.hid (refHome_ok a hd)
        have x0 : 0 ≤ a / 256 % 256 := by omega
        have x1 : a / 256 % 256 < 256 := by omega
        clear hd
        go_wp2_with (first
          | (go_at_call 18; refine (H1.out _).mono ?_; rintro e w3 ⟨rfl, hb3⟩)
          | (go_at_call 19; refine (H2.out _).mono ?_; rintro e w4 ⟨rfl, rfl⟩)
          | (go_at_call 20; refine (vip_any a a0 a1 _).mono ?_; rintro e w5 ⟨rfl, hb5⟩)
          | (go_at_call 21; refine (refVip a a0 a1 _).mono ?_; rintro e w6 ⟨rfl, rfl⟩))
        go_ret
        exact ⟨rfl, bl_tr (bl_tr HB.out hb3) hb5⟩
      · have H1 := Lib.hid (home_no a a0 a1 hd)
        have H2 := Lib.hid (refHome_no a hd)
        clear hd
        go_wp2_with (first
          | (go_at_call 18; refine (H1.out _).mono ?_; rintro e w3 ⟨rfl, hb3⟩)
          | (go_at_call 19; refine (H2.out _).mono ?_; rintro e w4 ⟨rfl, rfl⟩)
          | (go_at_call 20; refine (vip_any a a0 a1 _).mono ?_; rintro e w5 ⟨rfl, hb5⟩)
          | (go_at_call 21; refine (refVip a a0 a1 _).mono ?_; rintro e w6 ⟨rfl, rfl⟩))
        go_ret
        exact ⟨rfl, bl_tr (bl_tr HB.out hb3) hb5⟩
end Go.Proofs.YtolkheelmmgnbaaDoor
