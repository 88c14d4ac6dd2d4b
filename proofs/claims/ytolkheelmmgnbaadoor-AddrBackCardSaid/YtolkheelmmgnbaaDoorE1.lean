/- The walk of AddrPlaces: at any kind, place, node and address the call returns true, and nothing that was there is turned. Condition: the library's variables lie as their text lays them; the numbers fit their kinds. -/
import Derived.Test.YtolkheelmmgnbaaDoorD2
import Derived.Test.YtolkheelmmgnbaaDoorA5
import Derived.Deep.DeepCutAuto
import Derived.Deep.CutRange
import Derived.LaidEql
namespace Go.Proofs.YtolkheelmmgnbaaDoor
open Go Go.RowKit

/-- Node's answer, in parts. -/
def nodeN (k p : Int) : Int := if NodeOk k p then k + p else 0
def nodeE (k p : Int) : Value := if NodeOk k p then .nilIface else errno 12
theorem node_any (k p : Int) (w : World) : Calls Tryd.prog 30 #[.int .i64 k, .int .i64 p] w fun e w' => e = .returned (.tuple #[.int .i64 (nodeN k p), nodeE k p]) ∧ w = w' := by
  unfold nodeN nodeE
  by_cases h : NodeOk k p
  · rw [if_pos h, if_pos h]; exact node_ok k p h w
  · rw [if_neg h, if_neg h]; exact node_no k p h w
/-- Kind's answer, in parts. -/
def kindK (n : Int) : Int := if IsNode n then kd n else 0
def kindP (n : Int) : Int := if IsNode n then n - kd n else 0
theorem kind_any (n : Int) (hm : n ≤ 9223372036854775807) (w : World) : Calls Tryd.prog 31 #[.int .i64 n] w fun e w' => e = .returned (.tuple #[.int .i64 (kindK n), .int .i64 (kindP n), .bool (isB n)]) ∧ w = w' := by
  unfold kindK kindP
  by_cases h : IsNode n
  · rw [if_pos h, if_pos h, isB_yes h]; exact kind_ok n h w
  · rw [if_neg h, if_neg h, isB_no h]; exact kind_no n hm h w
/-- Of's answer, in parts. -/
def ofA (n : Int) : Int := if IsNode n then 167772160 + n else 0
def ofE (n : Int) : Value := if IsNode n then .nilIface else errno 12
theorem of_any (n : Int) (hm : n ≤ 9223372036854775807) (w : World) : Calls Tryd.prog 32 #[.int .i64 n] w fun e w' => e = .returned (.tuple #[.int .u32 (ofA n), ofE n]) ∧ w = w' := by
  unfold ofA ofE
  by_cases h : IsNode n
  · rw [if_pos h, if_pos h]; exact of_ok n h w
  · rw [if_neg h, if_neg h]; exact of_no n hm h w
/-- Who's answer, in parts. -/
def whoN (a : Int) : Int := if IsNode (a - 167772160) then a - 167772160 else 0
theorem who_any (a : Int) (a0 : 0 ≤ a) (a1 : a < 4294967296) (w : World) : Calls Tryd.prog 33 #[.int .u32 a] w fun e w' => e = .returned (.tuple #[.int .i64 (whoN a), .bool (isB (a - 167772160))]) ∧ Below w.heap.size w w' := by
  unfold whoN
  by_cases h : IsNode (a - 167772160)
  · rw [if_pos h, isB_yes h]; exact who_ok a h w
  · rw [if_neg h, isB_no h]; exact who_no a a0 a1 h w
theorem is_any (n : Int) (w : World) : Calls Tryd.prog 43 #[.int .i64 n] w fun e w' => e = .returned (.bool (isB n)) ∧ w = w' := by
  by_cases h : IsNode n
  · rw [isB_yes h]; exact is_yes n h w
  · rw [isB_no h]; exact is_no n h w
def nodeB (k p : Int) : Bool := decide (NodeOk k p)

theorem neq_12 (w : World) : (binOp .neq 26 (errno 12) (errno 12)).run Tryd.prog w = .ok (.bool false) w := by kernel_rfl

theorem nodeB_yes {k p : Int} (h : NodeOk k p) : nodeB k p = true := decide_eq_true h
theorem nodeB_no {k p : Int} (h : ¬ NodeOk k p) : nodeB k p = false := decide_eq_false h
/-- Every kind and place is of one of these makes. -/
theorem node_cases (k p : Int) : (k = 0 ∧ p = 0) ∨ (k = 0 ∧ (p == 0) = false) ∨ ((k = 16 ∨ k = 32 ∨ k = 48) ∧ 0 ≤ p ∧ p < 8) ∨ ((k = 16 ∨ k = 32 ∨ k = 48) ∧ (p < 0 ∨ 8 ≤ p)) ∨
    ((k == 0) = false ∧ (k == 16) = false ∧ (k == 32) = false ∧ (k == 48) = false) := by
  simp only [beq_eq_false_iff_ne, ne_eq]
  omega

set_option maxRecDepth 100000 in
set_option maxHeartbeats 4000000 in
theorem nodes_any (k p n a : Int) (n1 : n ≤ 9223372036854775807) (a0 : 0 ≤ a) (a1 : a < 4294967296) (w : World) (hg : Good w) :
    Calls Tryd.prog 15 #[.int .i64 k, .int .i64 p, .int .i64 n, .int .u32 a] w fun e w' => e = .returned (.bool true) ∧ Below w.heap.size w w' := by
  have A := Lib.hid (alive_any w hg)
  clear hg
  have q12 := neq_12
  go_enter Tryd.func15, Tryd.ntmps15
  go_upto_region 4 with (first | (go_at_call 9; refine A.out.mono ?_; rintro e w1 ⟨rfl, hb1⟩) | (go_at_call 30; refine (node_any k p _).mono ?_; rintro e w2 ⟨rfl, rfl⟩))
  go_cut [11] from 28 (fun s11 wx => s11 = .bool (nodeB k p) ∧ w1 = wx)
  case first =>
    rcases node_cases k p with ⟨rfl, rfl⟩ | ⟨rfl, h⟩ | ⟨hk, h0, h8⟩ | ⟨hk, hp⟩ | ⟨c0, c1, c2, c3⟩
    · have hB := Lib.hid (nodeB_yes (k := 0) (p := 0) (.inl ⟨rfl, rfl⟩))
      go_wp2
      go_meet
      exact ⟨congrArg Value.bool hB.out.symm, rfl⟩
    · have hB := Lib.hid (nodeB_no (k := 0) (p := p) (by simp at h; unfold NodeOk; omega))
      go_wp2
      go_meet
      exact ⟨congrArg Value.bool hB.out.symm, rfl⟩
    · have hB := Lib.hid (nodeB_yes (k := k) (p := p) (.inr ⟨hk, h0, h8⟩))
      rcases hk with rfl | rfl | rfl
      all_goals
        go_wp2
        go_meet
        exact ⟨congrArg Value.bool hB.out.symm, rfl⟩
    · have hB := Lib.hid (nodeB_no (k := k) (p := p) (by unfold NodeOk; omega))
      rcases hk with rfl | rfl | rfl
      all_goals
        rcases hp with hp | hp
        · go_wp2
          go_meet
          exact ⟨congrArg Value.bool hB.out.symm, rfl⟩
        · have h8 : decide (p < 8) = false := by simp; omega
          go_wp2
          go_meet
          exact ⟨congrArg Value.bool hB.out.symm, rfl⟩
    · have hB := Lib.hid (nodeB_no (k := k) (p := p) (by simp at c0 c1 c2 c3; unfold NodeOk; omega))
      go_wp2
      go_meet
      exact ⟨congrArg Value.bool hB.out.symm, rfl⟩
  case rest =>
    obtain ⟨rfl, rfl⟩ := hcut
    go_upto_region 5 with fail
    go_cut [80] from 9 (fun s80 wx => s80 = .bool false ∧ w1 = wx)
    case first =>
      by_cases hok : NodeOk k p
      · have e1 : nodeB k p = true := nodeB_yes hok
        have e2 : nodeE k p = .nilIface := if_pos hok
        have e3 : nodeN k p = k + p := if_pos hok
        have b0 : 0 ≤ k := by unfold NodeOk at hok; omega
        have b1 : k ≤ 48 := by unfold NodeOk at hok; omega
        have b2 : 0 ≤ p := by unfold NodeOk at hok; omega
        have b3 : p < 8 := by unfold NodeOk at hok; omega
        clear hok
        go_wp2
        go_meet
        exact ⟨rfl, rfl⟩
      · have e1 : nodeB k p = false := nodeB_no hok
        have e2 : nodeE k p = errno 12 := if_neg hok
        have e3 : nodeN k p = 0 := if_neg hok
        clear hok
        go_wp2
        go_meet
        exact ⟨rfl, rfl⟩
    case rest =>
      obtain ⟨rfl, rfl⟩ := hcut
      go_upto_region 8 with (first | (go_at_call 31; refine (kind_any n n1 _).mono ?_; rintro e w2 ⟨rfl, rfl⟩))
      go_cut [14, 125] from 9 (fun s14 s125 wx => s14 = .bool (isB n) ∧ s125 = .bool false ∧ w1 = wx)
      case first =>
        by_cases hn : IsNode n
        · have e1 : isB n = true := isB_yes hn
          have E1 := Lib.hid e1
          have e2 : kindK n = kd n := if_pos hn
          have e3 : kindP n = n - kd n := if_pos hn
          obtain ⟨c, hc⟩ : ∃ c, c = kd n := ⟨_, rfl⟩
          rw [← hc] at e2 e3
          unfold kd at hc
          have b0 : 0 ≤ c := by unfold IsNode at hn; omega
          have b1 : c ≤ 48 := by unfold IsNode at hn; omega
          have b2 : 0 ≤ n - c := by unfold IsNode at hn; omega
          have b3 : n - c ≤ 7 := by unfold IsNode at hn; omega
          have d1 : decide (n - c < 0) = false := by simp; omega
          have d2 : decide (7 < n - c) = false := by simp; omega
          have b4 : c % 16 = 0 := by omega
          have b5 : c + (n - c) = n := by omega
          clear hn hc
          go_wp2_with (go_at_call 43; refine (is_any n _).mono ?_; rintro e w2 ⟨rfl, rfl⟩)
          go_meet
          exact ⟨congrArg Value.bool E1.out.symm, rfl, rfl⟩
        · have e1 : isB n = false := isB_no hn
          have E1 := Lib.hid e1
          have e2 : kindK n = 0 := if_neg hn
          have e3 : kindP n = 0 := if_neg hn
          clear hn
          go_wp2_with (go_at_call 43; refine (is_any n _).mono ?_; rintro e w2 ⟨rfl, rfl⟩)
          go_meet
          exact ⟨congrArg Value.bool E1.out.symm, rfl, rfl⟩
      case rest =>
        obtain ⟨rfl, rfl, rfl⟩ := hcut
        go_upto_region 11 with (first | (go_at_call 32; refine (of_any n n1 _).mono ?_; rintro e w2 ⟨rfl, rfl⟩))
        go_cut [154] from 9 (fun s154 wx => s154 = .bool false ∧ w1 = wx)
        case first =>
          by_cases hn : IsNode n
          · have e1 : isB n = true := isB_yes hn
            have e2 : ofA n = 167772160 + n := if_pos hn
            have e3 : ofE n = .nilIface := if_pos hn
            have b0 : 0 ≤ n := by unfold IsNode at hn; omega
            have b1 : n ≤ 55 := by unfold IsNode at hn; omega
            clear hn
            go_wp2_with (go_at_call 44; refine (refOf n (by omega) (by omega) _).mono ?_; rintro e w2 ⟨rfl, rfl⟩)
            go_meet
            exact ⟨rfl, rfl⟩
          · have e1 : isB n = false := isB_no hn
            have e2 : ofA n = 0 := if_neg hn
            have e3 : ofE n = errno 12 := if_neg hn
            clear hn
            go_wp2
            go_meet
            exact ⟨rfl, rfl⟩
        case rest =>
          obtain ⟨rfl, rfl⟩ := hcut
          go_upto_region 15 with (first | (go_at_call 33; refine (who_any a a0 a1 _).mono ?_; rintro e w2 ⟨rfl, hb2⟩))
          go_cut [19] from 163 (fun s19 wx => s19 = .bool (isB (a - 167772160)) ∧ w2 = wx)
          case first =>
            by_cases hp : 0 ≤ a - 167772160
            · go_wp2_with (go_at_call 43; refine (is_any (a - 167772160) _).mono ?_; rintro e w3 ⟨rfl, rfl⟩)
              go_meet
              exact ⟨rfl, rfl⟩
            · have hB := Lib.hid (isB_no (n := a - 167772160) (by unfold IsNode; omega))
              have hd : decide (0 ≤ a - 167772160) = false := by simp; omega
              go_wp2
              go_meet
              exact ⟨congrArg Value.bool hB.out.symm, rfl⟩
          case rest =>
            obtain ⟨rfl, rfl⟩ := hcut
            have HB := Lib.hid (bl_tr hb1 hb2)
            clear hb1 hb2
            by_cases hn : IsNode (a - 167772160)
            · have e1 : isB (a - 167772160) = true := isB_yes hn
              have e2 : whoN a = a - 167772160 := if_pos hn
              clear hn
              go_wp2
              go_ret
              exact ⟨rfl, HB.out⟩
            · have e1 : isB (a - 167772160) = false := isB_no hn
              have e2 : whoN a = 0 := if_neg hn
              clear hn
              go_wp2
              go_ret
              exact ⟨rfl, HB.out⟩
end Go.Proofs.YtolkheelmmgnbaaDoor
