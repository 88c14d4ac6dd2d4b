/- Contracts of addr's Of and Who, and of the document's answers Is, Of, Dip, Byte, IsVip: what each call returns; nothing that was there is turned. No conditions but that the numbers fit their kinds. -/
import Derived.Test.YtolkheelmmgnbaaDoorD1
namespace Go.Proofs.YtolkheelmmgnbaaDoor
open Go Go.RowKit

theorem of_ok (n : Int) (h : IsNode n) (w : World) : Calls Tryd.prog 32 #[.int .i64 n] w fun e w' => e = .returned (.tuple #[.int .u32 (167772160 + n), .nilIface]) ∧ w = w' := by
  have h0 : 0 ≤ n := by unfold IsNode at h; omega
  have h1 : n ≤ 55 := by unfold IsNode at h; omega
  have K := Lib.hid (kind_ok n h)
  clear h
  go_enter Tryd.func32, Tryd.ntmps32
  go_wp2_with (go_at_call 31; refine (K.out _).mono ?_; rintro e w' ⟨rfl, rfl⟩)
  go_ret2
  exact ⟨rfl, rfl⟩
theorem of_no (n : Int) (hm : n ≤ 9223372036854775807) (h : ¬ IsNode n) (w : World) : Calls Tryd.prog 32 #[.int .i64 n] w fun e w' => e = .returned (.tuple #[.int .u32 0, errno 12]) ∧ w = w' := by
  have K := Lib.hid (kind_no n hm h)
  clear h hm
  go_enter Tryd.func32, Tryd.ntmps32
  go_wp2_with (go_at_call 31; refine (K.out _).mono ?_; rintro e w' ⟨rfl, rfl⟩)
  go_ret2
  exact ⟨rfl, rfl⟩

/-- Is an address a node's? -/
def IsNodeA (a : Int) : Prop := IsNode (a - 167772160)
theorem who_ok (a : Int) (h : IsNodeA a) (w : World) : Calls Tryd.prog 33 #[.int .u32 a] w fun e w' => e = .returned (.tuple #[.int .i64 (a - 167772160), .bool true]) ∧ Below w.heap.size w w' := by
  obtain ⟨n, hn⟩ : ∃ n, n = a - 167772160 := ⟨_, rfl⟩
  have h' : IsNode n := by rw [hn]; exact h
  have h0 : 0 ≤ n := by unfold IsNode at h'; omega
  have h1 : n ≤ 55 := by unfold IsNode at h'; omega
  have ea : 167772160 + n = a := by omega
  have hs := split_any a (by omega) (by omega)
  have em : a % 256 = n := by omega
  rw [em] at hs
  rw [← hn]
  have O := of_ok n h'
  rw [ea] at O
  have SH := Lib.hid hs
  have OH := Lib.hid O
  have i3 := at3
  clear hs O h h' hn ea em
  go_enter Tryd.func33, Tryd.ntmps33
  go_wp2_with (first | (go_at_call 38; refine (SH.out _).mono ?_; rintro e w1 ⟨rfl, hb⟩) | (go_at_call 32; refine (OH.out _).mono ?_; rintro e w2 ⟨rfl, rfl⟩))
  go_ret2
  exact ⟨rfl, hb⟩
theorem who_no (a : Int) (a0 : 0 ≤ a) (a1 : a < 4294967296) (h : ¬ IsNodeA a) (w : World) : Calls Tryd.prog 33 #[.int .u32 a] w fun e w' => e = .returned (.tuple #[.int .i64 0, .bool false]) ∧ Below w.heap.size w w' := by
  obtain ⟨n, hn⟩ : ∃ n, n = a % 256 := ⟨_, rfl⟩
  have h0 : 0 ≤ n := by omega
  have h1 : n < 256 := by omega
  have hs := split_any a a0 a1
  rw [← hn] at hs
  have SH := Lib.hid hs
  have i3 := at3
  clear hs
  by_cases c : IsNode n
  · have O := of_ok n c
    obtain ⟨d, hd⟩ : ∃ d, d = 167772160 + n := ⟨_, rfl⟩
    rw [← hd] at O
    have hne : (d != a) = true := by
      have : d ≠ a := by
        intro e
        apply h
        unfold IsNodeA
        have : a - 167772160 = n := by omega
        rw [this]
        exact c
      simp [this]
    have OH := Lib.hid O
    clear O hd hn h c
    go_enter Tryd.func33, Tryd.ntmps33
    go_wp2_with (first | (go_at_call 38; refine (SH.out _).mono ?_; rintro e w1 ⟨rfl, hb⟩) | (go_at_call 32; refine (OH.out _).mono ?_; rintro e w2 ⟨rfl, rfl⟩))
    go_ret2
    exact ⟨rfl, hb⟩
  · have OH := Lib.hid (of_no n (by omega) c)
    clear hn h c
    go_enter Tryd.func33, Tryd.ntmps33
    go_wp2_with (first | (go_at_call 38; refine (SH.out _).mono ?_; rintro e w1 ⟨rfl, hb⟩) | (go_at_call 32; refine (OH.out _).mono ?_; rintro e w2 ⟨rfl, rfl⟩))
    go_ret2
    exact ⟨rfl, hb⟩

/-- The document's Is. -/
def isB (n : Int) : Bool := decide (IsNode n)
theorem isB_yes {n : Int} (h : IsNode n) : isB n = true := decide_eq_true h
theorem isB_no {n : Int} (h : ¬ IsNode n) : isB n = false := decide_eq_false h
set_option maxHeartbeats 1000000 in
theorem is_yes (n : Int) (h : IsNode n) (w : World) : Calls Tryd.prog 43 #[.int .i64 n] w fun e w' => e = .returned (.bool true) ∧ w = w' := by
  rcases h with rfl | ⟨h0, h1⟩ | ⟨h0, h1⟩ | ⟨h0, h1⟩
  · go_enter Tryd.func43, Tryd.ntmps43
    go_wp2
    go_ret
    exact ⟨rfl, rfl⟩
  · have c : (n == 0) = false := by simp; omega
    have d1 : decide (n ≤ 23) = true := by simp; omega
    go_enter Tryd.func43, Tryd.ntmps43
    go_wp2
    go_ret
    exact ⟨rfl, rfl⟩
  · have c : (n == 0) = false := by simp; omega
    have d1 : decide (n ≤ 23) = false := by simp; omega
    have d2 : decide (n ≤ 39) = true := by simp; omega
    go_enter Tryd.func43, Tryd.ntmps43
    go_wp2
    go_ret
    exact ⟨rfl, rfl⟩
  · have c : (n == 0) = false := by simp; omega
    have d1 : decide (n ≤ 23) = false := by simp; omega
    have d2 : decide (n ≤ 39) = false := by simp; omega
    have d3 : decide (n ≤ 55) = true := by simp; omega
    go_enter Tryd.func43, Tryd.ntmps43
    go_wp2
    go_ret
    exact ⟨rfl, rfl⟩
set_option maxHeartbeats 1000000 in
theorem is_no (n : Int) (h : ¬ IsNode n) (w : World) : Calls Tryd.prog 43 #[.int .i64 n] w fun e w' => e = .returned (.bool false) ∧ w = w' := by
  have c : (n == 0) = false := by unfold IsNode at h; simp; omega
  have h' : n < 16 ∨ (23 < n ∧ n < 32) ∨ (39 < n ∧ n < 48) ∨ 55 < n := by unfold IsNode at h; omega
  clear h
  rcases h' with h0 | ⟨h0, h1⟩ | ⟨h0, h1⟩ | h0
  · go_enter Tryd.func43, Tryd.ntmps43
    go_wp2
    go_ret
    exact ⟨rfl, rfl⟩
  · have d1 : decide (n ≤ 23) = false := by simp; omega
    go_enter Tryd.func43, Tryd.ntmps43
    go_wp2
    go_ret
    exact ⟨rfl, rfl⟩
  · have d1 : decide (n ≤ 23) = false := by simp; omega
    have d2 : decide (n ≤ 39) = false := by simp; omega
    go_enter Tryd.func43, Tryd.ntmps43
    go_wp2
    go_ret
    exact ⟨rfl, rfl⟩
  · have d1 : decide (n ≤ 23) = false := by simp; omega
    have d2 : decide (n ≤ 39) = false := by simp; omega
    have d3 : decide (n ≤ 55) = false := by simp; omega
    go_enter Tryd.func43, Tryd.ntmps43
    go_wp2
    go_ret
    exact ⟨rfl, rfl⟩
theorem refOf (n : Int) (h0 : 0 ≤ n) (h1 : n ≤ 55) (w : World) : Calls Tryd.prog 44 #[.int .i64 n] w fun e w' => e = .returned (.int .u32 (167772160 + n)) ∧ w = w' := by
  go_enter Tryd.func44, Tryd.ntmps44
  go_wp2
  go_ret
  exact ⟨rfl, rfl⟩
theorem refDip (h v : Int) (h0 : 0 ≤ h) (h1 : h < 8) (v0 : 0 ≤ v) (v1 : v < 16) (w : World) : Calls Tryd.prog 17 #[.int .i64 h, .int .i64 v] w fun e w' => e = .returned (.int .u32 (167837696 + 256 * h + v)) ∧ w = w' := by
  go_enter Tryd.func17, Tryd.ntmps17
  go_wp2
  go_ret
  exact ⟨rfl, rfl⟩
end Go.Proofs.YtolkheelmmgnbaaDoor
