/- Small calls: managers, times, vips, homes; the program's and the document's. Conditions: those stated. -/
import Derived.Test.YtnhnpfhfcbmmlaaVtK
import Derived.Test.YtnhnpfhfcbmmlaaVtM
import Derived.Test.YtnhnpfhfcbmmlaaSbL
namespace Go.Proofs.Ytnhnpfhfcbmmlaa
open Go Go.RowKit
set_option linter.unusedVariables false
set_option linter.unusedSimpArgs false

theorem homeR_any (a : Int) (w : World) : Calls Try.prog 106 #[.int .u32 a] w fun e w' => (∃ h v : Int, e = .returned (.tuple #[.int .i64 h, .int .i64 v, .bool (decide (IsDip a))])) ∧ w = w' := by
  by_cases h : IsDip a
  · refine (refHome_ok a h w).mono ?_
    rintro e w1 ⟨rfl, rfl⟩
    exact ⟨⟨_, _, by rw [decide_eq_true h]⟩, rfl⟩
  · refine (refHome_no a h w).mono ?_
    rintro e w1 ⟨rfl, rfl⟩
    exact ⟨⟨_, _, by rw [decide_eq_false h]⟩, rfl⟩
theorem home_any (a : Int) (ha : u32c a) (w : World) : Calls Try.prog 102 #[.int .u32 a] w fun e w' => (∃ h v : Int, e = .returned (.tuple #[.int .i64 h, .int .i64 v, .bool (decide (IsDip a))])) ∧ Below w.heap.size w w' := by
  by_cases h : IsDip a
  · refine (home_ok a h w).mono ?_
    rintro e w1 ⟨rfl, hb⟩
    exact ⟨⟨_, _, by rw [decide_eq_true h]⟩, hb⟩
  · refine (home_no a ha.1 ha.2 h w).mono ?_
    rintro e w1 ⟨rfl, hb⟩
    exact ⟨⟨_, _, by rw [decide_eq_false h]⟩, hb⟩
theorem mgr_c (n : Int) (hn : i64c n) (w : World) : Calls Try.prog 62 #[.int .i64 n] w fun e w' => e = .returned (.bool (decide (IsMgr n))) ∧ w = w' := by
  by_cases h : IsNode n
  · have K := Lib.hid (kind_ok n h)
    by_cases hm : IsMgr n
    · rw [decide_eq_true hm]
      have e1 : kd n = 16 := by unfold kd; unfold IsMgr at hm; omega
      rw [e1] at K
      clear hm h hn e1
      go_enter Try.func62, Try.ntmps62
      go_wp2_with fail
      refine (K.out _).mono ?_
      rintro e w1 ⟨rfl, rfl⟩
      go_wp2
      go_ret
      exact ⟨rfl, rfl⟩
    · rw [decide_eq_false hm]
      have e1 : kd n ≠ 16 := by unfold kd; unfold IsMgr at hm; unfold IsNode at h; omega
      obtain ⟨k, hk⟩ : ∃ k, k = kd n := ⟨_, rfl⟩
      rw [← hk] at K e1
      have e2 : (k == 16) = false := by simp [e1]
      clear hm h hn e1 hk
      go_enter Try.func62, Try.ntmps62
      go_wp2_with fail
      refine (K.out _).mono ?_
      rintro e w1 ⟨rfl, rfl⟩
      go_wp2
      go_ret
      exact ⟨rfl, rfl⟩
  · have K := Lib.hid (kind_no n hn.2 h)
    rw [decide_eq_false (fun hm => h (by unfold IsMgr at hm; unfold IsNode; omega))]
    clear h hn
    go_enter Try.func62, Try.ntmps62
    go_wp2_with fail
    refine (K.out _).mono ?_
    rintro e w1 ⟨rfl, rfl⟩
    go_wp2
    go_ret
    exact ⟨rfl, rfl⟩
theorem time_c (n : Int) (w : World) : Calls Try.prog 63 #[.int .i64 n] w fun e w' => e = .returned (.bool (decide (IsTm n))) ∧ w = w' := by
  by_cases h0 : 0 ≤ n
  · by_cases h1 : n ≤ 1099511627776
    · rw [decide_eq_true (show IsTm n from ⟨h0, h1⟩)]
      go_enter Try.func63, Try.ntmps63
      go_wp2
      go_ret
      exact ⟨rfl, rfl⟩
    · rw [decide_eq_false (fun h : IsTm n => h1 h.2)]
      have h2 : 1099511627776 < n := by omega
      go_enter Try.func63, Try.ntmps63
      go_wp2
      go_ret
      exact ⟨rfl, rfl⟩
  · rw [decide_eq_false (fun h : IsTm n => h0 h.1)]
    have h2 : n < 0 := by omega
    go_enter Try.func63, Try.ntmps63
    go_wp2
    go_ret
    exact ⟨rfl, rfl⟩
theorem timeR_c (n : Int) (w : World) : Calls Try.prog 65 #[.int .i64 n] w fun e w' => e = .returned (.bool (decide (IsTm n))) ∧ w = w' := by
  by_cases h0 : 0 ≤ n
  · by_cases h1 : n ≤ 1099511627776
    · rw [decide_eq_true (show IsTm n from ⟨h0, h1⟩)]
      go_enter Try.func65, Try.ntmps65
      go_wp2
      go_ret
      exact ⟨rfl, rfl⟩
    · rw [decide_eq_false (fun h : IsTm n => h1 h.2)]
      have h2 : 1099511627776 < n := by omega
      go_enter Try.func65, Try.ntmps65
      go_wp2
      go_ret
      exact ⟨rfl, rfl⟩
  · rw [decide_eq_false (fun h : IsTm n => h0 h.1)]
    have h2 : n < 0 := by omega
    go_enter Try.func65, Try.ntmps65
    go_wp2
    go_ret
    exact ⟨rfl, rfl⟩
theorem mgrR_c (n : Int) (w : World) : Calls Try.prog 30 #[.int .i64 n] w fun e w' => e = .returned (.bool (decide (IsMgr n))) ∧ w = w' := by
  by_cases h0 : 16 ≤ n
  · by_cases h1 : n ≤ 23
    · rw [decide_eq_true (show IsMgr n from ⟨h0, h1⟩)]
      go_enter Try.func30, Try.ntmps30
      go_wp2
      go_ret
      exact ⟨rfl, rfl⟩
    · rw [decide_eq_false (fun h : IsMgr n => h1 h.2)]
      have h2 : 23 < n := by omega
      go_enter Try.func30, Try.ntmps30
      go_wp2
      go_ret
      exact ⟨rfl, rfl⟩
  · rw [decide_eq_false (fun h : IsMgr n => h0 h.1)]
    have h2 : n < 16 := by omega
    go_enter Try.func30, Try.ntmps30
    go_wp2
    go_ret
    exact ⟨rfl, rfl⟩
theorem machR_c (a : Int) (w : World) : Calls Try.prog 69 #[.int .u32 a] w fun e w' => e = .returned (.bool (decide (IsDip a))) ∧ w = w' := by
  have H := Lib.hid (homeR_any a)
  go_enter Try.func69, Try.ntmps69
  go_wp2_with fail
  refine (H.out _).mono ?_
  rintro e w1 ⟨⟨h, v, rfl⟩, rfl⟩
  go_wp2
  go_ret
  exact ⟨rfl, rfl⟩
theorem vip_cases (f : Int) : (f < 1 ∨ 223 < f ∨ f = 10 ∨ f = 127) ∨ (1 ≤ f ∧ f ≤ 223 ∧ f ≠ 10 ∧ f ≠ 127) := by omega
theorem vip_c (a : Int) (ha : u32c a) (w : World) : Calls Try.prog 104 #[.int .u32 a] w fun e w' => e = .returned (.bool (decide (IsVp a))) ∧ Below w.heap.size w w' := by
  have S := Lib.hid (split_any a ha.1 ha.2)
  have E : decide (IsVp a) = decide (1 ≤ a / 16777216 ∧ a / 16777216 ≤ 223 ∧ a / 16777216 ≠ 10 ∧ a / 16777216 ≠ 127) := rfl
  rw [E]
  have e0 := at0
  obtain ⟨f, hf⟩ : ∃ f, f = a / 16777216 := ⟨_, rfl⟩
  rw [← hf] at S ⊢
  clear hf ha E
  rcases vip_cases f with (h | h | h | h) | ⟨h1, h2, h3, h4⟩
  · rw [decide_eq_false (by omega)]
    go_enter Try.func104, Try.ntmps104
    go_wp2_with fail
    refine (S.out _).mono ?_
    rintro e w1 ⟨rfl, hb⟩
    go_wp2
    go_ret
    exact ⟨rfl, hb⟩
  · rw [decide_eq_false (by omega)]
    have h0 : 1 ≤ f := by omega
    go_enter Try.func104, Try.ntmps104
    go_wp2_with fail
    refine (S.out _).mono ?_
    rintro e w1 ⟨rfl, hb⟩
    go_wp2
    go_ret
    exact ⟨rfl, hb⟩
  · subst h
    rw [decide_eq_false (by omega)]
    go_enter Try.func104, Try.ntmps104
    go_wp2_with fail
    refine (S.out _).mono ?_
    rintro e w1 ⟨rfl, hb⟩
    go_wp2
    go_ret
    exact ⟨rfl, hb⟩
  · subst h
    rw [decide_eq_false (by omega)]
    go_enter Try.func104, Try.ntmps104
    go_wp2_with fail
    refine (S.out _).mono ?_
    rintro e w1 ⟨rfl, hb⟩
    go_wp2
    go_ret
    exact ⟨rfl, hb⟩
  · rw [decide_eq_true ⟨h1, h2, h3, h4⟩]
    have b3 : (f != 10) = true := by simp [h3]
    have b4 : (f != 127) = true := by simp [h4]
    clear h3 h4
    go_enter Try.func104, Try.ntmps104
    go_wp2_with fail
    refine (S.out _).mono ?_
    rintro e w1 ⟨rfl, hb⟩
    go_wp2
    go_ret
    exact ⟨rfl, hb⟩
theorem byte0_c (a : Int) (ha : u32c a) (w : World) : Calls Try.prog 105 #[.int .u32 a, .int .i64 0] w fun e w' => e = .returned (.int .i64 (a / 16777216)) ∧ w = w' := by
  obtain ⟨h0, h1⟩ := ha
  obtain ⟨f, hf⟩ : ∃ f, f = a / 16777216 := ⟨_, rfl⟩
  have f0 : 0 ≤ f ∧ f < 256 := by omega
  rw [← hf]
  have g1 : Int.tmod f 256 = f := Int.tmod_eq_of_lt f0.1 f0.2
  have g2 : Int.tmod (a / 16777216) 256 = a / 16777216 := by rw [← hf]; exact g1
  go_enter Try.func105, Try.ntmps105
  go_wp2
  go_ret
  refine ⟨?_, rfl⟩
  rw [hf]
  rfl
theorem vipR_c (a : Int) (ha : u32c a) (w : World) : Calls Try.prog 66 #[.int .u32 a] w fun e w' => e = .returned (.bool (decide (IsVp a))) ∧ w = w' := by
  have S := Lib.hid (byte0_c a ha)
  have E : decide (IsVp a) = decide (1 ≤ a / 16777216 ∧ a / 16777216 ≤ 223 ∧ a / 16777216 ≠ 10 ∧ a / 16777216 ≠ 127) := rfl
  rw [E]
  obtain ⟨f, hf⟩ : ∃ f, f = a / 16777216 := ⟨_, rfl⟩
  rw [← hf] at S ⊢
  clear hf ha E
  rcases vip_cases f with (h | h | h | h) | ⟨h1, h2, h3, h4⟩
  · rw [decide_eq_false (by omega)]
    go_enter Try.func66, Try.ntmps66
    go_wp2_with fail
    refine (S.out _).mono ?_
    rintro e w1 ⟨rfl, rfl⟩
    go_wp2
    go_ret
    exact ⟨rfl, rfl⟩
  · rw [decide_eq_false (by omega)]
    have h0 : 1 ≤ f := by omega
    go_enter Try.func66, Try.ntmps66
    go_wp2_with fail
    refine (S.out _).mono ?_
    rintro e w1 ⟨rfl, rfl⟩
    go_wp2
    go_ret
    exact ⟨rfl, rfl⟩
  · subst h
    rw [decide_eq_false (by omega)]
    go_enter Try.func66, Try.ntmps66
    go_wp2_with fail
    refine (S.out _).mono ?_
    rintro e w1 ⟨rfl, rfl⟩
    go_wp2
    go_ret
    exact ⟨rfl, rfl⟩
  · subst h
    rw [decide_eq_false (by omega)]
    go_enter Try.func66, Try.ntmps66
    go_wp2_with fail
    refine (S.out _).mono ?_
    rintro e w1 ⟨rfl, rfl⟩
    go_wp2
    go_ret
    exact ⟨rfl, rfl⟩
  · rw [decide_eq_true ⟨h1, h2, h3, h4⟩]
    have b3 : (f != 10) = true := by simp [h3]
    have b4 : (f != 127) = true := by simp [h4]
    clear h3 h4
    go_enter Try.func66, Try.ntmps66
    go_wp2_with fail
    refine (S.out _).mono ?_
    rintro e w1 ⟨rfl, rfl⟩
    go_wp2
    go_ret
    exact ⟨rfl, rfl⟩
end Go.Proofs.Ytnhnpfhfcbmmlaa
