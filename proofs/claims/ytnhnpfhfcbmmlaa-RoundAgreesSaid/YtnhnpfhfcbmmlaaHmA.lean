/- Contracts of addr.Dip and addr.Home. Condition: the address fits its kind. -/
import Derived.Test.YtnhnpfhfcbmmlaaHmR
import Derived.Deep.QuietTactic
import Derived.BigQuiet
namespace Go.Proofs.Ytnhnpfhfcbmmlaa
open Go Go.RowKit
set_option linter.unusedVariables false
set_option linter.unusedSimpArgs false

theorem split_any (a : Int) (h0 : 0 ≤ a) (h1 : a < 4294967296) (w : World) :
    Calls Try.prog 123 #[.int .u32 a] w fun e w' => e = .returned (.agg #[.int .u8 (a / 16777216), .int .u8 (a / 65536 % 256), .int .u8 (a / 256 % 256), .int .u8 (a % 256)]) ∧ Below w.heap.size w w' := by
  go_enter Try.func123, Try.ntmps123
  go_wp2
  exact bodyPost_ret (v := .agg #[.int .u8 (a / 16777216), .int .u8 (a / 65536 % 256), .int .u8 (a / 256 % 256), .int .u8 (a % 256)]) (by simp [results, Try.results123, go_sem]) rfl ⟨rfl, (Below.refl _ _).alloc (Nat.le_refl _) _⟩

theorem or_join (a b c d : Int) (a0 : 0 ≤ a) (a1 : a < 256) (b0 : 0 ≤ b) (b1 : b < 256) (c0 : 0 ≤ c) (c1 : c < 256) (d0 : 0 ≤ d) (d1 : d < 256) :
    bits BinOp.or IntKind.u32 (bits BinOp.or IntKind.u32 (bits BinOp.or IntKind.u32 (a * 16777216) (b * 65536)) (c * 256)) d = a * 16777216 + b * 65536 + c * 256 + d := by
  obtain ⟨a, rfl⟩ := Int.eq_ofNat_of_zero_le a0
  obtain ⟨b, rfl⟩ := Int.eq_ofNat_of_zero_le b0
  obtain ⟨c, rfl⟩ := Int.eq_ofNat_of_zero_le c0
  obtain ⟨d, rfl⟩ := Int.eq_ofNat_of_zero_le d0
  have e1 : bits BinOp.or IntKind.u32 ((a : Int) * 16777216) ((b : Int) * 65536) = ((a * 16777216 + b * 65536 : Nat) : Int) := by
    have h := u32_or_nat (a * 16777216) (b * 65536) (by omega) (by omega)
    rw [nat_join 24 _ _ (by omega) (by omega)] at h
    exact h
  have e2 : bits BinOp.or IntKind.u32 ((a * 16777216 + b * 65536 : Nat) : Int) ((c : Int) * 256) = ((a * 16777216 + b * 65536 + c * 256 : Nat) : Int) := by
    have h := u32_or_nat (a * 16777216 + b * 65536) (c * 256) (by omega) (by omega)
    rw [nat_join 16 _ _ (by omega) (by omega)] at h
    exact h
  have e3 : bits BinOp.or IntKind.u32 ((a * 16777216 + b * 65536 + c * 256 : Nat) : Int) (d : Int) = ((a * 16777216 + b * 65536 + c * 256 + d : Nat) : Int) := by
    have h := u32_or_nat (a * 16777216 + b * 65536 + c * 256) d (by omega) (by omega)
    rw [nat_join 8 _ _ (by omega) (by omega)] at h
    exact h
  rw [e1, e2, e3]
  omega

theorem join_any (a b c d : Int) (a0 : 0 ≤ a) (a1 : a < 256) (b0 : 0 ≤ b) (b1 : b < 256) (c0 : 0 ≤ c) (c1 : c < 256) (d0 : 0 ≤ d) (d1 : d < 256) (w : World) :
    Calls Try.prog 133 #[.agg #[.int .u8 a, .int .u8 b, .int .u8 c, .int .u8 d]] w fun e w' => e = .returned (.int .u32 (a * 16777216 + b * 65536 + c * 256 + d)) ∧ Below w.heap.size w w' := by
  have ho := Lib.hid (or_join a b c d a0 a1 b0 b1 c0 c1 d0 d1)
  go_enter Try.func133, Try.ntmps133
  go_wp2
  go_ret
  exact ⟨ret_int ho.out, (Below.refl _ _).alloc (Nat.le_refl _) _⟩

theorem at0 (x0 x1 x2 x3 : Value) (w : World) : (Instr.index 191 (.agg #[x0, x1, x2, x3]) (.int .i64 0)).run Try.prog w = .ok x0 w := by kernel_rfl
theorem at1 (x0 x1 x2 x3 : Value) (w : World) : (Instr.index 191 (.agg #[x0, x1, x2, x3]) (.int .i64 1)).run Try.prog w = .ok x1 w := by kernel_rfl
theorem at2 (x0 x1 x2 x3 : Value) (w : World) : (Instr.index 191 (.agg #[x0, x1, x2, x3]) (.int .i64 2)).run Try.prog w = .ok x2 w := by kernel_rfl
theorem at3 (x0 x1 x2 x3 : Value) (w : World) : (Instr.index 191 (.agg #[x0, x1, x2, x3]) (.int .i64 3)).run Try.prog w = .ok x3 w := by kernel_rfl

/-- An error of the project's own: Errno(n). -/
abbrev errno (n : Int) : Value := .iface 51 (.int .i64 n)

theorem dip_ok (h v : Int) (h0 : 0 ≤ h) (h1 : h < 8) (v0 : 0 ≤ v) (v1 : v < 16) (w : World) :
    Calls Try.prog 124 #[.int .i64 h, .int .i64 v] w fun e w' => e = .returned (.tuple #[.int .u32 (167837696 + 256 * h + v), .nilIface]) ∧ Below w.heap.size w w' := by
  go_enter Try.func124, Try.ntmps124
  go_wp2_with (go_at_call 133; refine (join_any 10 1 _ _ (by omega) (by omega) (by omega) (by omega) (by omega) (by omega) (by omega) (by omega) _).mono ?_; rintro e w1 ⟨rfl, hb⟩)
  go_ret2
  refine ⟨?_, hb⟩
  have e : 167837696 + h * 256 + v = 167837696 + 256 * h + v := by omega
  rw [← e]
  rfl
theorem dip_no (h v : Int) (hn : ¬ (0 ≤ h ∧ h < 8 ∧ 0 ≤ v ∧ v < 16)) (w : World) :
    Calls Try.prog 124 #[.int .i64 h, .int .i64 v] w fun e w' => e = .returned (.tuple #[.int .u32 0, errno 12]) ∧ w = w' := by
  by_cases c1 : h < 0
  · go_enter Try.func124, Try.ntmps124
    go_wp2
    go_ret2
    exact ⟨rfl, rfl⟩
  by_cases c2 : 8 ≤ h
  · go_enter Try.func124, Try.ntmps124
    go_wp2
    go_ret2
    exact ⟨rfl, rfl⟩
  by_cases c3 : v < 0
  · go_enter Try.func124, Try.ntmps124
    go_wp2
    go_ret2
    exact ⟨rfl, rfl⟩
  have c4 : 16 ≤ v := by omega
  go_enter Try.func124, Try.ntmps124
  go_wp2
  go_ret2
  exact ⟨rfl, rfl⟩

theorem bl_dr {W wx : World} (h : Below W.heap.size W wx) (n : Nat) : Below W.heap.size W (wx.drewN n) := below_drewN h n

theorem home_ok (a : Int) (hd : IsDip a) (w : World) :
    Calls Try.prog 102 #[.int .u32 a] w fun e w' => e = .returned (.tuple #[.int .i64 (48 + a / 256 % 256), .int .i64 (a % 256), .bool true]) ∧ Below w.heap.size w w' := by
  obtain ⟨p1, p2, p3⟩ := hd
  have hs := split_any a (by omega) (by omega)
  obtain ⟨h, eh⟩ : ∃ h, h = a / 256 % 256 := ⟨_, rfl⟩
  obtain ⟨v, ev⟩ : ∃ v, v = a % 256 := ⟨_, rfl⟩
  have h0 : 0 ≤ h := by omega
  have h1 : h < 8 := by omega
  have v0 : 0 ≤ v := by omega
  have v1 : v < 16 := by omega
  have EA := Lib.hid (show 167837696 + 256 * h + v = a by omega)
  have dd := dip_ok h v h0 h1 v0 v1
  rw [EA.out] at dd
  rw [← eh, ← ev] at hs ⊢
  have H := Lib.hid hs
  have D := Lib.hid dd
  clear hs dd p1 p2 p3 eh ev
  go_enter Try.func102, Try.ntmps102
  go_wp2_with (go_at_call 123; refine (H.out _).mono ?_; rintro e w1 ⟨rfl, hb⟩)
  go_quiet (fail)
  go_wp2_with (go_at_call 124; refine (D.out _).mono ?_; rintro e w2 ⟨rfl, hb2⟩)
  go_ret3
  exact ⟨rfl, bl_tr (bl_dr (bl_al hb _) _) hb2⟩

theorem home_no (a : Int) (a0 : 0 ≤ a) (a1 : a < 4294967296) (hd : ¬ IsDip a) (w : World) :
    Calls Try.prog 102 #[.int .u32 a] w fun e w' => e = .returned (.tuple #[.int .i64 0, .int .i64 0, .bool false]) ∧ Below w.heap.size w w' := by
  have hs := split_any a a0 a1
  obtain ⟨h, eh⟩ : ∃ h, h = a / 256 % 256 := ⟨_, rfl⟩
  obtain ⟨v, ev⟩ : ∃ v, v = a % 256 := ⟨_, rfl⟩
  have h0 : 0 ≤ h := by omega
  have h1 : h < 256 := by omega
  have v0 : 0 ≤ v := by omega
  have v1 : v < 256 := by omega
  rw [← eh, ← ev] at hs
  have H := Lib.hid hs
  clear hs
  by_cases c : 0 ≤ h ∧ h < 8 ∧ 0 ≤ v ∧ v < 16
  · have dd := dip_ok h v c.1 c.2.1 c.2.2.1 c.2.2.2
    obtain ⟨d, ed⟩ : ∃ d, d = 167837696 + 256 * h + v := ⟨_, rfl⟩
    rw [← ed] at dd
    have hne : (d != a) = true := by
      have : d ≠ a := by
        intro e
        apply hd
        unfold IsDip
        omega
      simp [this]
    have D := Lib.hid dd
    clear dd ed eh ev hd c
    go_enter Try.func102, Try.ntmps102
    go_wp2_with (go_at_call 123; refine (H.out _).mono ?_; rintro e w1 ⟨rfl, hb⟩)
    go_quiet (fail)
    go_wp2_with (go_at_call 124; refine (D.out _).mono ?_; rintro e w2 ⟨rfl, hb2⟩)
    go_ret3
    exact ⟨rfl, bl_tr (bl_dr (bl_al hb _) _) hb2⟩
  · have D := Lib.hid (dip_no h v c)
    clear eh ev hd c
    go_enter Try.func102, Try.ntmps102
    go_wp2_with (go_at_call 123; refine (H.out _).mono ?_; rintro e w1 ⟨rfl, hb⟩)
    go_quiet (fail)
    go_wp2_with (go_at_call 124; refine (D.out _).mono ?_; rintro e w2 ⟨rfl, rfl⟩)
    go_ret3
    exact ⟨rfl, bl_dr (bl_al hb _) _⟩
end Go.Proofs.Ytnhnpfhfcbmmlaa
