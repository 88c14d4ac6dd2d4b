/- Contracts of the small functions of package addr (split, join, IsVip, Dip, isPort): what each call returns and that it turns nothing that was there. No conditions but that the numbers fit their kinds. -/
import Derived.Test.YtolkheelmmgnbaaDoorProg
import Derived.WalkKit
import Derived.WalkSpells
import Derived.WalkLawsBesides
import Derived.RegionTactic
import Derived.Deep.QuietTactic
import Derived.BigQuiet
import Derived.Outline
import Derived.Lib.Hide
import Derived.Laws.BitsAllLaws
namespace Go.Proofs.YtolkheelmmgnbaaDoor
open Go Go.RowKit

theorem isPort_any (n : Int) (w : World) :
    Calls Tryd.prog 45 #[.int .i64 n] w fun e w' => e = .returned (.bool (decide (0 ≤ n) && decide (n ≤ 65535))) ∧ w = w' := by
  by_cases h1 : 0 ≤ n
  · by_cases h2 : n ≤ 65535
    · go_enter Tryd.func45, Tryd.ntmps45
      go_wp2
      go_ret
      exact ⟨by simp [h1, h2], rfl⟩
    · go_enter Tryd.func45, Tryd.ntmps45
      go_wp2
      go_ret
      exact ⟨by simp [h2], rfl⟩
  · go_enter Tryd.func45, Tryd.ntmps45
    go_wp2
    go_ret
    exact ⟨by rw [show decide (0 ≤ n) = false from decide_eq_false (by omega)]; rfl, rfl⟩

theorem split_any (a : Int) (h0 : 0 ≤ a) (h1 : a < 4294967296) (w : World) :
    Calls Tryd.prog 38 #[.int .u32 a] w fun e w' => e = .returned (.agg #[.int .u8 (a / 16777216), .int .u8 (a / 65536 % 256), .int .u8 (a / 256 % 256), .int .u8 (a % 256)]) ∧ Below w.heap.size w w' := by
  go_enter Tryd.func38, Tryd.ntmps38
  go_wp2
  exact bodyPost_ret (v := .agg #[.int .u8 (a / 16777216), .int .u8 (a / 65536 % 256), .int .u8 (a / 256 % 256), .int .u8 (a % 256)]) (by simp [results, Tryd.results38, go_sem]) rfl ⟨rfl, (Below.refl _ _).alloc (Nat.le_refl _) _⟩

theorem or_join (a b c d : Int) (a0 : 0 ≤ a) (a1 : a < 256) (b0 : 0 ≤ b) (b1 : b < 256) (c0 : 0 ≤ c) (c1 : c < 256) (d0 : 0 ≤ d) (d1 : d < 256) :
    bits BinOp.or IntKind.u32 (bits BinOp.or IntKind.u32 (bits BinOp.or IntKind.u32 (a * 16777216) (b * 65536)) (c * 256)) d = a * 16777216 + b * 65536 + c * 256 + d := by
  obtain ⟨a, rfl⟩ := Int.eq_ofNat_of_zero_le a0
  obtain ⟨b, rfl⟩ := Int.eq_ofNat_of_zero_le b0
  obtain ⟨c, rfl⟩ := Int.eq_ofNat_of_zero_le c0
  obtain ⟨d, rfl⟩ := Int.eq_ofNat_of_zero_le d0
  have e1 : bits BinOp.or IntKind.u32 ((a : Int) * 16777216) ((b : Int) * 65536) = ((a * 16777216 + b * 65536 : Nat) : Int) := by
    have h := u32_or_nat (a * 16777216) (b * 65536) (by omega) (by omega)
    rw [nat_join 24 _ _ (by omega) (by omega)] at h
    exact h
  have e2 : bits BinOp.or IntKind.u32 ((a * 16777216 + b * 65536 : Nat) : Int) ((c : Int) * 256) = ((a * 16777216 + b * 65536 + c * 256 : Nat) : Int) := by
    have h := u32_or_nat (a * 16777216 + b * 65536) (c * 256) (by omega) (by omega)
    rw [nat_join 16 _ _ (by omega) (by omega)] at h
    exact h
  have e3 : bits BinOp.or IntKind.u32 ((a * 16777216 + b * 65536 + c * 256 : Nat) : Int) (d : Int) = ((a * 16777216 + b * 65536 + c * 256 + d : Nat) : Int) := by
    have h := u32_or_nat (a * 16777216 + b * 65536 + c * 256) d (by omega) (by omega)
    rw [nat_join 8 _ _ (by omega) (by omega)] at h
    exact h
  rw [e1, e2, e3]
  omega

theorem ret_int {k : IntKind} {a b : Int} (h : a = b) : Ending.returned (.int k a) = .returned (.int k b) := by rw [h]

theorem join_any (a b c d : Int) (a0 : 0 ≤ a) (a1 : a < 256) (b0 : 0 ≤ b) (b1 : b < 256) (c0 : 0 ≤ c) (c1 : c < 256) (d0 : 0 ≤ d) (d1 : d < 256) (w : World) :
    Calls Tryd.prog 37 #[.agg #[.int .u8 a, .int .u8 b, .int .u8 c, .int .u8 d]] w fun e w' => e = .returned (.int .u32 (a * 16777216 + b * 65536 + c * 256 + d)) ∧ Below w.heap.size w w' := by
  have ho := Lib.hid (or_join a b c d a0 a1 b0 b1 c0 c1 d0 d1)
  go_enter Tryd.func37, Tryd.ntmps37
  go_wp2
  go_ret
  exact ⟨ret_int ho.out, (Below.refl _ _).alloc (Nat.le_refl _) _⟩

theorem at0 (x0 x1 x2 x3 : Value) (w : World) : (Instr.index 62 (.agg #[x0, x1, x2, x3]) (.int .i64 0)).run Tryd.prog w = .ok x0 w := by kernel_rfl
theorem at1 (x0 x1 x2 x3 : Value) (w : World) : (Instr.index 62 (.agg #[x0, x1, x2, x3]) (.int .i64 1)).run Tryd.prog w = .ok x1 w := by kernel_rfl
theorem at2 (x0 x1 x2 x3 : Value) (w : World) : (Instr.index 62 (.agg #[x0, x1, x2, x3]) (.int .i64 2)).run Tryd.prog w = .ok x2 w := by kernel_rfl
theorem at3 (x0 x1 x2 x3 : Value) (w : World) : (Instr.index 62 (.agg #[x0, x1, x2, x3]) (.int .i64 3)).run Tryd.prog w = .ok x3 w := by kernel_rfl

/-- Is a first byte a vip's? -/
def vipB (b : Int) : Bool := decide (1 ≤ b ∧ b ≤ 223 ∧ b ≠ 10 ∧ b ≠ 127)
theorem vipB_yes {b : Int} (h : 1 ≤ b ∧ b ≤ 223 ∧ b ≠ 10 ∧ b ≠ 127) : vipB b = true := decide_eq_true h
theorem vipB_no {b : Int} (h : ¬ (1 ≤ b ∧ b ≤ 223 ∧ b ≠ 10 ∧ b ≠ 127)) : vipB b = false := decide_eq_false h

theorem vip_any (a : Int) (h0 : 0 ≤ a) (h1 : a < 4294967296) (w : World) :
    Calls Tryd.prog 20 #[.int .u32 a] w fun e w' => e = .returned (.bool (vipB (a / 16777216))) ∧ Below w.heap.size w w' := by
  have hs := split_any a h0 h1
  obtain ⟨b, hb⟩ : ∃ b, b = a / 16777216 := ⟨_, rfl⟩
  have b0 : 0 ≤ b := by omega
  have b1 : b < 256 := by omega
  rw [← hb] at hs ⊢
  have H := Lib.hid hs
  clear hs hb
  have i0 := at0
  by_cases c1 : b < 1
  · have k := Lib.hid (vipB_no (b := b) (by omega))
    go_enter Tryd.func20, Tryd.ntmps20
    go_wp2_with (go_at_call 38; refine (H.out _).mono ?_; rintro e w1 ⟨rfl, hb⟩)
    go_ret
    exact ⟨by rw [k.out]; rfl, hb⟩
  by_cases c2 : 223 < b
  · have k := Lib.hid (vipB_no (b := b) (by omega))
    go_enter Tryd.func20, Tryd.ntmps20
    go_wp2_with (go_at_call 38; refine (H.out _).mono ?_; rintro e w1 ⟨rfl, hb⟩)
    go_ret
    exact ⟨by rw [k.out]; rfl, hb⟩
  by_cases c3 : b = 10
  · have k := Lib.hid (vipB_no (b := b) (by omega))
    go_enter Tryd.func20, Tryd.ntmps20
    go_wp2_with (go_at_call 38; refine (H.out _).mono ?_; rintro e w1 ⟨rfl, hb⟩)
    go_ret
    exact ⟨by rw [k.out]; rfl, hb⟩
  by_cases c4 : b = 127
  · have k := Lib.hid (vipB_no (b := b) (by omega))
    go_enter Tryd.func20, Tryd.ntmps20
    go_wp2_with (go_at_call 38; refine (H.out _).mono ?_; rintro e w1 ⟨rfl, hb⟩)
    go_ret
    exact ⟨by rw [k.out]; rfl, hb⟩
  have k := Lib.hid (vipB_yes (b := b) (by omega))
  have d3 : (b != 10) = true := by simp [c3]
  have d4 : (b != 127) = true := by simp [c4]
  go_enter Tryd.func20, Tryd.ntmps20
  go_wp2_with (go_at_call 38; refine (H.out _).mono ?_; rintro e w1 ⟨rfl, hb⟩)
  go_ret
  exact ⟨by rw [k.out]; rfl, hb⟩

/-- An error of the project's own: Errno(n). -/
abbrev errno (n : Int) : Value := .iface 40 (.int .i64 n)

theorem dip_ok (h v : Int) (h0 : 0 ≤ h) (h1 : h < 8) (v0 : 0 ≤ v) (v1 : v < 16) (w : World) :
    Calls Tryd.prog 16 #[.int .i64 h, .int .i64 v] w fun e w' => e = .returned (.tuple #[.int .u32 (167837696 + 256 * h + v), .nilIface]) ∧ Below w.heap.size w w' := by
  go_enter Tryd.func16, Tryd.ntmps16
  go_wp2_with (go_at_call 37; refine (join_any 10 1 _ _ (by omega) (by omega) (by omega) (by omega) (by omega) (by omega) (by omega) (by omega) _).mono ?_; rintro e w1 ⟨rfl, hb⟩)
  go_ret2
  refine ⟨?_, hb⟩
  have e : 167837696 + h * 256 + v = 167837696 + 256 * h + v := by omega
  rw [← e]
  rfl
theorem dip_no (h v : Int) (hn : ¬ (0 ≤ h ∧ h < 8 ∧ 0 ≤ v ∧ v < 16)) (w : World) :
    Calls Tryd.prog 16 #[.int .i64 h, .int .i64 v] w fun e w' => e = .returned (.tuple #[.int .u32 0, errno 12]) ∧ w = w' := by
  by_cases c1 : h < 0
  · go_enter Tryd.func16, Tryd.ntmps16
    go_wp2
    go_ret2
    exact ⟨rfl, rfl⟩
  by_cases c2 : 8 ≤ h
  · go_enter Tryd.func16, Tryd.ntmps16
    go_wp2
    go_ret2
    exact ⟨rfl, rfl⟩
  by_cases c3 : v < 0
  · go_enter Tryd.func16, Tryd.ntmps16
    go_wp2
    go_ret2
    exact ⟨rfl, rfl⟩
  have c4 : 16 ≤ v := by omega
  go_enter Tryd.func16, Tryd.ntmps16
  go_wp2
  go_ret2
  exact ⟨rfl, rfl⟩

theorem bl_tr {W wx w2 : World} (h : Below W.heap.size W wx) (h2 : Below wx.heap.size wx w2) : Below W.heap.size W w2 := h.trans (h2.mono h.size)
theorem bl_al {W wx : World} (h : Below W.heap.size W wx) (o : Obj) : Below W.heap.size W (wx.alloc o) := h.alloc h.size o
theorem bl_dr {W wx : World} (h : Below W.heap.size W wx) (n : Nat) : Below W.heap.size W (wx.drewN n) := below_drewN h n

/-- Is an address a machine's? -/
def IsDip (a : Int) : Prop := a / 65536 = 2561 ∧ a / 256 % 256 < 8 ∧ a % 256 < 16

theorem home_ok (a : Int) (hd : IsDip a) (w : World) :
    Calls Tryd.prog 18 #[.int .u32 a] w fun e w' => e = .returned (.tuple #[.int .i64 (48 + a / 256 % 256), .int .i64 (a % 256), .bool true]) ∧ Below w.heap.size w w' := by
  obtain ⟨p1, p2, p3⟩ := hd
  have hs := split_any a (by omega) (by omega)
  obtain ⟨h, eh⟩ : ∃ h, h = a / 256 % 256 := ⟨_, rfl⟩
  obtain ⟨v, ev⟩ : ∃ v, v = a % 256 := ⟨_, rfl⟩
  have h0 : 0 ≤ h := by omega
  have h1 : h < 8 := by omega
  have v0 : 0 ≤ v := by omega
  have v1 : v < 16 := by omega
  have EA := Lib.hid (show 167837696 + 256 * h + v = a by omega)
  have dd := dip_ok h v h0 h1 v0 v1
  rw [EA.out] at dd
  rw [← eh, ← ev] at hs ⊢
  have H := Lib.hid hs
  have D := Lib.hid dd
  clear hs dd p1 p2 p3 eh ev
  go_enter Tryd.func18, Tryd.ntmps18
  go_wp2_with (go_at_call 38; refine (H.out _).mono ?_; rintro e w1 ⟨rfl, hb⟩)
  go_quiet (fail)
  go_wp2_with (go_at_call 16; refine (D.out _).mono ?_; rintro e w2 ⟨rfl, hb2⟩)
  go_ret3
  exact ⟨rfl, bl_tr (bl_dr (bl_al hb _) _) hb2⟩

theorem home_no (a : Int) (a0 : 0 ≤ a) (a1 : a < 4294967296) (hd : ¬ IsDip a) (w : World) :
    Calls Tryd.prog 18 #[.int .u32 a] w fun e w' => e = .returned (.tuple #[.int .i64 0, .int .i64 0, .bool false]) ∧ Below w.heap.size w w' := by
  have hs := split_any a a0 a1
  obtain ⟨h, eh⟩ : ∃ h, h = a / 256 % 256 := ⟨_, rfl⟩
  obtain ⟨v, ev⟩ : ∃ v, v = a % 256 := ⟨_, rfl⟩
  have h0 : 0 ≤ h := by omega
  have h1 : h < 256 := by omega
  have v0 : 0 ≤ v := by omega
  have v1 : v < 256 := by omega
  rw [← eh, ← ev] at hs
  have H := Lib.hid hs
  clear hs
  by_cases c : 0 ≤ h ∧ h < 8 ∧ 0 ≤ v ∧ v < 16
  · have dd := dip_ok h v c.1 c.2.1 c.2.2.1 c.2.2.2
    obtain ⟨d, ed⟩ : ∃ d, d = 167837696 + 256 * h + v := ⟨_, rfl⟩
    rw [← ed] at dd
    have hne : (d != a) = true := by
      have : d ≠ a := by
        intro e
        apply hd
        unfold IsDip
        omega
      simp [this]
    have D := Lib.hid dd
    clear dd ed eh ev hd c
    go_enter Tryd.func18, Tryd.ntmps18
    go_wp2_with (go_at_call 38; refine (H.out _).mono ?_; rintro e w1 ⟨rfl, hb⟩)
    go_quiet (fail)
    go_wp2_with (go_at_call 16; refine (D.out _).mono ?_; rintro e w2 ⟨rfl, hb2⟩)
    go_ret3
    exact ⟨rfl, bl_tr (bl_dr (bl_al hb _) _) hb2⟩
  · have D := Lib.hid (dip_no h v c)
    clear eh ev hd c
    go_enter Tryd.func18, Tryd.ntmps18
    go_wp2_with (go_at_call 38; refine (H.out _).mono ?_; rintro e w1 ⟨rfl, hb⟩)
    go_quiet (fail)
    go_wp2_with (go_at_call 16; refine (D.out _).mono ?_; rintro e w2 ⟨rfl, rfl⟩)
    go_ret3
    exact ⟨rfl, bl_dr (bl_al hb _) _⟩
end Go.Proofs.YtolkheelmmgnbaaDoor
