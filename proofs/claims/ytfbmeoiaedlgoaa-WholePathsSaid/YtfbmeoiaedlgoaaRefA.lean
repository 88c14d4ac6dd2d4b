/- Contracts of the document's two, four and Good: numbers behind others; whether a packet is in form. Conditions: the row is the call's own, of at most 2^20 bytes; the number from 0 to 2^32 - 1. -/
import Derived.Test.YtfbmeoiaedlgoaaBlD
namespace Go.Proofs.Ytfbmeoiaedlgoaa
open Go Go.RowKit
set_option linter.unusedVariables false
set_option linter.unusedSimpArgs false

/-- A row of the call's own behind block B, and that nothing below B has turned. -/
def Put (B : Nat) (w : World) (m : Nat) (l : List Int) (e : Ending) (w' : World) : Prop :=
  ∃ ao c, e = .returned (.slice ao m c) ∧ w'.ownsRow B 5 1 (.slice ao m c) m (u8s l) ∧ Below B w w'
set_option maxRecDepth 100000 in
theorem two_any (n : Int) (h : 0 ≤ n ∧ n < 4294967296) (B m : Nat) (ao : Option Addr) (c : Nat) (l : List Int) (w : World) (hO : w.ownsRow B 5 1 (.slice ao m c) m (u8s l)) (hB : B ≤ w.heap.size) (hm : m ≤ 1048576) :
    Calls Try.prog 40 #[.slice ao m c, .int .i64 n] w (Put B w (m + 2) (l ++ b2 n)) := by
  obtain ⟨i0, hi0, hz0, hz1, hz2⟩ := info_parts info5
  obtain ⟨n0, n1⟩ := h
  have w1 : IntKind.u8.wrap (n / 256) = n / 256 % 256 := IntKind.wrap_u8' _
  have w2 : IntKind.u8.wrap (n % 256) = n % 256 := by rw [IntKind.wrap_u8']; omega
  obtain ⟨x, hx⟩ : ∃ x, x = n / 256 % 256 := ⟨_, rfl⟩
  obtain ⟨y, hy⟩ : ∃ y, y = n % 256 := ⟨_, rfl⟩
  have HL : Hid (u8s l ++ [Value.int .u8 x, Value.int .u8 y] = u8s (l ++ b2 n)) := Lib.hid (by rw [hx, hy, ← u8s_app]; rfl)
  have HW1 : Hid (IntKind.u8.wrap (n / 256) = x) := Lib.hid (by rw [w1, hx])
  have HW2 : Hid (IntKind.u8.wrap (n % 256) = y) := Lib.hid (by rw [w2, hy])
  have HO := Lib.hid hO
  clear w1 w2 hx hy hO
  have w1 := HW1.out
  have w2 := HW2.out
  go_enter Try.func40, Try.ntmps40
  go_wp2_with (first | (at_builtin; refine wpList_append_own _ rfl (.tmp 5) (.tmp 12) 24 rfl B 5 i0 (.int .u8 0) 1 1 Try.underlying24 hi0 hz0 hz1 hz2 rfl (by decide) _ m (u8s l) rfl (HO.out.alloc _) ⟨w.heap.size, 0, none⟩ 2 2 [.int .u8 x, .int .u8 y] rfl rfl (cell_two_new w _ _ _) ?c3 ?c4 ?c5 ?c6 ?_))
  case c3 => intro u hu; simp at hu; rcases hu with rfl | rfl <;> rfl
  case c4 => unfold maxLen; omega
  case c5 => omega
  case c6 => simp; omega
  intro v3 w3 hown hg _
  have HB3 := Lib.hid (((Below.refl B w).alloc hB (.cells #[.int .u8 x, .int .u8 y] 5)).grown hg (by simp; omega) (fun k hk => (HO.out.lt k hk).1))
  obtain ⟨a3, c3, rfl⟩ := own_form hown
  rw [HL.out] at hown
  have HO3 := Lib.hid hown
  clear hown hg w1 w2
  go_wp2
  go_ret
  exact ⟨a3, c3, rfl, HO3.out, HB3.out⟩
theorem b2_b4 (n : Int) (l : List Int) (h : 0 ≤ n ∧ n < 4294967296) : (l ++ b2 (n / 65536)) ++ b2 (n % 65536) = l ++ b4 n := by
  rw [List.append_assoc]
  congr 1
  unfold b2 b4
  show [_, _, _, _] = _
  rw [show n / 65536 / 256 % 256 = n / 16777216 % 256 by omega, show n % 65536 / 256 % 256 = n / 256 % 256 by omega, show n % 65536 % 256 = n % 256 by omega]
set_option maxRecDepth 100000 in
theorem four_any (n : Int) (h : 0 ≤ n ∧ n < 4294967296) (B m : Nat) (ao : Option Addr) (c : Nat) (l : List Int) (w : World) (hO : w.ownsRow B 5 1 (.slice ao m c) m (u8s l)) (hB : B ≤ w.heap.size) (hm : m ≤ 1048500) :
    Calls Try.prog 39 #[.slice ao m c, .int .u32 n] w (Put B w (m + 4) (l ++ b4 n)) := by
  have HL := Lib.hid (b2_b4 n l h)
  obtain ⟨n0, n1⟩ := h
  have k1 : IntKind.i64.wrap (n / 65536) = n / 65536 := IntWalk.i64_in _ (by omega)
  have k2 : IntKind.i64.wrap (n % 65536) = n % 65536 := IntWalk.i64_in _ (by omega)
  have HO := Lib.hid hO
  have q1 : 0 ≤ n / 65536 ∧ n / 65536 < 4294967296 := by omega
  have q2 : 0 ≤ n % 65536 ∧ n % 65536 < 4294967296 := by omega
  have Q1 := Lib.hid q1
  have Q2 := Lib.hid q2
  clear hO q1 q2
  go_enter Try.func39, Try.ntmps39
  go_wp2_with fail
  refine (two_any _ Q1.out B m ao c l w HO.out hB (by omega)).mono ?_
  rintro e w1 ⟨a1, c1, rfl, ho1, hb1⟩
  have HO1 := Lib.hid ho1
  have HB1 := Lib.hid hb1
  have hs1 := hb1.size
  clear ho1 hb1
  go_wp2_with fail
  refine (two_any _ Q2.out B (m + 2) a1 c1 _ w1 HO1.out (by omega) (by omega)).mono ?_
  rintro e w2 ⟨a2, c2, rfl, ho2, hb2⟩
  rw [HL.out] at ho2
  have HO2 := Lib.hid ho2
  have HB2 := Lib.hid (HB1.out.trans hb2)
  clear ho2 hb2
  go_wp2
  go_ret
  exact ⟨a2, c2, rfl, HO2.out, HB2.out⟩
end Go.Proofs.Ytfbmeoiaedlgoaa
