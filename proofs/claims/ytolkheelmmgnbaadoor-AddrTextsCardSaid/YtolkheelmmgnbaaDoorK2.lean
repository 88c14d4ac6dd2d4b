/- Contract of the document's Text: the text of four numerals with points between; nothing that was there is turned. No conditions but that the address fits its kind. -/
import Derived.Test.YtolkheelmmgnbaaDoorK1
import Derived.Test.YtolkheelmmgnbaaDoorG1
namespace Go.Proofs.YtolkheelmmgnbaaDoor
open Go Go.RowKit

abbrev dotB : ByteArray := ⟨#[46]⟩
/-- The text's beginning behind k rounds. -/
def preB (b0 b1 b2 b3 : Int) : Nat → ByteArray
  | 0 => ⟨#[]⟩
  | 1 => ⟨#[]⟩ ++ decS b0
  | 2 => ⟨#[]⟩ ++ decS b0 ++ dotB ++ decS b1
  | 3 => ⟨#[]⟩ ++ decS b0 ++ dotB ++ decS b1 ++ dotB ++ decS b2
  | _ => ⟨#[]⟩ ++ decS b0 ++ dotB ++ decS b1 ++ dotB ++ decS b2 ++ dotB ++ decS b3

theorem decS_len (n : Int) (h0 : 0 ≤ n) (h1 : n < 256) : (decS n).size ≤ 3 := by
  have e : (decS n).size = (Lib.decDigits n.toNat).length := by
    rw [Lib.size_eq]
    rfl
  rw [e]
  exact dec_len n.toNat (by omega)
theorem decimal_i (n : Int) (h0 : 0 ≤ n) (h1 : n < 256) (w : World) : Calls Tryd.prog 41 #[.int .i64 n] w fun e w' => e = .returned (.string (decS n)) ∧ Below w.heap.size w w' := by
  obtain ⟨u, rfl⟩ := Int.eq_ofNat_of_zero_le h0
  exact decimal_any u (by omega) w
theorem preB_data (b0 b1 b2 b3 : Int) : (preB b0 b1 b2 b3 4).data.toList = textL b0 b1 b2 b3 := by
  unfold textL
  rw [join_two, join_two, join_two, Lib.join_one]
  simp [preB, ByteArray.data_append]

/-- Where the loop stands: its counter and the text so far. -/
def TRel (b0 b1 b2 b3 : Int) (vs vi : Value) : Prop := ∃ k : Nat, k ≤ 4 ∧ vi = .int .i64 k ∧ vs = .string (preB b0 b1 b2 b3 k)

set_option maxRecDepth 100000 in
set_option maxHeartbeats 2000000 in
theorem refText_core (a b0 b1 b2 b3 : Int) (p0 : 0 ≤ b0) (q0 : b0 < 256) (p1 : 0 ≤ b1) (q1 : b1 < 256) (p2 : 0 ≤ b2) (q2 : b2 < 256) (p3 : 0 ≤ b3) (q3 : b3 < 256) (w : World)
    (h0 : Hid (∀ w : World, Calls Tryd.prog 42 #[.int .u32 a, .int .i64 0] w fun e w' => e = .returned (.int .i64 b0) ∧ w = w'))
    (h1 : Hid (∀ w : World, Calls Tryd.prog 42 #[.int .u32 a, .int .i64 1] w fun e w' => e = .returned (.int .i64 b1) ∧ w = w'))
    (h2 : Hid (∀ w : World, Calls Tryd.prog 42 #[.int .u32 a, .int .i64 2] w fun e w' => e = .returned (.int .i64 b2) ∧ w = w'))
    (h3 : Hid (∀ w : World, Calls Tryd.prog 42 #[.int .u32 a, .int .i64 3] w fun e w' => e = .returned (.int .i64 b3) ∧ w = w')) :
    Calls Tryd.prog 13 #[.int .u32 a] w fun e w' => e = .returned (.string (preB b0 b1 b2 b3 4)) ∧ Below w.heap.size w w' := by
  go_enter Tryd.func13, Tryd.ntmps13
  go_wp2
  go_loopw [3, 4] (fun vs vi wr => TRel b0 b1 b2 b3 vs vi ∧ Hid (Below w.heap.size w wr)) (fun _ vi _ => 4 - (intOf vi).toNat)
  case atStart => exact ⟨⟨0, by omega, rfl, rfl⟩, Below.refl _ _⟩
  case round =>
    obtain ⟨⟨k, hk, rfl, rfl⟩, hB⟩ := hrel
    have hk' : k = 0 ∨ k = 1 ∨ k = 2 ∨ k = 3 ∨ k = 4 := by omega
    have l0 := decS_len b0 p0 q0
    have l1 := decS_len b1 p1 q1
    have l2 := decS_len b2 p2 q2
    have l3 := decS_len b3 p3 q3
    rcases hk' with rfl | rfl | rfl | rfl | rfl
    · obtain ⟨s, hs⟩ : ∃ s, s = preB b0 b1 b2 b3 0 := ⟨_, rfl⟩
      obtain ⟨d, hd⟩ : ∃ d, d = decS b0 := ⟨_, rfl⟩
      have hz : s.size ≤ 0 := by rw [hs]; exact Nat.le_refl _
      have hadd : ∀ W : World, (Op.stringOp .add s d).run Tryd.prog W = .ok (.string (s ++ d)) W := fun W => run_string_add_sum W s d (by rw [hd]; omega)
      have hnext := Lib.hid (show s ++ d = preB b0 b1 b2 b3 1 by rw [hs, hd]; rfl)
      have DH := decimal_i b0 p0 q0
      rw [← hd] at DH
      rw [← hs]
      have D := Lib.hid DH
      clear hs hd l0 l1 l2 l3 DH hz hk
      go_wp2_with (first | (go_at_call 42; refine (h0.out _).mono ?_; rintro e w2 ⟨rfl, rfl⟩) | (go_at_call 41; refine (D.out _).mono ?_; rintro e w2 ⟨rfl, hb2⟩))
      go_roundw
      case rel => exact ⟨⟨1, by omega, rfl, by rw [hnext.out]⟩, bl_tr hB.out hb2⟩
      case measure => simp [intOf]
    · obtain ⟨s, hs⟩ : ∃ s, s = preB b0 b1 b2 b3 1 := ⟨_, rfl⟩
      obtain ⟨d, hd⟩ : ∃ d, d = decS b1 := ⟨_, rfl⟩
      obtain ⟨t, ht⟩ : ∃ t, t = s ++ dotB := ⟨_, rfl⟩
      have hz : s.size ≤ 20 := by
        rw [hs]
        simp only [preB, ByteArray.size_append]
        have : (⟨#[]⟩ : ByteArray).size = 0 := rfl
        have : dotB.size = 1 := rfl
        omega
      have htz : t.size ≤ 21 := by
        rw [ht, ByteArray.size_append]
        have : dotB.size = 1 := rfl
        omega
      have hadd1 : ∀ W : World, (Op.stringOp .add s dotB).run Tryd.prog W = .ok (.string t) W := fun W => by
        rw [ht]
        exact run_string_add_sum W s dotB (by have : dotB.size = 1 := rfl; omega)
      have hadd2 : ∀ W : World, (Op.stringOp .add t d).run Tryd.prog W = .ok (.string (t ++ d)) W := fun W => run_string_add_sum W t d (by rw [hd]; omega)
      have hnext := Lib.hid (show t ++ d = preB b0 b1 b2 b3 2 by rw [ht, hs, hd]; rfl)
      have DH := decimal_i b1 p1 q1
      rw [← hd] at DH
      rw [← hs]
      have D := Lib.hid DH
      clear hs hd ht l0 l1 l2 l3 DH hz htz hk
      go_wp2_with (first | (go_at_call 42; refine (h1.out _).mono ?_; rintro e w2 ⟨rfl, rfl⟩) | (go_at_call 41; refine (D.out _).mono ?_; rintro e w2 ⟨rfl, hb2⟩))
      go_roundw
      case rel => exact ⟨⟨2, by omega, rfl, by rw [hnext.out]⟩, bl_tr hB.out hb2⟩
      case measure => simp [intOf]
    · obtain ⟨s, hs⟩ : ∃ s, s = preB b0 b1 b2 b3 2 := ⟨_, rfl⟩
      obtain ⟨d, hd⟩ : ∃ d, d = decS b2 := ⟨_, rfl⟩
      obtain ⟨t, ht⟩ : ∃ t, t = s ++ dotB := ⟨_, rfl⟩
      have hz : s.size ≤ 20 := by
        rw [hs]
        simp only [preB, ByteArray.size_append]
        have : (⟨#[]⟩ : ByteArray).size = 0 := rfl
        have : dotB.size = 1 := rfl
        omega
      have htz : t.size ≤ 21 := by
        rw [ht, ByteArray.size_append]
        have : dotB.size = 1 := rfl
        omega
      have hadd1 : ∀ W : World, (Op.stringOp .add s dotB).run Tryd.prog W = .ok (.string t) W := fun W => by
        rw [ht]
        exact run_string_add_sum W s dotB (by have : dotB.size = 1 := rfl; omega)
      have hadd2 : ∀ W : World, (Op.stringOp .add t d).run Tryd.prog W = .ok (.string (t ++ d)) W := fun W => run_string_add_sum W t d (by rw [hd]; omega)
      have hnext := Lib.hid (show t ++ d = preB b0 b1 b2 b3 3 by rw [ht, hs, hd]; rfl)
      have DH := decimal_i b2 p2 q2
      rw [← hd] at DH
      rw [← hs]
      have D := Lib.hid DH
      clear hs hd ht l0 l1 l2 l3 DH hz htz hk
      go_wp2_with (first | (go_at_call 42; refine (h2.out _).mono ?_; rintro e w2 ⟨rfl, rfl⟩) | (go_at_call 41; refine (D.out _).mono ?_; rintro e w2 ⟨rfl, hb2⟩))
      go_roundw
      case rel => exact ⟨⟨3, by omega, rfl, by rw [hnext.out]⟩, bl_tr hB.out hb2⟩
      case measure => simp [intOf]
    · obtain ⟨s, hs⟩ : ∃ s, s = preB b0 b1 b2 b3 3 := ⟨_, rfl⟩
      obtain ⟨d, hd⟩ : ∃ d, d = decS b3 := ⟨_, rfl⟩
      obtain ⟨t, ht⟩ : ∃ t, t = s ++ dotB := ⟨_, rfl⟩
      have hz : s.size ≤ 20 := by
        rw [hs]
        simp only [preB, ByteArray.size_append]
        have : (⟨#[]⟩ : ByteArray).size = 0 := rfl
        have : dotB.size = 1 := rfl
        omega
      have htz : t.size ≤ 21 := by
        rw [ht, ByteArray.size_append]
        have : dotB.size = 1 := rfl
        omega
      have hadd1 : ∀ W : World, (Op.stringOp .add s dotB).run Tryd.prog W = .ok (.string t) W := fun W => by
        rw [ht]
        exact run_string_add_sum W s dotB (by have : dotB.size = 1 := rfl; omega)
      have hadd2 : ∀ W : World, (Op.stringOp .add t d).run Tryd.prog W = .ok (.string (t ++ d)) W := fun W => run_string_add_sum W t d (by rw [hd]; omega)
      have hnext := Lib.hid (show t ++ d = preB b0 b1 b2 b3 4 by rw [ht, hs, hd]; rfl)
      have DH := decimal_i b3 p3 q3
      rw [← hd] at DH
      rw [← hs]
      have D := Lib.hid DH
      clear hs hd ht l0 l1 l2 l3 DH hz htz hk
      go_wp2_with (first | (go_at_call 42; refine (h3.out _).mono ?_; rintro e w2 ⟨rfl, rfl⟩) | (go_at_call 41; refine (D.out _).mono ?_; rintro e w2 ⟨rfl, hb2⟩))
      go_roundw
      case rel => exact ⟨⟨4, by omega, rfl, by rw [hnext.out]⟩, bl_tr hB.out hb2⟩
      case measure => simp [intOf]
    · clear l0 l1 l2 l3
      obtain ⟨s, hs⟩ : ∃ s, s = preB b0 b1 b2 b3 4 := ⟨_, rfl⟩
      rw [← hs]
      have HS := Lib.hid hs
      clear hs
      go_wp2
      go_ret
      exact ⟨by rw [← HS.out]; rfl, hB.out⟩

theorem refText (a : Int) (a0 : 0 ≤ a) (a1 : a < 4294967296) (w : World) :
    Calls Tryd.prog 13 #[.int .u32 a] w fun e w' => e = .returned (.string ⟨(textL (a / 16777216) (a / 65536 % 256) (a / 256 % 256) (a % 256)).toArray⟩) ∧ Below w.heap.size w w' := by
  have e : preB (a / 16777216) (a / 65536 % 256) (a / 256 % 256) (a % 256) 4 = ⟨(textL (a / 16777216) (a / 65536 % 256) (a / 256 % 256) (a % 256)).toArray⟩ := by
    apply bytes_eq
    rw [preB_data]
  rw [← e]
  exact refText_core a _ _ _ _ (by omega) (by omega) (by omega) (by omega) (by omega) (by omega) (by omega) (by omega) w (Lib.hid (byte0 a a0 a1)) (Lib.hid (byte1 a a0 a1)) (Lib.hid (byte2 a a0 a1)) (Lib.hid (byte3 a a0 a1))
end Go.Proofs.YtolkheelmmgnbaaDoor
