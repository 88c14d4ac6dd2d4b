/- Contract of the document's Parse: the address and 0 where the plain function on lists takes the text, else 0 and 1; nothing that was there is turned. Condition: the string's length is an int. -/
import Derived.Test.YtolkheelmmgnbaaDoorK2
import Derived.Test.YtolkheelmmgnbaaDoorK3
namespace Go.Proofs.YtolkheelmmgnbaaDoor
open Go Go.RowKit

/-- The byte at a place of a string. -/
def bt (s : ByteArray) (k : Nat) : Int := (((s.data.toList.drop k).headD 0).toNat : Int)
theorem get_bt (s : ByteArray) (n : Nat) (h : n < s.size) : ((s[n]'h).toNat : Int) = bt s n := by
  have hl : n < s.data.toList.length := by rw [Array.length_toList]; exact h
  unfold bt
  rw [List.drop_eq_getElem_cons hl]
  rfl
theorem bt_nonneg (s : ByteArray) (k : Nat) : 0 ≤ bt s k := by unfold bt; omega
theorem bt_le (s : ByteArray) (k : Nat) : bt s k ≤ 255 := by
  unfold bt
  have := UInt8.toNat_lt ((s.data.toList.drop k).headD 0)
  omega
def resR : Option Int → Value
  | some x => .tuple #[.int .u32 x, .int .i64 0]
  | none => .tuple #[.int .u32 0, .int .i64 1]

/-- Where the loop stands. -/
def LRel (s : ByteArray) (a n : Int) (p d i : Nat) : Prop :=
  0 ≤ a ∧ a < 18446744073709551616 ∧ 0 ≤ n ∧ n < 10 ^ i ∧ p ≤ i ∧ d ≤ i ∧ i ≤ s.size + 1 ∧
  goP s.data.toList 0 0 0 0 = if i ≤ s.size then goP (s.data.toList.drop i) a n p d else some (a, p)

theorem LRel.start (s : ByteArray) : LRel s 0 0 0 0 0 :=
  ⟨by omega, by omega, by omega, by decide, Nat.le_refl _, Nat.le_refl _, by omega, by rw [if_pos (Nat.zero_le _)]; rfl⟩
theorem drop_bt (s : ByteArray) (i : Nat) (h : i < s.size) : ∃ c r, s.data.toList.drop i = c :: r ∧ (c.toNat : Int) = bt s i ∧ s.data.toList.drop (i + 1) = r := by
  have hl : i < s.data.toList.length := by rw [Array.length_toList]; exact h
  refine ⟨s.data.toList[i], s.data.toList.drop (i + 1), List.drop_eq_getElem_cons hl, ?_, rfl⟩
  rw [← get_bt s i h]
  rfl
theorem wrap_u64_fits (x : Int) : 0 ≤ IntKind.u64.wrap x ∧ IntKind.u64.wrap x < 18446744073709551616 := by
  rw [IntKind.wrap_u64]
  omega
theorem pow_step (n b : Int) (i : Nat) (h : n < 10 ^ i) (hb : b ≤ 57) : 10 * n + (b - 48) < 10 ^ (i + 1) := by
  rw [Int.pow_succ]
  omega
theorem pow_caps : ∀ i : Fin 17, (10 : Int) ^ i.val ≤ 10000000000000000 := by decide +kernel
theorem pow_cap (i : Nat) (h : i ≤ 16) : (10 : Int) ^ i ≤ 10000000000000000 := pow_caps ⟨i, by omega⟩
theorem LRel.digit {s : ByteArray} {a n : Int} {p d i : Nat} (h : LRel s a n p d i) (hi : i < s.size) (h1 : 48 ≤ bt s i) (h2 : bt s i ≤ 57) : LRel s a (10 * n + (bt s i - 48)) p (d + 1) (i + 1) := by
  obtain ⟨q0, q1, q2, q3, q4, q5, q6, q7⟩ := h
  obtain ⟨c, r, e1, e2, e3⟩ := drop_bt s i hi
  refine ⟨q0, q1, by omega, pow_step n _ i q3 h2, by omega, by omega, by omega, ?_⟩
  rw [q7, if_pos (by omega), if_pos (by omega), e1, goP, if_pos (by unfold IsDig; omega), e3, e2]
theorem LRel.point {s : ByteArray} {a n : Int} {p d i : Nat} (h : LRel s a n p d i) (hi : i < s.size) (h1 : bt s i = 46) (h2 : d ≠ 0) (h3 : n ≤ 255) : LRel s (IntKind.u64.wrap (IntKind.u64.wrap (a * 256) + n)) 0 (p + 1) 0 (i + 1) := by
  obtain ⟨q0, q1, q2, q3, q4, q5, q6, q7⟩ := h
  obtain ⟨c, r, e1, e2, e3⟩ := drop_bt s i hi
  refine ⟨(wrap_u64_fits _).1, (wrap_u64_fits _).2, by omega, Int.pow_pos (by decide), by omega, by omega, by omega, ?_⟩
  rw [q7, if_pos (by omega), if_pos (by omega), e1, goP, if_neg (by unfold IsDig; omega), if_neg (by omega), e3]
theorem LRel.bad {s : ByteArray} {a n : Int} {p d i : Nat} (h : LRel s a n p d i) (hi : i < s.size) (h0 : ¬ (48 ≤ bt s i ∧ bt s i ≤ 57)) (h1 : bt s i ≠ 46 ∨ d = 0 ∨ 255 < n) : goP s.data.toList 0 0 0 0 = none := by
  obtain ⟨q0, q1, q2, q3, q4, q5, q6, q7⟩ := h
  obtain ⟨c, r, e1, e2, e3⟩ := drop_bt s i hi
  rw [q7, if_pos (by omega), e1, goP, if_neg (by unfold IsDig; omega), if_pos (by omega)]
theorem drop_all (s : ByteArray) : s.data.toList.drop s.size = [] := List.drop_eq_nil_of_le (by rw [Array.length_toList]; exact Nat.le_refl _)
theorem LRel.last {s : ByteArray} {a n : Int} {p d : Nat} (h : LRel s a n p d s.size) (h2 : d ≠ 0) (h3 : n ≤ 255) : LRel s (IntKind.u64.wrap (IntKind.u64.wrap (a * 256) + n)) 0 (p + 1) 0 (s.size + 1) := by
  obtain ⟨q0, q1, q2, q3, q4, q5, q6, q7⟩ := h
  refine ⟨(wrap_u64_fits _).1, (wrap_u64_fits _).2, by omega, Int.pow_pos (by decide), by omega, by omega, by omega, ?_⟩
  rw [q7, if_pos (Nat.le_refl _), if_neg (by omega), drop_all, goP, if_neg (by omega)]
theorem LRel.lastbad {s : ByteArray} {a n : Int} {p d : Nat} (h : LRel s a n p d s.size) (h1 : d = 0 ∨ 255 < n) : goP s.data.toList 0 0 0 0 = none := by
  obtain ⟨q0, q1, q2, q3, q4, q5, q6, q7⟩ := h
  rw [q7, if_pos (Nat.le_refl _), drop_all, goP, if_pos h1]
theorem LRel.out {s : ByteArray} {a n : Int} {p d i : Nat} (h : LRel s a n p d i) (hi : s.size < i) : goP s.data.toList 0 0 0 0 = some (a, p) := by
  obtain ⟨q0, q1, q2, q3, q4, q5, q6, q7⟩ := h
  rw [q7, if_neg (by omega)]
theorem other_bytes {t s : ByteArray} (h : t ≠ s) : (t.toList == s.toList) = false := by
  cases e : (t.toList == s.toList) with
  | false => rfl
  | true =>
    exfalso
    have e2 := beq_iff_eq.1 e
    rw [ByteArray.toList_eq, ByteArray.toList_eq] at e2
    exact h (bytes_eq e2)
theorem refV_none {s : ByteArray} (h : goP s.data.toList 0 0 0 0 = none) : refV s = none := by
  unfold refV
  rw [h]
  split <;> rfl
theorem refV_short {s : ByteArray} {a : Int} {p : Nat} (h : goP s.data.toList 0 0 0 0 = some (a, p)) (hp : p ≠ 4) : refV s = none := by
  unfold refV
  rw [h]
  simp only [ne_eq, hp, not_false_eq_true, if_true, ite_self]
/-- The text that the document makes of an address. -/
def txt (x : Int) : ByteArray := ⟨(textL (x / 16777216) (x / 65536 % 256) (x / 256 % 256) (x % 256)).toArray⟩
theorem refV_other {s : ByteArray} {a : Int} (h : goP s.data.toList 0 0 0 0 = some (a, 4)) (hp : txt (a % 4294967296) ≠ s) : refV s = none := by
  unfold refV
  rw [h]
  unfold txt at hp
  simp only [ne_eq, not_true_eq_false, hp, not_false_eq_true, if_true, ite_self]
theorem refV_some {s : ByteArray} {a : Int} (hs : s.size ≤ 15) (h : goP s.data.toList 0 0 0 0 = some (a, 4)) (hp : txt (a % 4294967296) = s) : refV s = some (a % 4294967296) := by
  unfold refV
  rw [h, if_neg (by omega)]
  unfold txt at hp
  simp only [ne_eq, not_true_eq_false, if_false, hp]

theorem refParse_long (s : ByteArray) (h : 15 < s.size) (hm : s.size ≤ 9223372036854775807) (w : World) :
    Calls Tryd.prog 11 #[.string s] w fun e w' => e = .returned (resR none) ∧ w = w' := by
  have hi : (15 : Int) < (s.size : Int) := by omega
  go_enter Tryd.func11, Tryd.ntmps11
  go_wp2
  go_ret2
  exact ⟨rfl, rfl⟩

set_option maxRecDepth 100000 in
set_option maxHeartbeats 2000000 in
theorem refParse_short (s : ByteArray) (hs : s.size ≤ 15) (w : World) :
    Calls Tryd.prog 11 #[.string s] w fun e w' => e = .returned (resR (refV s)) ∧ Below w.heap.size w w' := by
  have hb := get_bt s
  have hz : (s.size : Int) ≤ 15 := by omega
  have HS := Lib.hid hs
  have T : Hid (∀ (x : Int) (w : World), 0 ≤ x → x < 4294967296 → Calls Tryd.prog 13 #[.int .u32 x] w fun e w' => e = .returned (.string (txt x)) ∧ Below w.heap.size w w') := Lib.hid fun x w h0 h1 => refText x h0 h1 w
  clear hs
  go_enter Tryd.func11, Tryd.ntmps11
  go_wp2
  go_loopw [4, 5, 6, 7, 8] (fun va vn vp vd vi wr => (∃ (a n : Int) (p d i : Nat), va = .int .u64 a ∧ vn = .int .i64 n ∧ vp = .int .i64 p ∧ vd = .int .i64 d ∧ vi = .int .i64 i ∧ Hid (LRel s a n p d i)) ∧ Hid (Below w.heap.size w wr)) (fun _ _ _ _ vi _ => 17 - (intOf vi).toNat)
  case atStart => exact ⟨⟨0, 0, 0, 0, 0, rfl, rfl, rfl, rfl, rfl, Lib.hid (LRel.start s)⟩, Below.refl _ _⟩
  case round =>
    obtain ⟨⟨a, n, p, d, i, rfl, rfl, rfl, rfl, rfl, hR⟩, hB⟩ := hrel
    obtain ⟨q0, q1, q2, q3, q4, q5, q6, -⟩ := hR.out
    have hcap := pow_cap i (by have := HS.out; omega)
    have q8 : n < 10000000000000000 := Int.lt_of_lt_of_le q3 hcap
    clear hcap q3
    by_cases hi : i < s.size
    · have b0 := bt_nonneg s i
      have b1 := bt_le s i
      by_cases h1 : 48 ≤ bt s i ∧ bt s i ≤ 57
      · obtain ⟨h1a, h1b⟩ := h1
        have N := Lib.hid (hR.out.digit hi h1a h1b)
        go_wp2
        go_roundw
        case rel => exact ⟨⟨a, _, p, d + 1, i + 1, rfl, rfl, rfl, by go_num, by go_num, N⟩, hB.out⟩
        case measure => simp [intOf]; omega
      · by_cases h2 : bt s i ≠ 46 ∨ d = 0 ∨ 255 < n
        · have hbad := Lib.hid (refV_none (hR.out.bad hi h1 h2))
          have h3 : bt s i < 48 ∨ 57 < bt s i := by omega
          clear h1
          go_wp2
          all_goals (go_ret2; exact ⟨by rw [hbad.out]; rfl, hB.out⟩)
        · obtain ⟨h3, h4, h5⟩ : bt s i = 46 ∧ d ≠ 0 ∧ n ≤ 255 := by omega
          have N := Lib.hid (hR.out.point hi h3 h4 h5)
          have h6 : ((d : Int) == 0) = false := by simp; omega
          clear h1 h2
          go_wp2
          go_roundw
          case rel => exact ⟨⟨_, 0, p + 1, 0, i + 1, rfl, rfl, by go_num, rfl, by go_num, N⟩, hB.out⟩
          case measure => simp [intOf]; omega
    · by_cases he : i = s.size
      · subst he
        by_cases h2 : d = 0 ∨ 255 < n
        · have hbad := Lib.hid (refV_none (hR.out.lastbad h2))
          go_wp2
          all_goals (go_ret2; exact ⟨by rw [hbad.out]; rfl, hB.out⟩)
        · obtain ⟨h4, h5⟩ : d ≠ 0 ∧ n ≤ 255 := by omega
          have N := Lib.hid (hR.out.last h4 h5)
          have h6 : ((d : Int) == 0) = false := by simp; omega
          clear h2
          go_wp2
          go_roundw
          case rel => exact ⟨⟨_, 0, p + 1, 0, s.size + 1, rfl, rfl, by go_num, rfl, by go_num, N⟩, hB.out⟩
          case measure => simp [intOf]; omega
      · have hlt : s.size < i := by omega
        have HO := Lib.hid (hR.out.out hlt)
        by_cases hp : p = 4
        · subst hp
          obtain ⟨x, hx⟩ : ∃ x, x = a % 4294967296 := ⟨_, rfl⟩
          have x0 : 0 ≤ x := by omega
          have x1 : x < 4294967296 := by omega
          obtain ⟨t, ht⟩ : ∃ t, t = txt x := ⟨_, rfl⟩
          have TX := Lib.hid (fun w => T.out x w x0 x1)
          rw [← ht] at TX
          by_cases hst : t = s
          · have hV := Lib.hid (refV_some HS.out HO.out (by rw [← hx, ← ht]; exact hst))
            subst hst
            have HX := Lib.hid hx
            rw [hx] at TX
            clear hx x0 x1 ht
            go_wp2_with (go_at_call 13; refine (TX.out _).mono ?_; rintro e w2 ⟨rfl, hb2⟩)
            go_ret2
            exact ⟨by rw [hV.out]; rfl, bl_tr hB.out hb2⟩
          · have hV := Lib.hid (refV_other HO.out (by rw [← hx, ← ht]; exact hst))
            have hne := other_bytes hst
            have HX := Lib.hid hx
            rw [hx] at TX
            clear hx x0 x1 ht
            go_wp2_with (go_at_call 13; refine (TX.out _).mono ?_; rintro e w2 ⟨rfl, hb2⟩)
            go_ret2
            exact ⟨by rw [hV.out]; rfl, bl_tr hB.out hb2⟩
        · have hV := Lib.hid (refV_short HO.out hp)
          go_wp2
          go_ret2
          exact ⟨by rw [hV.out]; rfl, hB.out⟩

theorem refParse_any (s : ByteArray) (hm : s.size ≤ 9223372036854775807) (w : World) :
    Calls Tryd.prog 11 #[.string s] w fun e w' => e = .returned (resR (parseV s)) ∧ Below w.heap.size w w' := by
  rw [← ref_same]
  by_cases h : 15 < s.size
  · refine (refParse_long s h hm w).mono ?_
    rintro e w' ⟨rfl, rfl⟩
    exact ⟨by rw [refV, if_pos h], Below.refl _ _⟩
  · exact refParse_short s (by omega) w
end Go.Proofs.YtolkheelmmgnbaaDoor
