/- Contract of towpathlaw10.alive: it returns true. No conditions. -/
import Derived.Test.YthoegmcdohppoaaWkA
namespace Go.Proofs.Ythoegmcdohppoaa
open Go Go.RowKit
set_option linter.unusedVariables false
set_option linter.unusedSimpArgs false

def aT3 : List Wy := [(5, 1), (5, 2), (3, 9)]
theorem aT_1 : setR 5 [1, 2] [] = (0, [(5, 1), (5, 2)]) := by decide
theorem aT_2 : setR 3 [9] [(5, 1), (5, 2)] = (0, aT3) := by decide
theorem aT_n : nextT aT3 = some 3 := by decide
theorem aT_d2 : dueT 2 aT3 = [] ∧ leftT 2 aT3 = aT3 := by decide
theorem aT_d4 : dueT 4 aT3 = [9] ∧ leftT 4 aT3 = [(5, 1), (5, 2)] := by decide
theorem aT_d9 : dueT 100 [(5, 1), (5, 2)] = [1, 2] ∧ leftT 100 [(5, 1), (5, 2)] = [] := by decide
set_option maxRecDepth 100000 in
set_option maxHeartbeats 2000000 in
theorem alive10_any (w : World) : Calls Try.prog 9 #[] w fun e w' => e = .returned (.bool true) ∧ Below w.heap.size w w' := by
  have en := nilEq
  have CN := Lib.hid (wnew_t 3 w (by unfold I64; omega))
  go_enter Try.func9, Try.ntmps9
  go_wp2_with fail
  refine CN.out.mono ?_
  rintro e w1 hW
  obtain ⟨p, rfl, hO⟩ := WOn.made (by unfold OkS; omega) hW
  have C1 := Lib.hid (hO.set (bl_al (Below.refl _ _) (.cells #[.int .i64 1, .int .i64 2] 3)) 5 [1, 2] 2 2 (in_twoT w1 1 2 (by omega) (by omega)) (by decide) (by unfold I64; omega))
  rw [aT_1] at C1
  clear hW hO CN
  go_wp2_with fail
  refine C1.out.mono ?_
  rintro e w2 ⟨rfl, hO⟩
  rw [show errT 0 = Value.nilIface from rfl]
  have C2 := Lib.hid (hO.set (bl_al (Below.refl _ _) (.cells #[.int .i64 9] 3)) 3 [9] 1 1 (in_oneT w2 9 (by omega)) (by decide) (by unfold I64; omega))
  rw [aT_2] at C2
  clear hO C1
  go_wp2_with fail
  refine C2.out.mono ?_
  rintro e w3 ⟨rfl, hO⟩
  rw [show errT 0 = Value.nilIface from rfl]
  have C3 := Lib.hid (WOn.next (ts := aT3) hO (by decide))
  rw [aT_n] at C3
  clear hO C2
  go_wp2_with fail
  refine C3.out.mono ?_
  rintro e w4 ⟨rfl, hO⟩
  rw [show atR (some 3) = .tuple #[.int .i64 3, .bool true] from rfl]
  have C4 := Lib.hid (hO.due 2 (by decide) (by unfold I64; omega))
  rw [aT_d2.1, aT_d2.2] at C4
  clear hO C3
  go_wp2_with fail
  refine C4.out.mono ?_
  rintro e w5 ⟨a5, c5, rfl, _, hO⟩
  rw [show ([] : List Int).length = 0 from rfl]
  have C5 := Lib.hid (hO.due 4 (by decide) (by unfold I64; omega))
  rw [aT_d4.1, aT_d4.2] at C5
  clear hO C4
  go_wp2_with fail
  refine C5.out.mono ?_
  rintro e w6 ⟨a6, c6, rfl, hI6, hO⟩
  rw [show ([9] : List Int).length = 1 from rfl] at hI6 ⊢
  have hb6 := bl_al (Below.refl w6.heap.size w6) (.cells #[.int .i64 9] 3)
  have C6 := Lib.hid (ints_any [9] [9] a6 (some ⟨w6.heap.size, 0, none⟩) 1 c6 1 1 _ (hI6.below hb6) (in_oneT w6 9 (by omega)) (by omega) true (by simp))
  have HO6 := Lib.hid (hO.new hb6)
  clear hO C5 hI6 hb6
  go_wp2_with fail
  refine C6.out.mono ?_
  rintro e w7 ⟨rfl, hb⟩
  have hO := HO6.out.new hb
  have C7 := Lib.hid (hO.due 100 (by decide) (by unfold I64; omega))
  rw [aT_d9.1, aT_d9.2] at C7
  clear hO C6 hb HO6
  go_wp2_with fail
  refine C7.out.mono ?_
  rintro e w8 ⟨a8, c8, rfl, hI8, hO⟩
  rw [show ([1, 2] : List Int).length = 2 from rfl] at hI8 ⊢
  have hb8 := bl_al (Below.refl w8.heap.size w8) (.cells #[.int .i64 1, .int .i64 2] 3)
  have C8 := Lib.hid (ints_any [1, 2] [1, 2] a8 (some ⟨w8.heap.size, 0, none⟩) 2 c8 2 2 _ (hI8.below hb8) (in_twoT w8 1 2 (by omega) (by omega)) (by omega) true (by simp))
  have HO8 := Lib.hid (hO.new hb8)
  clear hO C7 hI8 hb8
  go_wp2_with fail
  refine C8.out.mono ?_
  rintro e w9 ⟨rfl, hb⟩
  have hO := HO8.out.new hb
  have C9 := Lib.hid (hO.len (by decide))
  clear hO C8 hb HO8
  go_wp2_with fail
  refine C9.out.mono ?_
  rintro e w10 ⟨rfl, hO⟩
  have HB := Lib.hid hO.bel
  rw [show ((([] : List Wy).length : Nat) : Int) = 0 from rfl]
  clear hO C9
  go_wp2
  go_ret
  exact ⟨rfl, HB.out⟩
end Go.Proofs.Ythoegmcdohppoaa
