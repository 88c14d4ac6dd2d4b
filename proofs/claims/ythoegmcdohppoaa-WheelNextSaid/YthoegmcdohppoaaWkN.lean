/- Contract of towpathlaw10.WheelNone: it returns true. No conditions. -/
import Derived.Test.YthoegmcdohppoaaWkB
namespace Go.Proofs.Ythoegmcdohppoaa
open Go Go.RowKit
set_option linter.unusedVariables false
set_option linter.unusedSimpArgs false

theorem fourEq (w : World) : (binOp .eql 26 (errnoT 4) (errnoT 4)).run Try.prog w = .ok (.bool true) w := by kernel_rfl
set_option maxRecDepth 100000 in
set_option maxHeartbeats 4000000 in
theorem wheelNone_t (key at' : Int) (w : World) (hk : I64 key) (ha : I64 at') :
    Calls Try.prog 7 #[.int .i64 key, .int .i64 at'] w fun e w' => e = .returned (.bool true) ∧ Below w.heap.size w w' := by
  have e4 := fourEq
  have hk' : -9223372036854775808 ≤ key ∧ key < 9223372036854775808 := by unfold I64 at hk; omega
  have HK := Lib.hid hk'
  have CA := Lib.hid (alive10_any w)
  clear hk hk' ha
  go_enter Try.func7, Try.ntmps7
  go_wp2_with fail
  refine CA.out.mono ?_
  rintro e w1 ⟨rfl, hb⟩
  have HB1 := Lib.hid hb
  have C1 := Lib.hid (watN_t key w1 (by have := HK.out; unfold I64; omega))
  clear hb CA
  go_wp2_with fail
  refine C1.out.mono ?_
  rintro e w2 ⟨rfl, hb⟩
  rw [show atR none = .tuple #[.int .i64 0, .bool false] from rfl]
  have HB2 := Lib.hid (bl_tr HB1.out hb)
  have C2 := Lib.hid (wnextN_t w2)
  clear hb C1 HB1
  go_wp2_with fail
  refine C2.out.mono ?_
  rintro e w3 ⟨rfl, hb⟩
  rw [show atR none = .tuple #[.int .i64 0, .bool false] from rfl]
  have hbA := bl_al (Below.refl w3.heap.size w3) (.cells #[.int .i64 key] 3)
  have HB3 := Lib.hid (bl_tr (bl_tr HB2.out hb) hbA)
  have C3 := Lib.hid (wsetN_t at' [key] (some ⟨w3.heap.size, 0, none⟩) 1 1 _ (in_oneT w3 key HK.out) (by omega))
  clear hb hbA C2 HB2
  go_wp2_with fail
  refine C3.out.mono ?_
  rintro e w4 ⟨rfl, hb⟩
  have hbA := bl_al (Below.refl w4.heap.size w4) (.cells #[.int .i64 key] 3)
  have HB4 := Lib.hid (bl_tr (bl_tr HB3.out hb) hbA)
  have C4 := Lib.hid (wcancelN_t [key] (some ⟨w4.heap.size, 0, none⟩) 1 1 _ (in_oneT w4 key HK.out) (by omega))
  clear hb hbA C3 HB3
  go_wp2_with fail
  refine C4.out.mono ?_
  rintro e w5 ⟨rfl, hb⟩
  have HB5 := Lib.hid (bl_tr HB4.out hb)
  have C5 := Lib.hid (wdueN_t at' w5)
  clear hb C4 HB4
  go_wp2_with fail
  refine C5.out.mono ?_
  rintro e w6 ⟨a6, c6, rfl, hb⟩
  have HB6 := Lib.hid (bl_tr HB5.out hb)
  have C6 := Lib.hid (wlenN_t w6)
  clear hb C5 HB5
  go_wp2_with fail
  refine C6.out.mono ?_
  rintro e w7 ⟨rfl, hb⟩
  have HB7 := Lib.hid (bl_tr HB6.out hb)
  clear hb C6 HB6
  go_wp2
  go_ret
  exact ⟨rfl, HB7.out⟩
end Go.Proofs.Ythoegmcdohppoaa
