/- The walk of FabricNone over the contracts of a nil fabric. No conditions but those stated. -/
import Derived.Test.YtkiccdgfhahdlaaAlF
namespace Go.Proofs.Ytkiccdgfhahdlaa
open Go Go.RowKit
set_option linter.unusedVariables false
set_option linter.unusedSimpArgs false

theorem same_five (w : World) : (binOp .eql 36 (errnoF 5) (errnoF 5)).run Try.prog w = .ok (.bool true) w := by kernel_rfl
theorem same_six (w : World) : (binOp .eql 36 (errnoF 6) (errnoF 6)).run Try.prog w = .ok (.bool true) w := by kernel_rfl
set_option maxRecDepth 100000 in
set_option maxHeartbeats 4000000 in
theorem fnone_t (n : Int) (hn : I64 n) (a : Option Addr) (k c : Nat) (l : List Int) (w : World) (hI : In w a k c l) (hk : k ≤ 140737488351232) :
    Calls Try.prog 7 #[.int .i64 n, .slice a k c] w fun e w' => e = .returned (.bool true) ∧ Below w.heap.size w w' := by
  have CA := Lib.hid (alive8_any w)
  have HN := Lib.hid hn
  have HI := Lib.hid hI
  have s5 := same_five
  have s6 := same_six
  clear hn hI
  go_enter Try.func7, Try.ntmps7
  go_wp2_with fail
  refine CA.out.mono ?_
  rintro e w0 ⟨rfl, hb⟩
  have HB0 := Lib.hid hb
  clear hb CA
  have C := Lib.hid (fsendN_t 0 16 (by decide) (by decide) false l a k c w0 (HI.out.below HB0.out) hk)
  go_wp2_with fail
  refine C.out.mono ?_
  rintro e w1 ⟨⟨v1, rfl⟩, hb⟩
  have HB1 := Lib.hid (bl_tr HB0.out hb)
  clear hb C HB0
  have C := Lib.hid (fnthN_t n HN.out w1)
  go_wp2_with fail
  refine C.out.mono ?_
  rintro e w2 ⟨⟨a2, c2, rfl⟩, hb⟩
  have HB2 := Lib.hid (bl_tr HB1.out hb)
  clear hb C HB1
  unfold Lt.val lt0
  go_upto_region 6 with fail
  obtain ⟨w3, h3⟩ : ∃ X, X = w2.alloc (.cells #[.int .i64 0, .int .i64 0, .int .i64 0, .bool false, .slice a2 0 c2] tyL) := ⟨_, rfl⟩
  rw [← h3]
  have HB3 := Lib.hid (show Below w.heap.size w w3 by rw [h3]; exact bl_al HB2.out _)
  clear h3 HB2
  have C := Lib.hid (ftakeN_t n HN.out w3)
  go_wp2_with fail
  refine C.out.mono ?_
  rintro e w4 ⟨⟨a4, c4, rfl⟩, hb⟩
  have HB4 := Lib.hid (bl_tr HB3.out hb)
  clear hb C HB3
  unfold Lt.val lt0
  go_upto_region 7 with fail
  obtain ⟨w5, h5⟩ : ∃ X, X = w4.alloc (.cells #[.int .i64 0, .int .i64 0, .int .i64 0, .bool false, .slice a4 0 c4] tyL) := ⟨_, rfl⟩
  rw [← h5]
  have HB5 := Lib.hid (show Below w.heap.size w w5 by rw [h5]; exact bl_al HB4.out _)
  clear h5 HB4
  have C := Lib.hid (fcopyN_t n HN.out w5)
  go_wp2_with fail
  refine C.out.mono ?_
  rintro e w6 ⟨⟨v6, rfl⟩, hb⟩
  have HB6 := Lib.hid (bl_tr HB5.out hb)
  clear hb C HB5
  have C := Lib.hid (flenN_t w6)
  go_wp2_with fail
  refine C.out.mono ?_
  rintro e w7 ⟨rfl, hb⟩
  have HB7 := Lib.hid (bl_tr HB6.out hb)
  clear hb C HB6
  have C := Lib.hid (fwaitingN_t w7)
  go_wp2_with fail
  refine C.out.mono ?_
  rintro e w8 ⟨⟨a8, c8, rfl⟩, hb⟩
  have HB8 := Lib.hid (bl_tr HB7.out hb)
  clear hb C HB7
  have C := Lib.hid (fbetweenN_t 0 16 w8)
  go_wp2_with fail
  refine C.out.mono ?_
  rintro e w9 ⟨⟨a9, c9, rfl⟩, hb⟩
  have HB9 := Lib.hid (bl_tr HB8.out hb)
  clear hb C HB8
  go_wp2
  go_ret
  exact ⟨rfl, HB9.out⟩
end Go.Proofs.Ytkiccdgfhahdlaa
