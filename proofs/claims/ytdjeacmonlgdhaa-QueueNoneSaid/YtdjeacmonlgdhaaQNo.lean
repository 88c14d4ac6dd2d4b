/- The walk of QueueNone over the contracts of nil queues and lanes. No conditions but those stated. -/
import Derived.Test.YtdjeacmonlgdhaaQNc
namespace Go.Proofs.Ytdjeacmonlgdhaa
open Go Go.RowKit
set_option linter.unusedVariables false
set_option linter.unusedSimpArgs false

set_option maxRecDepth 100000 in
set_option maxHeartbeats 4000000 in
theorem none_t (ao : Option Addr) (k c : Nat) (l : List Int) (n : Int) (w : World) (hI : In w ao k c l) (hk : k ≤ 140737488351232) (hn : -9223372036854775808 ≤ n ∧ n ≤ 9223372036854775807) :
    Calls Try.prog 7 #[.slice ao k c, .int .i64 n] w fun e w' => e = .returned (.bool true) ∧ Below w.heap.size w w' := by
  have CA := Lib.hid (alive7_any w)
  have HN := Lib.hid hn
  have HI := Lib.hid hI
  clear hn hI
  go_enter Try.func7, Try.ntmps7
  go_wp2_with fail
  refine CA.out.mono ?_
  rintro e w0 ⟨rfl, hb⟩
  have HB0 := Lib.hid hb
  clear hb CA
  have C := Lib.hid (getN_t w0)
  go_wp2_with fail
  refine C.out.mono ?_
  rintro e w1 ⟨⟨v1, rfl⟩, hb⟩
  have HB1 := Lib.hid (bl_tr HB0.out hb)
  clear hb C HB0
  have C := Lib.hid (lgetN_t w1)
  go_wp2_with fail
  refine C.out.mono ?_
  rintro e w2 ⟨⟨v2, rfl⟩, hb⟩
  have HB2 := Lib.hid (bl_tr HB1.out hb)
  clear hb C HB1
  have C := Lib.hid (putN_t w2.heap.size k c ao l (w2.alloc (.cells #[.slice ao k c] 42)) (cell_one_new w2 (.slice ao k c) 42 0 _ rfl) (HI.out.below (bl_al HB2.out _)) hk)
  go_wp2_with fail
  refine C.out.mono ?_
  rintro e w3 ⟨rfl, hb⟩
  have HB3 := Lib.hid (bl_tr (bl_al HB2.out _) hb)
  clear hb C HB2
  have C := Lib.hid (lenN_t w3)
  go_wp2_with fail
  refine C.out.mono ?_
  rintro e w4 ⟨rfl, hb⟩
  have HB4 := Lib.hid (bl_tr HB3.out hb)
  clear hb C HB3
  have C := Lib.hid (roomN_t w4)
  go_wp2_with fail
  refine C.out.mono ?_
  rintro e w5 ⟨rfl, hb⟩
  have HB5 := Lib.hid (bl_tr HB4.out hb)
  clear hb C HB4
  have C := Lib.hid (drainN_t w5)
  go_wp2_with fail
  refine C.out.mono ?_
  rintro e w6 ⟨⟨a6, c6, rfl⟩, hb⟩
  have HB6 := Lib.hid (bl_tr HB5.out hb)
  clear hb C HB5
  have C := Lib.hid (urgentN_t w6.heap.size k c ao l (w6.alloc (.cells #[.slice ao k c] 42)) (cell_one_new w6 (.slice ao k c) 42 0 _ rfl) (HI.out.below (bl_al HB6.out _)) hk)
  go_wp2_with fail
  refine C.out.mono ?_
  rintro e w7 ⟨rfl, hb⟩
  have HB7 := Lib.hid (bl_tr (bl_al HB6.out _) hb)
  clear hb C HB6
  have C := Lib.hid (plainN_t w7.heap.size k c ao l (w7.alloc (.cells #[.slice ao k c] 42)) (cell_one_new w7 (.slice ao k c) 42 0 _ rfl) (HI.out.below (bl_al HB7.out _)) hk)
  go_wp2_with fail
  refine C.out.mono ?_
  rintro e w8 ⟨rfl, hb⟩
  have HB8 := Lib.hid (bl_tr (bl_al HB7.out _) hb)
  clear hb C HB7
  have C := Lib.hid (llenN_t w8)
  go_wp2_with fail
  refine C.out.mono ?_
  rintro e w9 ⟨rfl, hb⟩
  have HB9 := Lib.hid (bl_tr HB8.out hb)
  clear hb C HB8
  have C := Lib.hid (takeN_t n HN.out w9)
  go_wp2_with fail
  refine C.out.mono ?_
  rintro e w10 ⟨⟨a9, c9, rfl⟩, hb⟩
  have HB10 := Lib.hid (bl_tr HB9.out hb)
  clear hb C HB9
  go_wp2
  go_ret
  exact ⟨rfl, HB10.out⟩
end Go.Proofs.Ytdjeacmonlgdhaa
