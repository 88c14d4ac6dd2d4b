/- RoundNone's walk. Conditions: those stated. -/
import Derived.Test.YtbkpkakjfhkfaaaRoI
namespace Go.Proofs.Ytbkpkakjfhkfaaa
open Go Go.RowKit
set_option linter.unusedVariables false
set_option linter.unusedSimpArgs false

set_option maxRecDepth 100000 in
set_option maxHeartbeats 8000000 in
theorem roundNone_t (node : Int) (b : Bl) (w : World) : Calls Try.prog 13 #[.int .i64 node, b.val] w fun e w' => e = .returned (.bool true) ∧ Below w.heap.size w w' := by
  obtain ⟨w1, hw1⟩ : ∃ w1, w1 = w.alloc b.obj := ⟨_, rfl⟩
  have hX := bxB_new w b
  rw [← hw1] at hX
  have hb1 : Below w.heap.size w w1 := by rw [hw1]; exact bl_al (Below.refl _ _) _
  obtain ⟨q, hq⟩ : ∃ q, q = w.heap.size := ⟨_, rfl⟩
  rw [← hq] at hX
  have HW1 := Lib.hid (And.intro hw1 hq)
  have HB := Lib.hid hb1
  have HX := Lib.hid hX
  have CA := Lib.hid (alive2_c w1)
  have C1 := Lib.hid (fun W => promise_n W node b (.slice none 0 0))
  have C2 := Lib.hid (fun W => accepted_n W node)
  have C3 := Lib.hid (fun W => stage_n W)
  have C4 := Lib.hid (fun W => ballot_n W)
  have C5 := Lib.hid (fun W => missing_n W)
  have C6 := Lib.hid (fun W => log_n W)
  have C7 := Lib.hid (fun W => place_n W)
  have qb := fun W => bl_eq2 bl0 bl0 W
  clear hw1 hX hb1 hq
  go_enter Try.func13, Try.ntmps13
  go_upto_region 1 with fail
  rw [show w.alloc (.cells #[.int .i64 b.n, .int .i64 b.node] tyB2) = w1 from HW1.out.1.symm, ← HW1.out.2]
  go_wp2_with fail
  refine CA.out.mono ?_
  rintro e w2 ⟨rfl, hb2⟩
  obtain ⟨d0, d1⟩ := (HX.out.later hb2).at
  have HB2 := Lib.hid (bl_tr HB.out hb2)
  clear hb2 CA
  go_wp2_with fail
  refine (C1.out _).mono ?_
  rintro e w3 ⟨rfl, hb3⟩
  have HB3 := Lib.hid (bl_tr HB2.out hb3)
  clear hb3 d0 d1
  go_wp2_with fail
  refine (C2.out _).mono ?_
  rintro e w4 ⟨rfl, hb4⟩
  have HB4 := Lib.hid (bl_tr HB3.out hb4)
  clear hb4
  go_wp2_with fail
  refine (C3.out _).mono ?_
  rintro e w5 ⟨rfl, hb5⟩
  have HB5 := Lib.hid (bl_tr HB4.out hb5)
  clear hb5
  go_wp2_with fail
  refine (C4.out _).mono ?_
  rintro e w6 ⟨rfl, hb6⟩
  have HB6 := Lib.hid (bl_tr HB5.out hb6)
  clear hb6
  go_wp2_with fail
  refine (C5.out _).mono ?_
  rintro e w7 ⟨rfl, hb7⟩
  have HB7 := Lib.hid (bl_tr HB6.out hb7)
  clear hb7
  go_wp2_with fail
  refine (C6.out _).mono ?_
  rintro e w8 ⟨rfl, hb8⟩
  have HB8 := Lib.hid (bl_tr HB7.out hb8)
  clear hb8
  go_wp2_with fail
  refine (C7.out _).mono ?_
  rintro e w9 ⟨rfl, hb9⟩
  have HB9 := Lib.hid (bl_tr HB8.out hb9)
  clear hb9
  go_wp2
  go_ret
  exact ⟨rfl, HB9.out⟩
end Go.Proofs.Ytbkpkakjfhkfaaa
