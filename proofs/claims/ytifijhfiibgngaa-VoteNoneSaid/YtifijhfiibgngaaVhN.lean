/- A nil voter; VoteNone's walk. Conditions: those stated. -/
import Derived.Test.YtifijhfiibgngaaVgB
namespace Go.Proofs.Ytifijhfiibgngaa
open Go Go.RowKit
set_option linter.unusedVariables false
set_option linter.unusedSimpArgs false

theorem accepted_n (w : World) : Calls Try.prog 35 #[.pointer none] w fun e w' => e = .returned (.tuple #[bl0.val, .slice none 0 0]) ∧ Below w.heap.size w w' := by
  obtain ⟨w1, hw1⟩ : ∃ W, W = w.alloc bl0.obj := ⟨_, rfl⟩
  have hA := bxB_new w bl0
  rw [← hw1] at hA
  have hb1 : Below w.heap.size w w1 := by rw [hw1]; exact bl_al (Below.refl _ _) _
  obtain ⟨q, hq⟩ : ∃ p, p = w.heap.size := ⟨_, rfl⟩
  rw [← hq] at hA
  have HQ : Hid (q = w.heap.size) := Lib.hid hq
  have HW1 := Lib.hid (And.intro hw1 hq)
  have HB := Lib.hid hb1
  have HA := Lib.hid hA
  obtain ⟨z0, z1, f0, f1⟩ := hA.cell
  have hne : ((none : Option Addr) == none) = true := rfl
  clear hw1 hA hb1 hq
  go_enter Try.func35, Try.ntmps35
  go_upto_region 1 with fail
  rw [show w.alloc (.cells #[.int .i64 0, .int .i64 0] tyB2) = w1 from HW1.out.1.symm, ← HW1.out.2]
  go_wp2
  have hA6 := HA.out.put 0 0
  have hb6 : Below w.heap.size w ((w1.setCell ⟨q, 0, none⟩ (.int .i64 0)).setCell ⟨q, 1, none⟩ (.int .i64 0)) := bl_set (bl_set HB.out (by have := HQ.out; omega) _) (by have := HQ.out; omega) _
  obtain ⟨w6, hw6⟩ : ∃ v, v = (w1.setCell ⟨q, 0, none⟩ (.int .i64 0)).setCell ⟨q, 1, none⟩ (.int .i64 0) := ⟨_, rfl⟩
  rw [← hw6] at hA6 hb6 ⊢
  obtain ⟨y0, y1⟩ := hA6.at
  refine bodyPost_ret (v := .tuple #[bl0.val, .slice none 0 0]) (by simp [results, Try.results35, go_sem, y0, y1, bl0]) rfl ?_
  exact ⟨rfl, hb6⟩
theorem promised_n (w : World) : Calls Try.prog 36 #[.pointer none] w fun e w' => e = .returned bl0.val ∧ Below w.heap.size w w' := by
  obtain ⟨w1, hw1⟩ : ∃ W, W = w.alloc bl0.obj := ⟨_, rfl⟩
  have hA := bxB_new w bl0
  rw [← hw1] at hA
  have hb1 : Below w.heap.size w w1 := by rw [hw1]; exact bl_al (Below.refl _ _) _
  obtain ⟨q, hq⟩ : ∃ p, p = w.heap.size := ⟨_, rfl⟩
  rw [← hq] at hA
  have HQ : Hid (q = w.heap.size) := Lib.hid hq
  have HW1 := Lib.hid (And.intro hw1 hq)
  have HB := Lib.hid hb1
  have HA := Lib.hid hA
  obtain ⟨z0, z1, f0, f1⟩ := hA.cell
  have hne : ((none : Option Addr) == none) = true := rfl
  clear hw1 hA hb1 hq
  go_enter Try.func36, Try.ntmps36
  go_upto_region 1 with fail
  rw [show w.alloc (.cells #[.int .i64 0, .int .i64 0] tyB2) = w1 from HW1.out.1.symm, ← HW1.out.2]
  go_wp2
  have hA6 := HA.out.put 0 0
  have hb6 : Below w.heap.size w ((w1.setCell ⟨q, 0, none⟩ (.int .i64 0)).setCell ⟨q, 1, none⟩ (.int .i64 0)) := bl_set (bl_set HB.out (by have := HQ.out; omega) _) (by have := HQ.out; omega) _
  obtain ⟨w6, hw6⟩ : ∃ v, v = (w1.setCell ⟨q, 0, none⟩ (.int .i64 0)).setCell ⟨q, 1, none⟩ (.int .i64 0) := ⟨_, rfl⟩
  rw [← hw6] at hA6 hb6 ⊢
  obtain ⟨y0, y1⟩ := hA6.at
  refine bodyPost_ret (v := bl0.val) (by simp [results, Try.results36, go_sem, y0, y1, bl0]) rfl ?_
  exact ⟨rfl, hb6⟩
theorem claim_n (v : Value) (w : World) : Calls Try.prog 31 #[.pointer none, v] w fun e w' => e = .returned bl0.val ∧ Below w.heap.size w w' := by
  obtain ⟨w1, hw1⟩ : ∃ W, W = w.alloc bl0.obj := ⟨_, rfl⟩
  have hA := bxB_new w bl0
  rw [← hw1] at hA
  have hb1 : Below w.heap.size w w1 := by rw [hw1]; exact bl_al (Below.refl _ _) _
  obtain ⟨q, hq⟩ : ∃ p, p = w.heap.size := ⟨_, rfl⟩
  rw [← hq] at hA
  have HQ : Hid (q = w.heap.size) := Lib.hid hq
  have HW1 := Lib.hid (And.intro hw1 hq)
  have HB := Lib.hid hb1
  have HA := Lib.hid hA
  obtain ⟨z0, z1, f0, f1⟩ := hA.cell
  have hne : ((none : Option Addr) == none) = true := rfl
  clear hw1 hA hb1 hq
  go_enter Try.func31, Try.ntmps31
  go_upto_region 1 with fail
  rw [show w.alloc (.cells #[.int .i64 0, .int .i64 0] tyB2) = w1 from HW1.out.1.symm, ← HW1.out.2]
  go_wp2
  have hA6 := HA.out.put 0 0
  have hb6 : Below w.heap.size w ((w1.setCell ⟨q, 0, none⟩ (.int .i64 0)).setCell ⟨q, 1, none⟩ (.int .i64 0)) := bl_set (bl_set HB.out (by have := HQ.out; omega) _) (by have := HQ.out; omega) _
  obtain ⟨w6, hw6⟩ : ∃ v, v = (w1.setCell ⟨q, 0, none⟩ (.int .i64 0)).setCell ⟨q, 1, none⟩ (.int .i64 0) := ⟨_, rfl⟩
  rw [← hw6] at hA6 hb6 ⊢
  obtain ⟨y0, y1⟩ := hA6.at
  refine bodyPost_ret (v := bl0.val) (by simp [results, Try.results31, go_sem, y0, y1, bl0]) rfl ?_
  exact ⟨rfl, hb6⟩
set_option maxRecDepth 100000 in
theorem prepare_n (b : Bl) (w : World) : Calls Try.prog 27 #[.pointer none, b.val] w fun e w' => e = .returned (.tuple #[bl0.val, .slice none 0 0, errnoF 9]) ∧ Below w.heap.size w w' := by
  obtain ⟨w1, hw1⟩ : ∃ W, W = w.alloc b.obj := ⟨_, rfl⟩
  have hX := bxB_new w b
  rw [← hw1] at hX
  have hb1 : Below w.heap.size w w1 := by rw [hw1]; exact bl_al (Below.refl _ _) _
  have hs1 : w1.heap.size = w.heap.size + 1 := by rw [hw1]; simp
  obtain ⟨w2, hw2⟩ : ∃ W, W = w1.alloc bl0.obj := ⟨_, rfl⟩
  have hZ := bxB_new w1 bl0
  rw [← hw2] at hZ
  have hb2 : Below w1.heap.size w1 w2 := by rw [hw2]; exact bl_al (Below.refl _ _) _
  have hX2 := hX.later hb2
  obtain ⟨q, hq⟩ : ∃ q, q = w.heap.size := ⟨_, rfl⟩
  obtain ⟨z, hz⟩ : ∃ z, z = w1.heap.size := ⟨_, rfl⟩
  rw [← hq] at hX2
  rw [← hz] at hZ
  have HQ : Hid (q = w.heap.size ∧ z = q + 1) := Lib.hid ⟨hq, by omega⟩
  have HW1 := Lib.hid (And.intro hw1 hq)
  have HW2 := Lib.hid (And.intro hw2 hz)
  have HZ2 := Lib.hid hZ
  have HB := Lib.hid (bl_tr hb1 hb2)
  have CH := Lib.hid (hear_n w2 b)
  obtain ⟨d0, d1⟩ := hX2.at
  have q9 := nine_neq
  clear hw1 hX hb1 hs1 hw2 hZ hb2 hX2 hq hz
  go_enter Try.func27, Try.ntmps27
  go_upto_region 1 with fail
  rw [show w.alloc (.cells #[.int .i64 b.n, .int .i64 b.node] tyB2) = w1 from HW1.out.1.symm, ← HW1.out.2]
  rw [show w1.alloc (.cells #[.int .i64 0, .int .i64 0] tyB2) = w2 from HW2.out.1.symm]
  rw [show q + 1 = z from HQ.out.2.symm]
  go_wp2_with fail
  refine CH.out.mono ?_
  rintro e w3 ⟨rfl, hb3⟩
  have hz3 := HZ2.out.later hb3
  have HB3 := Lib.hid (bl_tr HB.out hb3)
  obtain ⟨z0, z1, f0, f1⟩ := hz3.cell
  clear hb3 CH d0 d1
  go_wp2
  have hA6 := hz3.put 0 0
  have hb6 : Below w.heap.size w ((w3.setCell ⟨z, 0, none⟩ (.int .i64 0)).setCell ⟨z, 1, none⟩ (.int .i64 0)) := bl_set (bl_set HB3.out (by have := HQ.out; omega) _) (by have := HQ.out; omega) _
  obtain ⟨w6, hw6⟩ : ∃ v, v = (w3.setCell ⟨z, 0, none⟩ (.int .i64 0)).setCell ⟨z, 1, none⟩ (.int .i64 0) := ⟨_, rfl⟩
  rw [← hw6] at hA6 hb6 ⊢
  obtain ⟨y0, y1⟩ := hA6.at
  refine bodyPost_ret (v := .tuple #[bl0.val, .slice none 0 0, errnoF 9]) (by simp [results, Try.results27, go_sem, y0, y1, bl0]) rfl ?_
  exact ⟨rfl, hb6⟩
set_option maxRecDepth 100000 in
theorem accept_n (b : Bl) (lg : List Cm) (a : Option Addr) (n c : Nat) (us : List Value) (w : World) (hI : InC w a n c lg us) (hn : n ≤ 4611686018427387904) : Calls Try.prog 29 #[.pointer none, b.val, .slice a n c] w fun e w' => e = .returned (errnoF 9) ∧ Below w.heap.size w w' := by
  obtain ⟨w1, hw1⟩ : ∃ W, W = w.alloc b.obj := ⟨_, rfl⟩
  have hX := bxB_new w b
  rw [← hw1] at hX
  have hb1 : Below w.heap.size w w1 := by rw [hw1]; exact bl_al (Below.refl _ _) _
  obtain ⟨q, hq⟩ : ∃ q, q = w.heap.size := ⟨_, rfl⟩
  rw [← hq] at hX
  have HW1 := Lib.hid (And.intro hw1 hq)
  have HX := Lib.hid hX
  have HB := Lib.hid hb1
  have CW := Lib.hid (wr_c lg us a n c w1 (hI.below hb1) hn)
  have q9 := nine_neq
  have q0 := nilNe
  obtain ⟨d0, d1⟩ := hX.at
  clear hw1 hX hb1 hq hI
  go_enter Try.func29, Try.ntmps29
  go_upto_region 1 with fail
  rw [show w.alloc (.cells #[.int .i64 b.n, .int .i64 b.node] tyB2) = w1 from HW1.out.1.symm, ← HW1.out.2]
  go_wp2_with fail
  refine CW.out.mono ?_
  intro e w2 hW
  have HB2 := Lib.hid (bl_tr HB.out hW.bel)
  by_cases hg : GoodL lg
  · obtain ⟨a2, c2, rfl, _⟩ := hW.yes hg
    obtain ⟨d0, d1⟩ := (HX.out.later hW.bel).at
    have CH := Lib.hid (hear_n w2 b)
    clear hW hg CW
    go_wp2_with fail
    refine CH.out.mono ?_
    rintro e w3 ⟨rfl, hb3⟩
    have HB3 := Lib.hid (bl_tr HB2.out hb3)
    clear hb3 CH d0 d1
    go_wp2
    go_ret
    exact ⟨rfl, HB3.out⟩
  · have e1 := hW.no hg
    subst e1
    clear hW hg CW d0 d1
    go_wp2
    go_ret
    exact ⟨rfl, HB2.out⟩
set_option maxRecDepth 100000 in
set_option maxHeartbeats 8000000 in
theorem voteNone_t (b : Bl) (hb : TyB b) (lg : List Cm) (a : Option Addr) (n c : Nat) (us : List Value) (w : World) (hI : InC w a n c lg us) (hn : n ≤ 4611686018427387904) : Calls Try.prog 9 #[b.val, .slice a n c] w fun e w' => e = .returned (.bool true) ∧ Below w.heap.size w w' := by
  obtain ⟨w1, hw1⟩ : ∃ W, W = w.alloc b.obj := ⟨_, rfl⟩
  have hX := bxB_new w b
  rw [← hw1] at hX
  have hb1 : Below w.heap.size w w1 := by rw [hw1]; exact bl_al (Below.refl _ _) _
  obtain ⟨q, hq⟩ : ∃ q, q = w.heap.size := ⟨_, rfl⟩
  rw [← hq] at hX
  have HW1 := Lib.hid (And.intro hw1 hq)
  have HX := Lib.hid hX
  have HB := Lib.hid hb1
  have HI := Lib.hid hI
  have CA := Lib.hid (alive_c w1)
  have q9 := fun W => err_eql 9 9 W
  have qb := fun W => bl_eql bl0 bl0 W
  clear hw1 hX hb1 hq hI
  go_enter Try.func9, Try.ntmps9
  go_upto_region 1 with fail
  rw [show w.alloc (.cells #[.int .i64 b.n, .int .i64 b.node] tyB2) = w1 from HW1.out.1.symm, ← HW1.out.2]
  go_wp2_with fail
  refine CA.out.mono ?_
  rintro e w2 ⟨rfl, hb2⟩
  have hX2 := HX.out.later hb2
  obtain ⟨d0, d1⟩ := hX2.at
  have HX2 := Lib.hid hX2
  have HB2 := Lib.hid (bl_tr HB.out hb2)
  have CP := Lib.hid (prepare_n b w2)
  clear hb2 hX2 CA
  go_wp2_with fail
  refine CP.out.mono ?_
  rintro e w3 ⟨rfl, hb3⟩
  obtain ⟨w4, hw4⟩ : ∃ w4, w4 = w3.alloc bl0.obj := ⟨_, rfl⟩
  have hb4 : Below w3.heap.size w3 w4 := by rw [hw4]; exact bl_al (Below.refl _ _) _
  have hX4 := HX2.out.later (bl_tr hb3 hb4)
  have HX4 := Lib.hid hX4
  have HB4 := Lib.hid (bl_tr HB2.out (bl_tr hb3 hb4))
  have HW4 := Lib.hid hw4
  clear hb3 hw4 hb4 hX4 CP d0 d1
  go_upto_region 5 with fail
  rw [show w3.alloc (.cells #[.int .i64 bl0.n, .int .i64 bl0.node] tyB2) = w4 from HW4.out.symm]
  have CC := Lib.hid (accepted_n w4)
  go_wp2_with fail
  refine CC.out.mono ?_
  rintro e w5 ⟨rfl, hb5⟩
  obtain ⟨w6, hw6⟩ : ∃ w6, w6 = w5.alloc bl0.obj := ⟨_, rfl⟩
  have hb6 : Below w5.heap.size w5 w6 := by rw [hw6]; exact bl_al (Below.refl _ _) _
  have hZ6 := bxB_new w5 bl0
  rw [← hw6] at hZ6
  obtain ⟨z, hz⟩ : ∃ z, z = w5.heap.size := ⟨_, rfl⟩
  rw [← hz] at hZ6
  have hX6 := HX4.out.later (bl_tr hb5 hb6)
  have HX6 := Lib.hid hX6
  have HZ6 := Lib.hid hZ6
  have HB6 := Lib.hid (bl_tr HB4.out (bl_tr hb5 hb6))
  have HW6 := Lib.hid (And.intro hw6 hz)
  clear hb5 hw6 hb6 hX6 hZ6 hz CC
  go_upto_region 6 with fail
  rw [show w5.alloc (.cells #[.int .i64 bl0.n, .int .i64 bl0.node] tyB2) = w6 from HW6.out.1.symm, ← HW6.out.2]
  obtain ⟨d0, d1⟩ := HX6.out.at
  have CX := Lib.hid (accept_n b lg a n c us w6 (HI.out.below HB6.out) hn)
  go_wp2_with fail
  refine CX.out.mono ?_
  rintro e w7 ⟨rfl, hb7⟩
  have hX7 := HX6.out.later hb7
  have hZ7 := HZ6.out.later hb7
  have HX7 := Lib.hid hX7
  have HZ7 := Lib.hid hZ7
  have HB7 := Lib.hid (bl_tr HB6.out hb7)
  clear hb7 hX7 hZ7 CX d0 d1
  obtain ⟨d0, d1⟩ := HX7.out.at
  have CL := Lib.hid (fun v W => claim_n v W)
  go_wp2_with fail
  refine (CL.out _ _).mono ?_
  rintro e w8 ⟨rfl, hb8⟩
  have hb78 : Below w7.heap.size w7 w8 := bl_tr (bl_al (Below.refl _ _) _) hb8
  have HZ8 := Lib.hid (HZ7.out.later hb78)
  have HB8 := Lib.hid (bl_tr HB7.out hb78)
  clear hb8 hb78 d0 d1
  have CR := Lib.hid (promised_n w8)
  go_wp2_with fail
  refine CR.out.mono ?_
  rintro e w9 ⟨rfl, hb9⟩
  obtain ⟨z0, z1⟩ := (HZ8.out.later hb9).at
  have HB9 := Lib.hid (bl_tr HB8.out hb9)
  clear hb9
  go_wp2
  go_ret
  exact ⟨rfl, HB9.out⟩
end Go.Proofs.Ytifijhfiibgngaa
