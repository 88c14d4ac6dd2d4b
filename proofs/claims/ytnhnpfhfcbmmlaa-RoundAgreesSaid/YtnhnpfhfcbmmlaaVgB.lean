/- alive. No conditions. -/
import Derived.Test.YtnhnpfhfcbmmlaaVgA
namespace Go.Proofs.Ytnhnpfhfcbmmlaa
open Go Go.RowKit
set_option linter.unusedVariables false
set_option linter.unusedSimpArgs false

theorem hearN_ok {b pr : Bl} (h : OkB b) (hl : ¬ LtB b pr) : hearN b pr = 0 := by unfold hearN; rw [if_pos h, if_neg hl]
theorem hearN_lt {b pr : Bl} (h : OkB b) (hl : LtB b pr) : hearN b pr = 8 := by unfold hearN; rw [if_pos h, if_pos hl]
theorem hearN_bad {b pr : Bl} (h : ¬ OkB b) : hearN b pr = 9 := by unfold hearN; rw [if_neg h]
theorem prepN_ok {size : Int} {b pr : Bl} {l : List Pr} (h : hearN b pr = 0) (h2 : (saveP size (prepP b) l).1 = 0) : prepN size b pr l = 0 := by unfold prepN; rw [if_pos h, h2]; rfl
theorem prepN_bad {size : Int} {b pr : Bl} {l : List Pr} (h : hearN b pr ≠ 0) : prepN size b pr l = hearN b pr := by unfold prepN; rw [if_neg h]
theorem accN_ok {size : Int} {b pr : Bl} {lg : List Cm} {l : List Pr} (hg : GoodL lg) (h : hearN b pr = 0) (h2 : (saveP size (accP b lg) l).1 = 0) : accN size b pr lg l = 0 := by unfold accN; rw [if_pos hg, if_pos h, h2]; rfl
theorem alive_plain : prepN 100000 ⟨2, 16⟩ bl0 [] = 0 ∧ ∃ l1, l1 = (saveP 100000 (prepP ⟨2, 16⟩) []).2 ∧ EncS l1 ⟨2, 16⟩ bl0 [] ∧ prepN 100000 ⟨1, 17⟩ ⟨2, 16⟩ l1 = 8 ∧ accN 100000 ⟨2, 16⟩ ⟨2, 16⟩ [hlt 1] l1 = 0 ∧ ∃ l2, l2 = (saveP 100000 (accP ⟨2, 16⟩ [hlt 1]) l1).2 ∧ EncS l2 ⟨2, 16⟩ ⟨2, 16⟩ [hlt 1] ∧ prepN 100000 ⟨3, 17⟩ ⟨2, 16⟩ l2 = 0 := by
  have b1 : OkB ⟨2, 16⟩ := by decide
  have e0 : ((bytesL []).length : Int) = 8 := by rw [bytesL_len]; rfl
  have e1 : ((bytesL [hlt 1]).length : Int) = 104 := by rw [hlt_len]; rfl
  have r1 := enc_nil.prep_room (size := 100000) ⟨2, 16⟩ (by rw [e0]; omega)
  have E1 := enc_nil.prep b1 r1
  have hg := hlt_good (n := 1) (by decide)
  have r2 := E1.acc_room (size := 100000) ⟨2, 16⟩ [hlt 1] (by rw [e1]; omega)
  have E2 := E1.acc b1 hg (fun x hx => by rw [List.mem_singleton] at hx; rw [hx]; exact hlt_ty ⟨by decide, by decide⟩) r2
  have r3 := E2.prep_room (size := 100000) ⟨3, 17⟩ (by rw [e1]; omega)
  refine ⟨prepN_ok (hearN_ok b1 (by decide)) r1, _, rfl, E1, ?_, accN_ok hg (hearN_ok b1 (by decide)) r2, _, rfl, E2, prepN_ok (hearN_ok (by decide) (by decide)) r3⟩
  rw [prepN_bad (by rw [hearN_lt (by decide) (by decide)]; decide), hearN_lt (by decide) (by decide)]
theorem ty2 (a b : Int) (h1 : i64c a) (h2 : i64c b) : TyB ⟨a, b⟩ := ⟨h1, h2⟩
set_option maxRecDepth 100000 in
set_option maxHeartbeats 8000000 in
theorem alive_c (w : World) : Calls Try.prog 14 #[] w fun e w' => e = .returned (.bool true) ∧ Below w.heap.size w w' := by
  obtain ⟨a1, l1, hl1, E1, a2, a3, l2, hl2, E2, a4⟩ := alive_plain
  have CO := Lib.hid (opened_c 100000 16 w (by decide) ⟨by decide, by decide⟩)
  have A1 := Lib.hid a1
  have A2 := Lib.hid a2
  have A3 := Lib.hid a3
  have A4 := Lib.hid a4
  have HL1 := Lib.hid hl1
  have HL2 := Lib.hid hl2
  have q0 := nilEl
  have q8 := fun W => err_eql 8 8 W
  clear a1 hl1 E1 a2 a3 hl2 E2 a4
  go_enter Try.func14, Try.ntmps14
  go_wp2_with fail
  refine CO.out.mono ?_
  rintro e w1 ⟨h1, _, _⟩
  obtain ⟨s, p, rfl, hV⟩ := h1 (by decide)
  have HV := Lib.hid hV
  have hs0 : ((some (⟨s, 0, none⟩ : Addr)) == none) = false := rfl
  have hp0 : ((some (⟨p, 0, none⟩ : Addr)) == none) = false := rfl
  have CP := Lib.hid (prepare_c w w1 p s 100000 [] [] bl0 bl0 [] 16 (Old w) ⟨2, 16⟩ (ty2 _ _ ⟨by decide, by decide⟩ ⟨by decide, by decide⟩) hV)
  clear h1 hV CO
  go_wp2_with fail
  refine CP.out.mono ?_
  intro e w2 hP
  obtain ⟨a2, c2, v2, K2, rfl, hO2, hK2, _, hV2⟩ := hP.yes A1.out
  rw [← HL1.out] at hV2
  have HV2 := Lib.hid (hV2.less hK2)
  clear hP hO2 hK2 hV2 CP
  go_upto_region 5 with fail
  obtain ⟨w3, hw3⟩ : ∃ w3, w3 = w2.alloc (.cells #[.int .i64 0, .int .i64 0] tyB2) := ⟨_, rfl⟩
  have hb3 : Below w2.heap.size w2 w3 := by rw [hw3]; exact bl_al (Below.refl _ _) _
  have HV3 := Lib.hid (HV2.out.new hb3).1
  rw [show w2.alloc (.cells #[.int .i64 bl0.n, .int .i64 bl0.node] tyB2) = w3 from hw3.symm]
  clear hw3 hb3
  have CP := Lib.hid (prepare_c w w3 p s 100000 l1 l1 ⟨2, 16⟩ bl0 [] 16 (Old w) ⟨1, 17⟩ (ty2 _ _ ⟨by decide, by decide⟩ ⟨by decide, by decide⟩) HV3.out)
  go_wp2_with fail
  refine CP.out.mono ?_
  intro e w4 hP
  obtain ⟨rfl, hV4⟩ := hP.no (by rw [A2.out]; decide)
  rw [A2.out, show errF 8 = errnoF 8 from rfl]
  have HV4 := Lib.hid hV4
  clear hP hV4 CP
  go_upto_region 6 with fail
  obtain ⟨w5, hw5⟩ : ∃ w3, w3 = w4.alloc (.cells #[.int .i64 0, .int .i64 0] tyB2) := ⟨_, rfl⟩
  have hb5 : Below w4.heap.size w4 w5 := by rw [hw5]; exact bl_al (Below.refl _ _) _
  have HV5 := Lib.hid (HV4.out.new hb5).1
  rw [show w4.alloc (.cells #[.int .i64 bl0.n, .int .i64 bl0.node] tyB2) = w5 from hw5.symm]
  clear hw5 hb5
  have CH := Lib.hid (health_c 1 w5)
  go_wp2_with fail
  refine CH.out.mono ?_
  rintro e w6 ⟨rfl, hb6⟩
  obtain ⟨w7, hw7⟩ : ∃ w7, w7 = w6.alloc ((hlt 1).obj (.slice none 0 0)) := ⟨_, rfl⟩
  have hb7 : Below w6.heap.size w6 w7 := by rw [hw7]; exact bl_al (Below.refl _ _) _
  have hI7 := inC_one w6 (hlt 1) (hlt_ty ⟨by decide, by decide⟩) rfl
  rw [← hw7] at hI7
  have hV7 := (HV5.out.new hb6).1.grow hb7
  have hs7 : w7.heap.size = w6.heap.size + 1 := by rw [hw7]; simp
  have CA := Lib.hid (accept_c w w7 p s 100000 l1 l1 ⟨2, 16⟩ bl0 [] 16 _ ⟨2, 16⟩ (ty2 _ _ ⟨by decide, by decide⟩ ⟨by decide, by decide⟩) hV7 [hlt 1] _ 1 1 _ hI7 (lgK_one (.inr ⟨Nat.le_refl _, by omega⟩)) (by omega))
  have HW7 : Hid (w7 = w6.alloc (.cells #[.int .i64 (hlt 1).node, .int .i64 (hlt 1).boot, .int .i64 (hlt 1).seq, .int .i64 (hlt 1).time, .int .i64 (hlt 1).kind, .int .u32 (hlt 1).vip, .int .i64 (hlt 1).proto, .int .i64 (hlt 1).port, .slice none 0 0, .int .u32 (hlt 1).dip, .int .u32 (hlt 1).cvip, .bool (hlt 1).up] tyC)) := Lib.hid hw7
  clear hb6 hw7 hb7 hI7 hV7 hs7 CH
  go_wp2_with fail
  rw [← HW7.out]
  refine CA.out.mono ?_
  rintro e w8 ⟨rfl, hA⟩
  rw [A3.out, show errF 0 = .nilIface from rfl]
  have hV8 := hA.yes A3.out
  rw [← HL2.out] at hV8
  have HV8 := Lib.hid hV8
  have CP := Lib.hid (prepare_c w w8 p s 100000 l2 l2 ⟨2, 16⟩ ⟨2, 16⟩ [hlt 1] 16 _ ⟨3, 17⟩ (ty2 _ _ ⟨by decide, by decide⟩ ⟨by decide, by decide⟩) hV8)
  clear hA hV8 CA
  go_wp2_with fail
  refine CP.out.mono ?_
  intro e w9 hP
  obtain ⟨a9, c9, v9, K9, rfl, hO9, hK9, _, hV9⟩ := hP.yes A4.out
  obtain ⟨w10, hw10⟩ : ∃ w3, w3 = w9.alloc (.cells #[.int .i64 2, .int .i64 16] tyB2) := ⟨_, rfl⟩
  have hB10 := bxB_new w9 ⟨2, 16⟩
  rw [show w9.alloc (Bl.obj ⟨2, 16⟩) = w10 from hw10.symm] at hB10
  have hb10 : Below w9.heap.size w9 w10 := by rw [hw10]; exact bl_al (Below.refl _ _) _
  have hI10 := (hO9.later hb10).in (fun x hx => by rw [List.mem_singleton] at hx; rw [hx]; exact hlt_ty ⟨by decide, by decide⟩)
  obtain ⟨b1, o1, rfl⟩ := hI10.block (by decide)
  have hc := (hI10.cell (j := 0) (by decide)).c2
  have hBe := Lib.hid (hV9.bel.trans (hb10.mono hV9.bel.size))
  obtain ⟨p10, hp10⟩ : ∃ p10, p10 = w9.heap.size := ⟨_, rfl⟩
  rw [← hp10] at hB10
  obtain ⟨z0, z1⟩ := hB10.at
  have HW10 := Lib.hid (And.intro hw10 hp10)
  have qb := fun W => bl_eql ⟨2, 16⟩ ⟨2, 16⟩ W
  clear hP hO9 hK9 hV9 hw10 hB10 hb10 hI10 hp10 CP
  go_upto_region 8 with fail
  rw [show w9.alloc (.cells #[.int .i64 2, .int .i64 16] tyB2) = w10 from HW10.out.1.symm, ← HW10.out.2]
  go_wp2
  go_ret
  exact ⟨rfl, hBe.out⟩
end Go.Proofs.Ytnhnpfhfcbmmlaa
