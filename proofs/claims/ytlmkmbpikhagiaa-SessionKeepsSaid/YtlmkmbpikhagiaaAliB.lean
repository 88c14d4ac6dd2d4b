/- A speaker and a listener, told of each other: all that they say comes.
 Conditions: those stated. -/
import Derived.Test.YtlmkmbpikhagiaaAliA
namespace Go.Proofs.Ytlmkmbpikhagiaa
open Go Go.RowKit Go.Lib
set_option linter.unusedVariables false
set_option linter.unusedSimpArgs false

set_option maxRecDepth 100000 in
set_option maxHeartbeats 8000000 in
theorem alive_c (w : World) : Calls Try.prog 8 #[] w fun e w' => e = .returned (.bool true) ∧ Below w.heap.size w w' := by
  go_enter Try.func8, Try.ntmps8
  go_wp2_with fail
  refine (newSp_c 32 0 (by unfold i64c; omega) w).mono ?_
  rintro e w1 h
  rw [if_pos (by decide)] at h
  obtain ⟨rfl, h1⟩ := h
  have hs1 := SpS.new 78 w w.heap.size (Nat.le_refl _) 0 (by decide)
  rw [← h1] at hs1
  have hb1 : Below w.heap.size w w1 := by rw [h1]; exact bl_al (Below.refl _ _) _
  have hz1 : w1.heap.size = w.heap.size + 1 := by rw [h1]; simp
  obtain ⟨p, hp⟩ : ∃ p, p = w.heap.size := ⟨_, rfl⟩
  have HS1 := Lib.hid hs1
  have HB1 := Lib.hid hb1
  have HZ1 := Lib.hid hz1
  have HP := Lib.hid hp
  rw [← hp]
  clear h1 hs1 hb1 hz1 hp
  go_wp2_with fail
  refine (newL_c w1 w.heap.size HB1.out.size).mono ?_
  rintro e w2 ⟨q, rfl, hl, hb⟩
  have HPR := Lib.hid (show Pr w w2 p q 0 false [] [] [] from ⟨bl_tr HB1.out hb, _, _, by rw [HP.out]; exact HS1.out.below hb, hl, fun k hk h => by have := HZ1.out; omega⟩)
  clear hl hb
  go_wp2_with fail
  refine (pr_ann (HPR.out.below (bl_al (Below.refl _ _) _)) (by decide) (own_inA (own_litA w2 [16843009] #[.int .u32 16843009] rfl 1 w2.heap.size rfl (Nat.le_refl _) (by unfold maxLen; omega)) rfl (fun b hb => by simp at hb; omega)) (by decide)).mono ?_
  rintro e w3 ⟨rfl, h3⟩
  rw [ann_one, show annS 0 false [] [16843009] [] = [] from rfl] at h3
  have HP3 := Lib.hid h3
  clear h3
  go_wp2_with fail
  refine (pr_tick 4 HP3.out (by decide)).mono ?_
  rintro e w4 ⟨rfl, h4⟩
  rw [show tickS 0 false [16843009] [] 4 = [⟨10, [0], []⟩] from rfl] at h4
  have HP4 := Lib.hid h4
  clear h4
  go_wp2_with fail
  refine (pr_out HP4.out).mono ?_
  rintro e w5 ⟨h5, g, cap, a, n, c, rfl, c0, c1, c2, hI, hn⟩
  have HP5 := Lib.hid h5
  have HI5 := Lib.hid hI
  have HN5 := Lib.hid hn
  dsimp only at c0
  clear h5 hI hn
  go_wp2_with fail
  refine (pr_recL (m := ⟨10, [0], []⟩) 32 4 HP5.out HI5.out (by rw [HN5.out]; decide) (by unfold i64c; omega)).mono ?_
  rw [rec_1]
  rintro e w6 ⟨h6, a6, n6, k6, rfl, hn6, ho6⟩
  have HP6 := Lib.hid h6
  have HI6 := Lib.hid (own_inI ho6 hn6.symm (fun b hb => by simp at hb; omega))
  have HN6 := Lib.hid hn6
  clear h6 hn6 ho6 c0 c1 c2
  go_wp2_with fail
  refine (pr_recv (m := ⟨11, [0], []⟩) (HP6.out.below (bl_al (Below.refl _ _) _)) (by decide) (HI6.out.below (bl_al (Below.refl _ _) _)) (by rw [HN6.out]; decide)).mono ?_
  rintro e w7 ⟨rfl, h7⟩
  rw [show recO ⟨11, [0], []⟩ 0 false = true from rfl, show recS ⟨11, [0], []⟩ 0 [16843009] [] = [⟨12, [0, 16843009], []⟩] from rfl] at h7
  have HP7 := Lib.hid h7
  clear h7
  go_wp2_with fail
  refine (pr_out HP7.out).mono ?_
  rintro e w8 ⟨h8, g8, cap8, a8, n8, k8, rfl, c0, c1, c2, hI, hn⟩
  have HP8 := Lib.hid h8
  have HI8 := Lib.hid hI
  have HN8 := Lib.hid hn
  dsimp only at c0
  clear h8 hI hn
  go_wp2_with fail
  refine (pr_recL (m := ⟨12, [0, 16843009], []⟩) 32 5 HP8.out HI8.out (by rw [HN8.out]; decide) (by unfold i64c; omega)).mono ?_
  rw [rec_2]
  rintro e w9 ⟨h9, rfl⟩
  have HP9 := Lib.hid h9
  clear h9 c0 c1 c2
  go_wp2_with fail
  refine (pr_open HP9.out).mono ?_
  rintro e w10 ⟨rfl, rfl⟩
  go_wp2_with fail
  refine (pr_muxes 16843009 HP9.out (by decide)).mono ?_
  rw [show muxesOf (anP 16843009) [⟨32, 0, 5, [16843009]⟩] = [32] from rfl]
  rintro e w11 ⟨a11, n11, k11, rfl, hn11, hI11, h11⟩
  have HP11 := Lib.hid h11
  have HI11 := Lib.hid hI11
  have HN11 := Lib.hid hn11
  clear h11 hI11 hn11
  go_wp2_with fail
  refine (ints_any [32] [32] _ _ _ _ _ _ _ (HI11.out.below (bl_al (Below.refl _ _) _)) (own_inI (own_litI w11 [32] #[.int .i64 32] rfl 1 w11.heap.size rfl (Nat.le_refl _) (by unfold maxLen; omega)) rfl (fun b hb => by simp at hb; omega)) (by rw [HN11.out]; decide) true (by simp)).mono ?_
  rintro e w12 ⟨rfl, hb12⟩
  have HP12 := Lib.hid (HP11.out.below (bl_tr (bl_al (Below.refl _ _) _) hb12))
  clear hb12
  go_wp2_with fail
  refine (pr_tickL 17 HP12.out).mono ?_
  rw [show muxesOf (goneP 17) [⟨32, 0, 5, [16843009]⟩] = [] from rfl, show [(⟨32, 0, 5, [16843009]⟩ : Se)].filter (fun e => !goneP 17 e) = [⟨32, 0, 5, [16843009]⟩] from rfl]
  rintro e w13 ⟨a13, n13, k13, rfl, hn13, -, h13⟩
  rw [show n13 = 0 from hn13]
  have HP13 := Lib.hid h13
  clear h13 hn13
  go_wp2_with fail
  refine (pr_tickL 18 HP13.out).mono ?_
  rw [show muxesOf (goneP 18) [⟨32, 0, 5, [16843009]⟩] = [32] from rfl]
  rintro e w14 ⟨a14, n14, k14, rfl, hn14, hI14, h14⟩
  have HP14 := Lib.hid h14
  have HI14 := Lib.hid hI14
  have HN14 := Lib.hid hn14
  clear h14 hI14 hn14
  go_wp2_with fail
  refine (ints_any [32] [32] _ _ _ _ _ _ _ (HI14.out.below (bl_al (Below.refl _ _) _)) (own_inI (own_litI w14 [32] #[.int .i64 32] rfl 1 w14.heap.size rfl (Nat.le_refl _) (by unfold maxLen; omega)) rfl (fun b hb => by simp at hb; omega)) (by rw [HN14.out]; decide) true (by simp)).mono ?_
  rintro e w15 ⟨rfl, hb15⟩
  have HE := Lib.hid (bl_tr HP14.out.1 (bl_tr (bl_al (Below.refl _ _) _) hb15))
  clear hb15
  go_wp2_with fail
  exact bodyPost_ret (v := .bool true) (by simp [results, Try.results8, go_sem]) rfl ⟨rfl, HE.out⟩
end Go.Proofs.Ytlmkmbpikhagiaa
