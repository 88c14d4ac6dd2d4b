/- Contract of SumSums: true. Conditions: the rows came in; at most 2^20 bytes each. -/
import Derived.Test.YtjmpmegodhglcaaB9
namespace Go.Proofs.Ytjmpmegodhglcaa
open Go Go.RowKit

theorem three_in {w : World} {a0 a1 a2 : Option Addr} {n0 n1 n2 c0 c1 c2 : Nat} {p q r : List Int} (h : In w a0 n0 c0 p) (h' : In w a1 n1 c1 q) (h2 : In w a2 n2 c2 r) (n : Nat) (hn : n = w.heap.size) :
    PIn (w.alloc (.cells #[.slice a0 n0 c0, .slice a1 n1 c1, .slice a2 n2 c2] 22)) (.slice (some ⟨n, 0, none⟩) 3 3) [p, q, r] := by
  subst hn
  refine ⟨_, 3, rfl, .inr ⟨_, 0, rfl, fun j y hj => ?_⟩⟩
  match j, hj with
  | 0, hj =>
    cases hj
    exact ⟨a0, n0, c0, cells_new w [.slice a0 n0 c0, .slice a1 n1 c1, .slice a2 n2 c2] 22 (0, 0) 0 _ rfl, h.below (bl_al (Below.refl _ _) _)⟩
  | 1, hj =>
    cases hj
    exact ⟨a1, n1, c1, cells_new w [.slice a0 n0 c0, .slice a1 n1 c1, .slice a2 n2 c2] 22 (0, 0) 1 _ rfl, h'.below (bl_al (Below.refl _ _) _)⟩
  | 2, hj =>
    cases hj
    exact ⟨a2, n2, c2, cells_new w [.slice a0 n0 c0, .slice a1 n1 c1, .slice a2 n2 c2] 22 (0, 0) 2 _ rfl, h2.below (bl_al (Below.refl _ _) _)⟩

/-- What stands in memory: the three rows and their copies. -/
structure Six (w : World) (l0 l1 l2 : List Int) (a0 a1 a2 : Option Addr) (n0 n1 n2 c0 c1 c2 g0 g1 g2 : Nat) (wx : World) : Prop where
  i0 : In wx a0 n0 c0 l0
  i1 : In wx a1 n1 c1 l1
  i2 : In wx a2 n2 c2 l2
  m0 : Marked wx g0 n0 l0
  m1 : Marked wx g1 n1 l1
  m2 : Marked wx g2 n2 l2
  below : Below w.heap.size w wx
theorem Six.next {w wx wy : World} {l0 l1 l2 : List Int} {a0 a1 a2 : Option Addr} {n0 n1 n2 c0 c1 c2 g0 g1 g2 : Nat} (h : Six w l0 l1 l2 a0 a1 a2 n0 n1 n2 c0 c1 c2 g0 g1 g2 wx) (hb : Below wx.heap.size wx wy) : Six w l0 l1 l2 a0 a1 a2 n0 n1 n2 c0 c1 c2 g0 g1 g2 wy :=
  ⟨h.i0.below hb, h.i1.below hb, h.i2.below hb, h.m0.below hb, h.m1.below hb, h.m2.below hb, bl_tr h.below hb⟩

set_option maxRecDepth 100000 in
theorem sums_any (l0 l1 l2 : List Int) (a0 a1 a2 : Option Addr) (n0 n1 n2 c0 c1 c2 : Nat) (w : World) (h0 : In w a0 n0 c0 l0) (h1 : In w a1 n1 c1 l1) (h2 : In w a2 n2 c2 l2) (b0 : n0 ≤ 1048576) (b1 : n1 ≤ 1048576) (b2 : n2 ≤ 1048576) :
    Calls Try.prog 3 #[.slice a0 n0 c0, .slice a1 n1 c1, .slice a2 n2 c2] w fun e w' => e = .returned (.bool true) ∧ Below w.heap.size w w' := by
  have HX := Lib.hid h0
  have HY := Lib.hid h1
  have HZ := Lib.hid h2
  have hlen : [l0, l1, l2].flatten.length ≤ 4294967295 := by
    have e0 := h0.len
    have e1 := h1.len
    have e2 := h2.len
    simp
    omega
  have hfit : fit [l0, l1, l2].flatten := by simpa using fit_app h0.fit (fit_app h1.fit h2.fit)
  have HLEN := Lib.hid hlen
  have HFIT := Lib.hid hfit
  clear h0 h1 h2 hlen hfit
  go_enter Try.func3, Try.ntmps3
  go_wp2_with fail
  refine (alive_any w).mono ?_
  rintro e w1 ⟨rfl, hb1⟩
  have HB1 := Lib.hid hb1
  clear hb1
  go_wp2_with fail
  refine (copy_any l0 a0 n0 c0 w1 (HX.out.below HB1.out) (by omega)).mono ?_
  rintro e w2 ⟨g0, rfl, ho0, hb2⟩
  have HM0 := Lib.hid (ho0.marked HX.out.len)
  have HB2 := Lib.hid (bl_tr HB1.out hb2)
  clear ho0 hb2
  go_wp2_with fail
  refine (copy_any l1 a1 n1 c1 w2 (HY.out.below HB2.out) (by omega)).mono ?_
  rintro e w3 ⟨g1, rfl, ho1, hb3⟩
  have HM1 := Lib.hid (ho1.marked HY.out.len)
  have HM02 := Lib.hid (HM0.out.below hb3)
  have HB3 := Lib.hid (bl_tr HB2.out hb3)
  clear ho1 hb3 HM0 HB1
  go_wp2_with fail
  refine (copy_any l2 a2 n2 c2 w3 (HZ.out.below HB3.out) (by omega)).mono ?_
  rintro e w4 ⟨g2, rfl, ho2, hb4⟩
  have HS : Hid (Six w l0 l1 l2 a0 a1 a2 n0 n1 n2 c0 c1 c2 g0 g1 g2 w4) := Lib.hid ⟨HX.out.below (bl_tr HB3.out hb4), HY.out.below (bl_tr HB3.out hb4), HZ.out.below (bl_tr HB3.out hb4), HM02.out.below hb4, HM1.out.below hb4, ho2.marked HZ.out.len, bl_tr HB3.out hb4⟩
  have HL0 := Lib.hid HX.out.len
  have HL1 := Lib.hid HY.out.len
  have HL2 := Lib.hid HZ.out.len
  clear ho2 hb4 HM1 HM02 HB2 HB3 HX HY HZ
  obtain ⟨P, hP⟩ : ∃ P, P = 65535 - car (ws [l0, l1, l2].flatten) := ⟨_, rfl⟩
  have HP := Lib.hid hP
  clear hP
  go_wp2_with fail
  refine (sum_any [l0, l1, l2] _ _ (Parts.three (HS.out.m0.at HL0.out) (HS.out.m1.at HL1.out) (HS.out.m2.at HL2.out) 22 _ rfl) HFIT.out (by have := HLEN.out; omega) (by simp)).mono ?_
  rintro e _ ⟨rfl, rfl⟩
  rw [← HP.out]
  have HS1 := Lib.hid (HS.out.next (bl_al (Below.refl _ _) (.cells #[.slice (some ⟨g0, 0, none⟩) n0 (n0 + 2), .slice (some ⟨g1, 0, none⟩) n1 (n1 + 2), .slice (some ⟨g2, 0, none⟩) n2 (n2 + 2)] 22)))
  obtain ⟨x0, hx0⟩ : ∃ X, X = w4.alloc (.cells #[.slice (some ⟨g0, 0, none⟩) n0 (n0 + 2), .slice (some ⟨g1, 0, none⟩) n1 (n1 + 2), .slice (some ⟨g2, 0, none⟩) n2 (n2 + 2)] 22) := ⟨_, rfl⟩
  rw [← hx0] at HS1
  rw [← hx0]
  clear hx0 HS
  go_wp2_with fail
  refine (refSum_any [l0, l1, l2] _ _ (three_in HS1.out.i0 HS1.out.i1 HS1.out.i2 _ rfl) HFIT.out HLEN.out (by simp)).mono ?_
  rintro e x1 ⟨rfl, hb⟩
  rw [← HP.out]
  have HS2 := Lib.hid ((HS1.out.next (bl_al (Below.refl _ _) _)).next hb)
  clear hb HS1
  go_wp2_with fail
  refine (good_any [l0, l1, l2] _ _ (Parts.three (HS2.out.m0.at HL0.out) (HS2.out.m1.at HL1.out) (HS2.out.m2.at HL2.out) 22 _ rfl) HFIT.out (by have := HLEN.out; omega) (by simp)).mono ?_
  rintro e _ ⟨rfl, rfl⟩
  rw [← HP.out]
  have HS3 := Lib.hid (HS2.out.next (bl_al (Below.refl _ _) (.cells #[.slice (some ⟨g0, 0, none⟩) n0 (n0 + 2), .slice (some ⟨g1, 0, none⟩) n1 (n1 + 2), .slice (some ⟨g2, 0, none⟩) n2 (n2 + 2)] 22)))
  obtain ⟨x2, hx2⟩ : ∃ X, X = x1.alloc (.cells #[.slice (some ⟨g0, 0, none⟩) n0 (n0 + 2), .slice (some ⟨g1, 0, none⟩) n1 (n1 + 2), .slice (some ⟨g2, 0, none⟩) n2 (n2 + 2)] 22) := ⟨_, rfl⟩
  rw [← hx2] at HS3
  rw [← hx2]
  clear hx2 HS2
  obtain ⟨z, hz⟩ : ∃ z, z = (P == 0) := ⟨_, rfl⟩
  rw [← hz]
  have hz' := hz.symm
  clear hz
  go_wp2_with fail
  refine (sum_any [] _ _ (Parts.none _ none 0) (by unfold fit; simp) (by simp) (by simp)).mono ?_
  rintro e _ ⟨rfl, rfl⟩
  rw [show (65535 - car (ws ([] : List (List Int)).flatten)) = 65535 by decide]
  go_wp2_with fail
  refine (kept_any l0 a0 n0 c0 g0 _ HS3.out.i0 HS3.out.m0 (by omega)).mono ?_
  rintro e x3 ⟨rfl, hb⟩
  have HS4 := Lib.hid (HS3.out.next hb)
  clear hb HS3
  go_wp2_with fail
  refine (kept_any l1 a1 n1 c1 g1 _ HS4.out.i1 HS4.out.m1 (by omega)).mono ?_
  rintro e x4 ⟨rfl, hb⟩
  have HS5 := Lib.hid (HS4.out.next hb)
  clear hb HS4
  go_wp2_with fail
  refine (kept_any l2 a2 n2 c2 g2 _ HS5.out.i2 HS5.out.m2 (by omega)).mono ?_
  rintro e x5 ⟨rfl, hb⟩
  have HS6 := Lib.hid (HS5.out.next hb)
  clear hb HS5
  go_wp2
  go_ret
  exact ⟨rfl, HS6.out.below⟩
end Go.Proofs.Ytjmpmegodhglcaa
