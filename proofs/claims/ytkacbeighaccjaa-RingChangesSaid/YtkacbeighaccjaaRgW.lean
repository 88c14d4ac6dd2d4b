/- Contract of towpathlaw09.RingChanges: it returns true. Conditions: the rows came in. -/
import Derived.Test.YtkacbeighaccjaaRgU
namespace Go.Proofs.Ytkacbeighaccjaa
open Go Go.RowKit
set_option linter.unusedVariables false
set_option linter.unusedSimpArgs false

set_option maxRecDepth 100000 in
set_option maxHeartbeats 4000000 in
theorem ringChanges_t (P key N : Int) (ms more gone : List Int) (a : Option Addr) (n c : Nat) (a1 : Option Addr) (n1 c1 : Nat) (a2 : Option Addr) (n2 c2 : Nat) (w : World) (hI : InI w a n c ms) (hI1 : InI w a1 n1 c1 more) (hI2 : InI w a2 n2 c2 gone) (hn : n ≤ 4611686018427387904) (hP : I64 P) :
    Calls Try.prog 4 #[xvR P a n c key N, .slice a1 n1 c1, .slice a2 n2 c2] w fun e w' => e = .returned (.bool true) ∧ Below w.heap.size w w' := by
  obtain ⟨W, hW⟩ : ∃ W, W = w.alloc (xoR P a n c key N) := ⟨_, rfl⟩
  have hX : XAt W w.heap.size P a n c key N := by rw [hW]; exact XAt.new w P a n c key N
  have hb : Below w.heap.size w W := by rw [hW]; exact bl_al (Below.refl _ _) _
  have HI := Lib.hid (hI.below hb)
  have HI1 := Lib.hid (hI1.below hb)
  have HI2 := Lib.hid (hI2.below hb)
  obtain ⟨q, hq⟩ : ∃ q, q = w.heap.size := ⟨_, rfl⟩
  rw [← hq] at hX
  have HX := Lib.hid hX
  have HB := Lib.hid hb
  have HW := Lib.hid (And.intro hW hq)
  have CA := Lib.hid (alive9_any W)
  obtain ⟨z, hz⟩ := goodP_is P ms
  have HZ := Lib.hid hz
  obtain ⟨j0', hj0', hy0, hy1, hy2⟩ := info_parts info3
  have HP := Lib.hid hP
  clear hI hI1 hI2 hb hW hq hX hP hz
  go_enter Try.func4, Try.ntmps4
  go_upto_region 1 with fail
  rw [← HW.out.1, ← HW.out.2]
  go_wp2_with fail
  refine CA.out.mono ?_
  rintro e w1 ⟨rfl, hb⟩
  have HB1 := Lib.hid hb
  have x0 := (HX.out.below hb).c0
  have x1 := (HX.out.below hb).c1
  have HBE := Lib.hid (bl_tr HB.out hb)
  clear hb CA
  by_cases h1 : 200 < n
  · have i1 : (200 : Int) < (n : Int) := by omega
    go_wp2
    go_ret
    exact ⟨rfl, HBE.out⟩
  have i1 : ¬ (200 : Int) < (n : Int) := by omega
  by_cases h2 : 200 < n1
  · have i2 : (200 : Int) < (n1 : Int) := by omega
    go_wp2
    go_ret
    exact ⟨rfl, HBE.out⟩
  have i2 : ¬ (200 : Int) < (n1 : Int) := by omega
  by_cases h3 : 200 < n2
  · have i3 : (200 : Int) < (n2 : Int) := by omega
    go_wp2
    go_ret
    exact ⟨rfl, HBE.out⟩
  have i3 : ¬ (200 : Int) < (n2 : Int) := by omega
  have CG := Lib.hid (refGood_t P ms a n c w1 (HI.out.below HB1.out) hn z HZ.out)
  go_wp2_with fail
  refine CG.out.mono ?_
  rintro e w2 ⟨rfl, hb⟩
  have HB2 := Lib.hid (bl_tr HB1.out hb)
  clear hb CG x0 x1 HBE HB1
  by_cases hz0 : z = 0
  · subst hz0
    obtain ⟨hOP, hOM⟩ := goodP_zero HZ.out
    have HOM := Lib.hid hOM
    obtain ⟨p, rfl⟩ : ∃ p : Nat, P = p := ⟨P.toNat, by unfold OkP at hOP; omega⟩
    have hp1 : 0 < p ∧ p ≤ 64 := by unfold OkP at hOP; omega
    have hn64 : n ≤ 64 := by have := hOM.1; have := HI.out.len; omega
    have x0 := (HX.out.below HB2.out).c0
    have x1 := (HX.out.below HB2.out).c1
    have CN := Lib.hid (rnew_t (p : Int) ms a n c w2 (HI.out.below HB2.out) (by omega) (by omega) 0 HZ.out)
    rw [show (p : Int).toNat = p from Int.toNat_natCast p] at CN
    clear hOP hOM
    go_wp2_with fail
    refine CN.out.mono ?_
    rintro e w3 ⟨h | h, hb⟩
    case inr => exact absurd rfl h.1
    obtain ⟨_, r, rfl, hr⟩ := h
    have HB3 := Lib.hid (bl_tr HB2.out hb)
    have HR3 := Lib.hid hr
    have CM := Lib.hid (mine_t more a1 n1 c1 w3 (HI1.out.below HB3.out) (by omega))
    clear hb hr CN HB2 x0 x1
    go_wp2_with fail
    refine CM.out.mono ?_
    rintro e w4 ⟨g, rfl, hM, _, hb⟩
    have HB4 := Lib.hid (bl_tr HB3.out hb)
    have HR4 := Lib.hid (HR3.out.below hb)
    have HM4 := Lib.hid hM
    have CM := Lib.hid (mine_t gone a2 n2 c2 w4 (HI2.out.below HB4.out) (by omega))
    clear hb hM HB3 HR3
    go_wp2_with fail
    refine CM.out.mono ?_
    rintro e w5 ⟨g2, rfl, hM, _, hb⟩
    have HB5 := Lib.hid (bl_tr HB4.out hb)
    have HR5 := Lib.hid (HR4.out.below hb)
    have HM5 := Lib.hid (HM4.out.below hb)
    have HN5 := Lib.hid hM
    obtain ⟨z2, hz2⟩ := goodP_is (p : Int) (ms ++ more)
    have HZ2 := Lib.hid hz2
    have CW := Lib.hid (rwith_t r p ms more (some ⟨g, 0, none⟩) n1 (n1 + 1) w5 HR5.out HM5.out.row (by omega) z2 hz2)
    clear hb hM HB4 HR4 HM4 CM hz2
    go_wp2_with fail
    refine CW.out.mono ?_
    rintro e w6 ⟨hres, hb⟩
    have HB6 := Lib.hid (bl_tr HB5.out hb)
    have HR6 := Lib.hid (HR5.out.below hb)
    have HM6 := Lib.hid (HM5.out.below hb)
    have HN6 := Lib.hid (HN5.out.below hb)
    clear hb CW HB5 HR5 HM5 HN5
    rcases hres with ⟨rfl, s2, rfl, hq⟩ | ⟨hz20, rfl⟩
    case inl =>
      have HQ6 := Lib.hid hq
      clear hq
      have x1 := ((HX.out.below HB6.out).below (bl_al (Below.refl w6.heap.size w6) (.cells #[] 3))).c1
      have own0 := World.ownsRow_made (e := 3) (size := 1) w6 #[] 0 (Nat.le_refl _) (by decide) rfl
      have HA1 := Lib.hid ((HI.out.below HB6.out).below (bl_al (Below.refl w6.heap.size w6) (.cells #[] 3)))
      go_wp2_with (at_builtin; refine append_any rfl (.tmp 63) (.tmp 65) 22 rfl w6.heap.size 3 j0' (.int .i64 0) 1 8 Try.underlying22 hj0' hy0 hy1 hy2 rfl (by decide) _ 0 [] rfl own0 a n c (i64s ms) rfl HA1.out.zero ?c1 HA1.out.cells (i64s_one ms) ?c2 ?c3 ?c4 ?_)
      case c1 => unfold i64s; rw [List.length_map, HA1.out.len]; omega
      case c2 => unfold maxLen; omega
      case c3 => omega
      case c4 => simp
      intro v1 w7 hown hgrow
      obtain ⟨ao, c7, rfl⟩ := own_form hown
      try simp only [Nat.zero_add, List.nil_append] at hown
      have hb7 : Below w6.heap.size w6 w7 := (bl_al (Below.refl w6.heap.size w6) (.cells #[] 3)).grown hgrow (by simp) (fun k hk => by cases hk; exact Nat.le_refl _)
      have HO7 := Lib.hid hown
      have HB7 := Lib.hid hb7
      have HA2 := Lib.hid ((HI1.out.below HB6.out).below hb7)
      clear x1 own0 hown hgrow hb7 HA1
      go_wp2_with (at_builtin; refine append_any rfl (.tmp 66) (.tmp 67) 22 rfl w6.heap.size 3 j0' (.int .i64 0) 1 8 Try.underlying22 hj0' hy0 hy1 hy2 rfl (by decide) _ n (i64s ms) rfl HO7.out a1 n1 c1 (i64s more) rfl HA2.out.zero ?c1 HA2.out.cells (i64s_one more) ?c2 ?c3 ?c4 ?_)
      case c1 => unfold i64s; rw [List.length_map, HA2.out.len]; omega
      case c2 => unfold maxLen; omega
      case c3 => omega
      case c4 => have := HB7.out.size; simp; omega
      intro v2 w8 hown hgrow
      obtain ⟨a8, c8, rfl⟩ := own_form hown
      have hb8 : Below w6.heap.size w6 w8 := HB7.out.grown hgrow HB7.out.size (fun k hk => (HO7.out.lt k hk).1)
      rw [i64s_app] at hown
      have hlen : (ms ++ more).length = n + n1 := by rw [List.length_append, HI.out.len, HI1.out.len]
      have HAll := Lib.hid (own_inI hown hlen (fitI_app HI.out.fit HI1.out.fit))
      have HB8 := Lib.hid (bl_tr HB6.out hb8)
      have HR8 := Lib.hid (HR6.out.below hb8)
      have HM8 := Lib.hid (HM6.out.below hb8)
      have HN8 := Lib.hid (HN6.out.below hb8)
      have HQ8 := Lib.hid (HQ6.out.below hb8)
      have x0 := (HX.out.below HB8.out).c0
      have CG := Lib.hid (refGood_t (p : Int) (ms ++ more) a8 (n + n1) c8 w8 HAll.out (by omega) 0 HZ2.out)
      clear HQ6 hown hgrow hb8 HB7 HO7 HA2 HB6 HR6 HM6 HN6
      go_wp2_with fail
      refine CG.out.mono ?_
      rintro e w9 ⟨rfl, hb⟩
      have HB9 := Lib.hid (bl_tr HB8.out hb)
      have HR9 := Lib.hid (HR8.out.below hb)
      have HM9 := Lib.hid (HM8.out.below hb)
      have HN9 := Lib.hid (HN8.out.below hb)
      have HAll9 := Lib.hid (HAll.out.below hb)
      have HQ9 := Lib.hid (HQ8.out.below hb)
      clear HQ8
      clear hb CG x0 HB8 HR8 HM8 HN8 HAll
      have CU := Lib.hid (numR_t 0 (.inl rfl) w9)
      rw [show errR 0 = Value.nilIface from rfl] at CU
      have CM := Lib.hid (rmembers_t s2 p (ms ++ more) w9 HQ9.out)
      go_wp2_with fail
      refine CU.out.mono ?_
      rintro e w10 ⟨rfl, rfl⟩
      clear CU
      go_wp2_with fail
      refine CM.out.mono ?_
      rintro e w10 hG
      obtain ⟨a3, c3, rfl, hO, hb⟩ := gotB_in hG (fitI_srt (fitI_app HI.out.fit HI1.out.fit))
      have HB10 := Lib.hid (bl_tr HB9.out hb)
      have HR10 := Lib.hid (HR9.out.below hb)
      have HM10 := Lib.hid (HM9.out.below hb)
      have HN10 := Lib.hid (HN9.out.below hb)
      have HO10 := Lib.hid hO
      have CS := Lib.hid (refSorted_t (ms ++ more) a8 (n + n1) c8 w10 (HAll9.out.below hb) (by omega))
      clear hG hO hb CM HB9 HR9 HM9 HN9 HAll9 HQ9
      go_wp2_with fail
      refine CS.out.mono ?_
      rintro e w11 hG
      obtain ⟨a4, c4, rfl, hO, hb⟩ := gotB_in hG (fitI_srt (fitI_app HI.out.fit HI1.out.fit))
      have HB11 := Lib.hid (bl_tr HB10.out hb)
      have HR11 := Lib.hid (HR10.out.below hb)
      have HM11 := Lib.hid (HM10.out.below hb)
      have HN11 := Lib.hid (HN10.out.below hb)
      have CI := Lib.hid (ints_any (srtI (ms ++ more)) (srtI (ms ++ more)) a3 a4 _ c3 _ c4 w11 (HO10.out.below hb) hO (by rw [srtI_len, hlen]; omega) true (by simp))
      clear hG hO hb CS HB10 HR10 HM10 HN10 HO10
      go_wp2_with fail
      refine CI.out.mono ?_
      rintro e w12 ⟨rfl, hb⟩
      have HB12 := Lib.hid (bl_tr HB11.out hb)
      have HR12 := Lib.hid (HR11.out.below hb)
      have HM12 := Lib.hid (HM11.out.below hb)
      have HN12 := Lib.hid (HN11.out.below hb)
      clear hb CI HB11 HR11 HM11 HN11 hlen
      have CO := Lib.hid (rwithout_t r p ms gone (some ⟨g2, 0, none⟩) n2 (n2 + 1) w12 HR12.out HN12.out.row (by omega))
      go_wp2_with fail
      refine CO.out.mono ?_
      rintro e w13 ⟨h | h, hb⟩
      case inr => exact absurd rfl h.1
      obtain ⟨_, s, rfl, hs⟩ := h
      have HB13 := Lib.hid (bl_tr HB12.out hb)
      have HR13 := Lib.hid (HR12.out.below hb)
      have HM13 := Lib.hid (HM12.out.below hb)
      have HN13 := Lib.hid (HN12.out.below hb)
      have HS13 := Lib.hid hs
      clear hb hs CO HB12 HR12 HM12 HN12
      obtain ⟨L, hL⟩ : ∃ L, L = lessI ms gone := ⟨_, rfl⟩
      obtain ⟨kL, hkL⟩ : ∃ k, k = L.length := ⟨_, rfl⟩
      have hk64 : kL ≤ 64 := by rw [hkL, hL]; have := HI.out.len; exact Nat.le_trans (List.length_filter_le _ _) (by omega)
      have HFL := Lib.hid (show fitI L from fun x hx => by rw [hL] at hx; exact HI.out.fit x (List.mem_filter.1 hx).1)
      rw [← hL] at HS13
      have HBx := Lib.hid (show ∀ wx, Below w13.heap.size w13 wx → wx.cell? ⟨q, 1, none⟩ = some (.slice a n c) ∧ Below w13.heap.size w13 wx from fun wx h => ⟨((HX.out.below HB13.out).below h).c1, h⟩)
      have hd0 : Below w13.heap.size w13 w13.drew := (Below.refl _ _).drew
      have hS0 := HBx.out _ hd0
      have C1 : Hid (∀ V : World, Below w13.heap.size w13 V → Calls Try.prog 18 #[.pointer (some ⟨s, 0, none⟩)] V (fun e w' => ∃ a c, e = .returned (.slice a kL c) ∧ InI w' a kL c (srtI L) ∧ Below V.heap.size V w')) := Lib.hid (fun V h => (rmembers_t s p L V (HS13.out.below h)).mono (fun e w' hG => by
        have h2 := gotB_in hG (fitI_srt HFL.out)
        rw [srtI_len, ← hkL] at h2
        exact h2))
      have C2 : Hid (∀ V : World, Below w13.heap.size w13 V → Calls Try.prog 21 #[.slice a n c, .slice a2 n2 c2] V (fun e w' => ∃ a c, e = .returned (.slice a kL c) ∧ InI w' a kL c L ∧ Below V.heap.size V w')) := Lib.hid (fun V h => (refWithout_t ms gone a n c a2 n2 c2 V ((HI.out.below HB13.out).below h) ((HI2.out.below HB13.out).below h) (by omega) (by omega)).mono (fun e w' hG => by
        rw [← hL] at hG
        have h2 := gotB_in hG HFL.out
        rw [← hkL] at h2
        exact h2))
      have C3 : Hid (∀ (V : World) (b : Option Addr) (d : Nat), InI V b kL d L → Calls Try.prog 19 #[.slice b kL d] V (fun e w' => ∃ a c, e = .returned (.slice a kL c) ∧ InI w' a kL c (srtI L) ∧ Below V.heap.size V w')) := Lib.hid (fun V b d h => (refSorted_t L b kL d V h (by omega)).mono (fun e w' hG => by
        have h2 := gotB_in hG (fitI_srt HFL.out)
        rw [srtI_len, ← hkL] at h2
        exact h2))
      have C4 := Lib.hid (fun (V : World) (b1 b2 : Option Addr) (d1 d2 : Nat) (h1 : InI V b1 kL d1 (srtI L)) (h2 : InI V b2 kL d2 (srtI L)) => ints_any (srtI L) (srtI L) b1 b2 kL d1 kL d2 V h1 h2 (by omega) true (by simp))
      have hsl : (srtI ms).length = n := by rw [srtI_len]; exact HI.out.len
      have C5 : Hid (∀ V : World, Below w13.heap.size w13 V → Calls Try.prog 18 #[.pointer (some ⟨r, 0, none⟩)] V (fun e w' => ∃ a c, e = .returned (.slice a n c) ∧ InI w' a n c (srtI ms) ∧ Below V.heap.size V w')) := Lib.hid (fun V h => (rmembers_t r p ms V (HR13.out.below h)).mono (fun e w' hG => by
        have h2 := gotB_in hG (fitI_srt HI.out.fit)
        rw [hsl] at h2
        exact h2))
      have C6 : Hid (∀ V : World, Below w13.heap.size w13 V → Calls Try.prog 19 #[.slice a n c] V (fun e w' => ∃ a c, e = .returned (.slice a n c) ∧ InI w' a n c (srtI ms) ∧ Below V.heap.size V w')) := Lib.hid (fun V h => (refSorted_t ms a n c V ((HI.out.below HB13.out).below h) (by omega)).mono (fun e w' hG => by
        have h2 := gotB_in hG (fitI_srt HI.out.fit)
        rw [hsl] at h2
        exact h2))
      have C7 := Lib.hid (fun (V : World) (b1 b2 : Option Addr) (d1 d2 : Nat) (h1 : InI V b1 n d1 (srtI ms)) (h2 : InI V b2 n d2 (srtI ms)) => ints_any (srtI ms) (srtI ms) b1 b2 n d1 n d2 V h1 h2 (by omega) true (by simp))
      have C8 := Lib.hid (fun (V : World) (h : Below w13.heap.size w13 V) => kept_t more a1 n1 c1 g V (HM13.out.below h) ((HI1.out.below HB13.out).below h) (by omega))
      have C9 := Lib.hid (fun (V : World) (h : Below w13.heap.size w13 V) => kept_t gone a2 n2 c2 g2 V (HN13.out.below h) ((HI2.out.below HB13.out).below h) (by omega))
      have en := errEq
      clear hL hkL hsl
      go_wp2_with fail
      go_region_held3 (fun wx => wx.cell? ⟨q, 1, none⟩ = some (.slice a n c) ∧ Below w13.heap.size w13 wx) (first | (with_reducible exact hS0) | (with_reducible exact HBx.out _ k1) | (with_reducible exact HBx.out _ k2) | (with_reducible exact HBx.out _ k3) | (with_reducible exact HBx.out _ k4) | (with_reducible exact HBx.out _ k5) | (with_reducible exact HBx.out _ k6) | (with_reducible exact HBx.out _ k7) | (with_reducible exact HBx.out _ k8) | (with_reducible exact HBx.out _ k9) | (with_reducible assumption) | fail)
        (first | (go_at_call 18; (with_reducible refine (C1.out _ hd0).mono ?_); rintro e u1 ⟨b1, d1, rfl, I1, hb⟩; have k1 := bl_tr hd0 hb) | (go_at_call 21; (with_reducible refine (C2.out _ k1).mono ?_); rintro e u2 ⟨b2, d2, rfl, I2, hb⟩; have k2 := bl_tr k1 hb; have I1a := I1.below hb) | (go_at_call 19; (with_reducible refine (C3.out _ _ _ I2).mono ?_); rintro e u3 ⟨b3, d3, rfl, I3, hb⟩; have k3 := bl_tr k2 hb; have I1b := I1a.below hb) | (go_at_call 17; (with_reducible refine (C4.out _ _ _ _ _ I1b I3).mono ?_); rintro e u4 ⟨rfl, hb⟩; have k4 := bl_tr k3 hb) | (go_at_call 18; (with_reducible refine (C5.out _ k4).mono ?_); rintro e u5 ⟨b5, d5, rfl, I5, hb⟩; have k5 := bl_tr k4 hb) | (go_at_call 19; (with_reducible refine (C6.out _ k5).mono ?_); rintro e u6 ⟨b6, d6, rfl, I6, hb⟩; have k6 := bl_tr k5 hb; have I5a := I5.below hb) | (go_at_call 17; (with_reducible refine (C7.out _ _ _ _ _ I5a I6).mono ?_); rintro e u7 ⟨rfl, hb⟩; have k7 := bl_tr k6 hb) | (go_at_call 22; (with_reducible refine (C8.out _ k7).mono ?_); rintro e u8 ⟨rfl, hb⟩; have k8 := bl_tr k7 hb) | (go_at_call 22; (with_reducible refine (C9.out _ k8).mono ?_); rintro e u9 ⟨rfl, hb⟩; have k9 := bl_tr k8 hb) | fail)
      all_goals
        rename_i hHeld
        have HBE := Lib.hid (bl_tr HB.out (bl_tr HB13.out hHeld.2))
        clear hHeld
        go_wp2
        go_ret
        exact ⟨rfl, HBE.out⟩
    case inr =>
      rw [show errR z2 = errnoR z2 from if_neg hz20]
      have x1 := ((HX.out.below HB6.out).below (bl_al (Below.refl w6.heap.size w6) (.cells #[] 3))).c1
      have own0 := World.ownsRow_made (e := 3) (size := 1) w6 #[] 0 (Nat.le_refl _) (by decide) rfl
      have HA1 := Lib.hid ((HI.out.below HB6.out).below (bl_al (Below.refl w6.heap.size w6) (.cells #[] 3)))
      go_wp2_with (at_builtin; refine append_any rfl (.tmp 63) (.tmp 65) 22 rfl w6.heap.size 3 j0' (.int .i64 0) 1 8 Try.underlying22 hj0' hy0 hy1 hy2 rfl (by decide) _ 0 [] rfl own0 a n c (i64s ms) rfl HA1.out.zero ?c1 HA1.out.cells (i64s_one ms) ?c2 ?c3 ?c4 ?_)
      case c1 => unfold i64s; rw [List.length_map, HA1.out.len]; omega
      case c2 => unfold maxLen; omega
      case c3 => omega
      case c4 => simp
      intro v1 w7 hown hgrow
      obtain ⟨ao, c7, rfl⟩ := own_form hown
      try simp only [Nat.zero_add, List.nil_append] at hown
      have hb7 : Below w6.heap.size w6 w7 := (bl_al (Below.refl w6.heap.size w6) (.cells #[] 3)).grown hgrow (by simp) (fun k hk => by cases hk; exact Nat.le_refl _)
      have HO7 := Lib.hid hown
      have HB7 := Lib.hid hb7
      have HA2 := Lib.hid ((HI1.out.below HB6.out).below hb7)
      clear x1 own0 hown hgrow hb7 HA1
      go_wp2_with (at_builtin; refine append_any rfl (.tmp 66) (.tmp 67) 22 rfl w6.heap.size 3 j0' (.int .i64 0) 1 8 Try.underlying22 hj0' hy0 hy1 hy2 rfl (by decide) _ n (i64s ms) rfl HO7.out a1 n1 c1 (i64s more) rfl HA2.out.zero ?c1 HA2.out.cells (i64s_one more) ?c2 ?c3 ?c4 ?_)
      case c1 => unfold i64s; rw [List.length_map, HA2.out.len]; omega
      case c2 => unfold maxLen; omega
      case c3 => omega
      case c4 => have := HB7.out.size; simp; omega
      intro v2 w8 hown hgrow
      obtain ⟨a8, c8, rfl⟩ := own_form hown
      have hb8 : Below w6.heap.size w6 w8 := HB7.out.grown hgrow HB7.out.size (fun k hk => (HO7.out.lt k hk).1)
      rw [i64s_app] at hown
      have hlen : (ms ++ more).length = n + n1 := by rw [List.length_append, HI.out.len, HI1.out.len]
      have HAll := Lib.hid (own_inI hown hlen (fitI_app HI.out.fit HI1.out.fit))
      have HB8 := Lib.hid (bl_tr HB6.out hb8)
      have HR8 := Lib.hid (HR6.out.below hb8)
      have HM8 := Lib.hid (HM6.out.below hb8)
      have HN8 := Lib.hid (HN6.out.below hb8)
      have x0 := (HX.out.below HB8.out).c0
      have CG := Lib.hid (refGood_t (p : Int) (ms ++ more) a8 (n + n1) c8 w8 HAll.out (by omega) z2 HZ2.out)
      clear hown hgrow hb8 HB7 HO7 HA2 HB6 HR6 HM6 HN6
      go_wp2_with fail
      refine CG.out.mono ?_
      rintro e w9 ⟨rfl, hb⟩
      have HB9 := Lib.hid (bl_tr HB8.out hb)
      have HR9 := Lib.hid (HR8.out.below hb)
      have HM9 := Lib.hid (HM8.out.below hb)
      have HN9 := Lib.hid (HN8.out.below hb)
      have HAll9 := Lib.hid (HAll.out.below hb)
      clear hb CG x0 HB8 HR8 HM8 HN8 HAll
      have CU := Lib.hid (numR_t z2 (goodP_z HZ2.out) w9)
      rw [show errR z2 = errnoR z2 from if_neg hz20] at CU
      have qz : (z2 != z2) = false := by simp
      have qz2 : (z2 == 0) = false := by simpa using hz20
      have qz3 : (z2 != 0) = true := by simpa using hz20
      go_wp2_with fail
      refine CU.out.mono ?_
      rintro e w12 ⟨rfl, rfl⟩
      have HB12 := HB9
      have HR12 := HR9
      have HM12 := HM9
      have HN12 := HN9
      clear CU HB9 HR9 HM9 HN9 HAll9 hlen
      have CO := Lib.hid (rwithout_t r p ms gone (some ⟨g2, 0, none⟩) n2 (n2 + 1) w9 HR12.out HN12.out.row (by omega))
      go_wp2_with fail
      refine CO.out.mono ?_
      rintro e w13 ⟨h | h, hb⟩
      case inr => exact absurd rfl h.1
      obtain ⟨_, s, rfl, hs⟩ := h
      have HB13 := Lib.hid (bl_tr HB12.out hb)
      have HR13 := Lib.hid (HR12.out.below hb)
      have HM13 := Lib.hid (HM12.out.below hb)
      have HN13 := Lib.hid (HN12.out.below hb)
      have HS13 := Lib.hid hs
      clear hb hs CO HB12 HR12 HM12 HN12
      obtain ⟨L, hL⟩ : ∃ L, L = lessI ms gone := ⟨_, rfl⟩
      obtain ⟨kL, hkL⟩ : ∃ k, k = L.length := ⟨_, rfl⟩
      have hk64 : kL ≤ 64 := by rw [hkL, hL]; have := HI.out.len; exact Nat.le_trans (List.length_filter_le _ _) (by omega)
      have HFL := Lib.hid (show fitI L from fun x hx => by rw [hL] at hx; exact HI.out.fit x (List.mem_filter.1 hx).1)
      rw [← hL] at HS13
      have HBx := Lib.hid (show ∀ wx, Below w13.heap.size w13 wx → wx.cell? ⟨q, 1, none⟩ = some (.slice a n c) ∧ Below w13.heap.size w13 wx from fun wx h => ⟨((HX.out.below HB13.out).below h).c1, h⟩)
      have hd0 : Below w13.heap.size w13 w13.drew := (Below.refl _ _).drew
      have hS0 := HBx.out _ hd0
      have C1 : Hid (∀ V : World, Below w13.heap.size w13 V → Calls Try.prog 18 #[.pointer (some ⟨s, 0, none⟩)] V (fun e w' => ∃ a c, e = .returned (.slice a kL c) ∧ InI w' a kL c (srtI L) ∧ Below V.heap.size V w')) := Lib.hid (fun V h => (rmembers_t s p L V (HS13.out.below h)).mono (fun e w' hG => by
        have h2 := gotB_in hG (fitI_srt HFL.out)
        rw [srtI_len, ← hkL] at h2
        exact h2))
      have C2 : Hid (∀ V : World, Below w13.heap.size w13 V → Calls Try.prog 21 #[.slice a n c, .slice a2 n2 c2] V (fun e w' => ∃ a c, e = .returned (.slice a kL c) ∧ InI w' a kL c L ∧ Below V.heap.size V w')) := Lib.hid (fun V h => (refWithout_t ms gone a n c a2 n2 c2 V ((HI.out.below HB13.out).below h) ((HI2.out.below HB13.out).below h) (by omega) (by omega)).mono (fun e w' hG => by
        rw [← hL] at hG
        have h2 := gotB_in hG HFL.out
        rw [← hkL] at h2
        exact h2))
      have C3 : Hid (∀ (V : World) (b : Option Addr) (d : Nat), InI V b kL d L → Calls Try.prog 19 #[.slice b kL d] V (fun e w' => ∃ a c, e = .returned (.slice a kL c) ∧ InI w' a kL c (srtI L) ∧ Below V.heap.size V w')) := Lib.hid (fun V b d h => (refSorted_t L b kL d V h (by omega)).mono (fun e w' hG => by
        have h2 := gotB_in hG (fitI_srt HFL.out)
        rw [srtI_len, ← hkL] at h2
        exact h2))
      have C4 := Lib.hid (fun (V : World) (b1 b2 : Option Addr) (d1 d2 : Nat) (h1 : InI V b1 kL d1 (srtI L)) (h2 : InI V b2 kL d2 (srtI L)) => ints_any (srtI L) (srtI L) b1 b2 kL d1 kL d2 V h1 h2 (by omega) true (by simp))
      have hsl : (srtI ms).length = n := by rw [srtI_len]; exact HI.out.len
      have C5 : Hid (∀ V : World, Below w13.heap.size w13 V → Calls Try.prog 18 #[.pointer (some ⟨r, 0, none⟩)] V (fun e w' => ∃ a c, e = .returned (.slice a n c) ∧ InI w' a n c (srtI ms) ∧ Below V.heap.size V w')) := Lib.hid (fun V h => (rmembers_t r p ms V (HR13.out.below h)).mono (fun e w' hG => by
        have h2 := gotB_in hG (fitI_srt HI.out.fit)
        rw [hsl] at h2
        exact h2))
      have C6 : Hid (∀ V : World, Below w13.heap.size w13 V → Calls Try.prog 19 #[.slice a n c] V (fun e w' => ∃ a c, e = .returned (.slice a n c) ∧ InI w' a n c (srtI ms) ∧ Below V.heap.size V w')) := Lib.hid (fun V h => (refSorted_t ms a n c V ((HI.out.below HB13.out).below h) (by omega)).mono (fun e w' hG => by
        have h2 := gotB_in hG (fitI_srt HI.out.fit)
        rw [hsl] at h2
        exact h2))
      have C7 := Lib.hid (fun (V : World) (b1 b2 : Option Addr) (d1 d2 : Nat) (h1 : InI V b1 n d1 (srtI ms)) (h2 : InI V b2 n d2 (srtI ms)) => ints_any (srtI ms) (srtI ms) b1 b2 n d1 n d2 V h1 h2 (by omega) true (by simp))
      have C8 := Lib.hid (fun (V : World) (h : Below w13.heap.size w13 V) => kept_t more a1 n1 c1 g V (HM13.out.below h) ((HI1.out.below HB13.out).below h) (by omega))
      have C9 := Lib.hid (fun (V : World) (h : Below w13.heap.size w13 V) => kept_t gone a2 n2 c2 g2 V (HN13.out.below h) ((HI2.out.below HB13.out).below h) (by omega))
      have en := errEq
      clear hL hkL hsl
      go_wp2_with fail
      go_region_held3 (fun wx => wx.cell? ⟨q, 1, none⟩ = some (.slice a n c) ∧ Below w13.heap.size w13 wx) (first | (with_reducible exact hS0) | (with_reducible exact HBx.out _ k1) | (with_reducible exact HBx.out _ k2) | (with_reducible exact HBx.out _ k3) | (with_reducible exact HBx.out _ k4) | (with_reducible exact HBx.out _ k5) | (with_reducible exact HBx.out _ k6) | (with_reducible exact HBx.out _ k7) | (with_reducible exact HBx.out _ k8) | (with_reducible exact HBx.out _ k9) | (with_reducible assumption) | fail)
        (first | (go_at_call 18; (with_reducible refine (C1.out _ hd0).mono ?_); rintro e u1 ⟨b1, d1, rfl, I1, hb⟩; have k1 := bl_tr hd0 hb) | (go_at_call 21; (with_reducible refine (C2.out _ k1).mono ?_); rintro e u2 ⟨b2, d2, rfl, I2, hb⟩; have k2 := bl_tr k1 hb; have I1a := I1.below hb) | (go_at_call 19; (with_reducible refine (C3.out _ _ _ I2).mono ?_); rintro e u3 ⟨b3, d3, rfl, I3, hb⟩; have k3 := bl_tr k2 hb; have I1b := I1a.below hb) | (go_at_call 17; (with_reducible refine (C4.out _ _ _ _ _ I1b I3).mono ?_); rintro e u4 ⟨rfl, hb⟩; have k4 := bl_tr k3 hb) | (go_at_call 18; (with_reducible refine (C5.out _ k4).mono ?_); rintro e u5 ⟨b5, d5, rfl, I5, hb⟩; have k5 := bl_tr k4 hb) | (go_at_call 19; (with_reducible refine (C6.out _ k5).mono ?_); rintro e u6 ⟨b6, d6, rfl, I6, hb⟩; have k6 := bl_tr k5 hb; have I5a := I5.below hb) | (go_at_call 17; (with_reducible refine (C7.out _ _ _ _ _ I5a I6).mono ?_); rintro e u7 ⟨rfl, hb⟩; have k7 := bl_tr k6 hb) | (go_at_call 22; (with_reducible refine (C8.out _ k7).mono ?_); rintro e u8 ⟨rfl, hb⟩; have k8 := bl_tr k7 hb) | (go_at_call 22; (with_reducible refine (C9.out _ k8).mono ?_); rintro e u9 ⟨rfl, hb⟩; have k9 := bl_tr k8 hb) | fail)
      all_goals
        rename_i hHeld
        have HBE := Lib.hid (bl_tr HB.out (bl_tr HB13.out hHeld.2))
        clear hHeld
        go_wp2
        go_ret
        exact ⟨rfl, HBE.out⟩
  · have hzb : (z != 0) = true := by simpa using hz0
    have HBE := Lib.hid (bl_tr HB.out HB2.out)
    go_wp2
    go_ret
    exact ⟨rfl, HBE.out⟩
end Go.Proofs.Ytkacbeighaccjaa
