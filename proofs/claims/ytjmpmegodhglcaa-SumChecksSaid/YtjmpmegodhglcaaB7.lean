/- Contract of SumChecks: true. Conditions: the rows' cells hold bytes. -/
import Derived.Test.YtjmpmegodhglcaaB5
import Derived.Deep.CutRange
namespace Go.Proofs.Ytjmpmegodhglcaa
open Go Go.RowKit

theorem check1 {W : World} {u : Value} {p : List Int} (h : At W u p) (hf : fit p) (hl : p.length ≤ 4294967296) (n : Nat) (hn : n = W.heap.size) :
    Calls Try.prog 18 #[.slice (some ⟨n, 0, none⟩) 1 1] (W.alloc (.cells #[u] 22)) fun e w' => e = .returned (.int .u32 (crc p)) ∧ (W.alloc (.cells #[u] 22)) = w' := by
  have H := check_any [p] _ _ (Parts.one h 22 n hn) (by simpa using hf) (by simpa using hl) (by simp)
  rw [show [p].flatten = p by simp] at H
  exact H
theorem check2 {W : World} {u v : Value} {p q : List Int} (h : At W u p) (h' : At W v q) (hf : fit p) (hf' : fit q) (hl : p.length + q.length ≤ 4294967296) (n : Nat) (hn : n = W.heap.size) :
    Calls Try.prog 18 #[.slice (some ⟨n, 0, none⟩) 2 2] (W.alloc (.cells #[u, v] 22)) fun e w' => e = .returned (.int .u32 (crc (p ++ q))) ∧ (W.alloc (.cells #[u, v] 22)) = w' := by
  have H := check_any [p, q] _ _ (Parts.two h h' 22 n hn) (by simpa using fit_app hf hf') (by simpa using hl) (by simp)
  rw [show [p, q].flatten = p ++ q by simp] at H
  exact H
theorem check3 {W : World} {u : Value} {p : List Int} (h : At W u p) (hf : fit p) (hl : p.length ≤ 4294967296) (n : Nat) (hn : n = W.heap.size) :
    Calls Try.prog 18 #[.slice (some ⟨n, 0, none⟩) 3 3] (W.alloc (.cells #[.slice none 0 0, u, .slice none 0 0] 22)) fun e w' => e = .returned (.int .u32 (crc p)) ∧ (W.alloc (.cells #[.slice none 0 0, u, .slice none 0 0] 22)) = w' := by
  have H := check_any [[], p, []] _ _ (Parts.three (At.nil W none 0) h (At.nil W none 0) 22 n hn) (by simpa using hf) (by simpa using hl) (by simp)
  rw [show [[], p, []].flatten = p by simp] at H
  exact H

set_option maxRecDepth 100000 in
theorem checks_none (aa ab : Option Addr) (na nb ca cb : Nat) (w : World) (h : 65536 < na ∨ 65536 < nb) (h1 : na ≤ maxLen) (h2 : nb ≤ maxLen) :
    Calls Try.prog 5 #[.slice aa na ca, .slice ab nb cb] w fun e w' => e = .returned (.bool true) ∧ Below w.heap.size w w' := by
  unfold maxLen at h1 h2
  by_cases h0 : 65536 < na
  · clear h
    go_enter Try.func5, Try.ntmps5
    go_wp2_with (go_at_call 9; refine (alive_any w).mono ?_; rintro e w2 ⟨rfl, hb⟩)
    go_ret
    exact ⟨rfl, hb⟩
  · have h0' : 65536 < nb := by omega
    clear h
    go_enter Try.func5, Try.ntmps5
    go_wp2_with (go_at_call 9; refine (alive_any w).mono ?_; rintro e w2 ⟨rfl, hb⟩)
    go_ret
    exact ⟨rfl, hb⟩

set_option maxRecDepth 100000 in
theorem checks_some (la lb : List Int) (aa ab : Option Addr) (na nb ca cb : Nat) (w : World) (hA : In w aa na ca la) (hB : In w ab nb cb lb) (h1 : na ≤ 65536) (h2 : nb ≤ 65536) :
    Calls Try.prog 5 #[.slice aa na ca, .slice ab nb cb] w fun e w' => e = .returned (.bool true) ∧ Below w.heap.size w w' := by
  obtain ⟨i0, hi0, hz0, hz1, hz2⟩ := info_parts info5
  have HX := Lib.hid hA
  have HY := Lib.hid hB
  clear hA hB
  go_enter Try.func5, Try.ntmps5
  have t1 : decide ((65536 : Int) < (na : Int)) = false := decide_eq_false (by omega)
  have t2 : decide ((65536 : Int) < (nb : Int)) = false := decide_eq_false (by omega)
  go_upto_region 5 with (go_at_call 9; refine (alive_any w).mono ?_; rintro e w1 ⟨rfl, hb⟩)
  have HB1 := Lib.hid hb
  clear hb
  have own0 := World.ownsRow_made (e := 5) (size := 1) w1 #[] 0 HB1.out.size (by decide) rfl
  have HX1 := Lib.hid ((HX.out.below HB1.out).below (bl_al (Below.refl _ _) (.cells #[] 5)))
  go_wp2_with (at_builtin; refine append_any rfl (.tmp 17) (.tmp 18) 22 rfl w.heap.size 5 i0 (.int .u8 0) 1 1 Try.underlying22 hi0 hz0 hz1 hz2 rfl (by decide) _ 0 [] rfl own0 aa na ca (u8s la) rfl HX1.out.zero ?c1 HX1.out.cells (u8s_one la) ?c2 ?c3 ?c4 ?_)
  case c1 => unfold u8s; rw [List.length_map, HX.out.len]; omega
  case c2 => unfold maxLen; omega
  case c3 => omega
  case c4 => have := HB1.out.size; simp at this ⊢; omega
  intro v1 w2 hown hgrow
  have HB2 := Lib.hid ((HB1.out.alloc HB1.out.size (.cells #[] 5)).grown hgrow (by have := HB1.out.size; simp at this ⊢; omega) (fun k hk => by cases hk; exact HB1.out.size))
  have hfl := own_form hown
  obtain ⟨ao, c1, rfl⟩ := hfl
  have HL2 := Lib.hid (HY.out.below HB2.out)
  have hs2 := HB2.out.size
  clear hgrow own0 HX1 HB1
  go_wp2_with (at_builtin; refine append_any rfl (.tmp 19) (.tmp 20) 22 rfl w.heap.size 5 i0 (.int .u8 0) 1 1 Try.underlying22 hi0 hz0 hz1 hz2 rfl (by decide) _ na (u8s la) rfl hown ab nb cb (u8s lb) rfl HL2.out.zero ?c1 HL2.out.cells (u8s_one lb) ?c2 ?c3 ?c4 ?_)
  case c1 => unfold u8s; rw [List.length_map, HL2.out.len]; omega
  case c2 => unfold maxLen; omega
  case c3 => omega
  case c4 => exact hs2
  intro v2 w3 hown3 hgrow3
  obtain ⟨a2, c2, hv2⟩ := own_form hown3
  subst hv2
  have HB3 := Lib.hid (HB2.out.grown hgrow3 hs2 (fun k hk => (hown.lt k hk).1))
  rw [u8s_app] at hown3
  have hlen : (la ++ lb).length = na + nb := by rw [List.length_append, HX.out.len, HL2.out.len]
  rw [← hlen] at hown3
  have HWH := Lib.hid (At.own hown3)
  rw [hlen] at HWH
  have hfw : fit (la ++ lb) := fit_app HX.out.fit HY.out.fit
  obtain ⟨r, hr⟩ : ∃ r, r = crc (la ++ lb) := ⟨_, rfl⟩
  have HR := Lib.hid hr
  have C0 := Lib.hid (refCheck_any (la ++ lb) _ w3 HWH.out hfw (by rw [hlen]; omega))
  rw [← hr] at C0
  have HLEN := Lib.hid hlen
  have HFW := Lib.hid hfw
  clear hown hown3 hgrow3 hs2 HL2 HB2 hlen hfw hr
  go_wp2_with fail
  refine C0.out.mono ?_
  rintro e _ ⟨rfl, rfl⟩
  clear C0
  go_wp2_with fail
  refine (check2 (HX.out.below HB3.out).here (HY.out.below HB3.out).here HX.out.fit HY.out.fit (by rw [HX.out.len, HY.out.len]; omega) _ rfl).mono ?_
  rintro e _ ⟨rfl, rfl⟩
  rw [← HR.out]
  have hb := Lib.hid (HB3.out.alloc HB3.out.size (.cells #[.slice aa na ca, .slice ab nb cb] 22))
  have hw := Lib.hid (HWH.out.below (bl_al (Below.refl _ _) (.cells #[.slice aa na ca, .slice ab nb cb] 22)))
  obtain ⟨x0, hx0⟩ : ∃ X, X = w3.alloc (.cells #[.slice aa na ca, .slice ab nb cb] 22) := ⟨_, rfl⟩
  rw [← hx0] at hb hw
  rw [← hx0]
  clear hx0 HB3 HWH
  go_wp2_with fail
  refine (check1 hw.out HFW.out (by rw [HLEN.out]; omega) _ rfl).mono ?_
  rintro e _ ⟨rfl, rfl⟩
  rw [← HR.out]
  have hb1 := Lib.hid (hb.out.alloc hb.out.size (.cells #[.slice a2 (na + nb) c2] 22))
  have hw1 := Lib.hid (hw.out.below (bl_al (Below.refl _ _) (.cells #[.slice a2 (na + nb) c2] 22)))
  obtain ⟨x1, hx1⟩ : ∃ X, X = x0.alloc (.cells #[.slice a2 (na + nb) c2] 22) := ⟨_, rfl⟩
  rw [← hx1] at hb1 hw1
  rw [← hx1]
  clear hx1 hb hw
  go_wp2_with fail
  refine (check3 hw1.out HFW.out (by rw [HLEN.out]; omega) _ rfl).mono ?_
  rintro e _ ⟨rfl, rfl⟩
  rw [← HR.out]
  go_wp2
  go_ret
  exact ⟨rfl, hb1.out.alloc hb1.out.size _⟩

theorem checks_any (la lb : List Int) (aa ab : Option Addr) (na nb ca cb : Nat) (w : World) (hA : In w aa na ca la) (hB : In w ab nb cb lb) (h1 : na ≤ maxLen) (h2 : nb ≤ maxLen) :
    Calls Try.prog 5 #[.slice aa na ca, .slice ab nb cb] w fun e w' => e = .returned (.bool true) ∧ Below w.heap.size w w' := by
  by_cases h : 65536 < na ∨ 65536 < nb
  · exact checks_none aa ab na nb ca cb w h h1 h2
  · exact checks_some la lb aa ab na nb ca cb w hA hB (by omega) (by omega)
end Go.Proofs.Ytjmpmegodhglcaa
