/- Contracts of the document's joined and Sum. Conditions: the rows came in; at most 2^32 bytes, at most 2^20 rows. -/
import Derived.Test.YtfbmeoiaedlgoaaNumA
import Derived.Deep.CutRange
namespace Go.Proofs.Ytfbmeoiaedlgoaa
open Go Go.RowKit
set_option linter.unusedVariables false
set_option linter.unusedSimpArgs false

/-- Rows that came in, in a row. -/
def PIn (w : World) (v : Value) (ps : List (List Int)) : Prop :=
  ∃ a cap, v = .slice a ps.length cap ∧ (ps = [] ∨ ∃ b off, a = some ⟨b, off, none⟩ ∧ ∀ j p, ps[j]? = some p → ∃ a n c, w.cell? ⟨b, off + j, none⟩ = some (.slice a n c) ∧ In w a n c p)

set_option maxRecDepth 100000 in
theorem joined_any (ps : List (List Int)) (v : Value) (w : World) (hP : PIn w v ps) (hl : ps.flatten.length ≤ 4294967296) (hn0 : ps.length ≤ 1048576) :
    Calls Try.prog 47 #[v] w fun e w' => ∃ a0 c0, e = .returned (.slice a0 ps.flatten.length c0) ∧ w'.ownsRow w.heap.size 5 1 (.slice a0 ps.flatten.length c0) ps.flatten.length (u8s ps.flatten) ∧ Below w.heap.size w w' := by
  obtain ⟨i0, hi0, hz0, hz1, hz2⟩ := info_parts info5
  obtain ⟨a, cap, rfl, hP⟩ := hP
  have HP := Lib.hid hP
  have HL := Lib.hid hl
  obtain ⟨n, hn⟩ : ∃ n, n = ps.length := ⟨_, rfl⟩
  rw [← hn] at hn0
  rw [← hn]
  have HN := Lib.hid hn
  clear hP hl hn
  go_enter Try.func47, Try.ntmps47
  go_wp2
  go_loopw [3, 4] (fun v i wr => ∃ (k m : Nat), k ≤ n ∧ i = .int .i64 k ∧ Hid (m = (ps.take k).flatten.length) ∧ Hid (∃ a0 c0, v = .slice a0 m c0 ∧ wr.ownsRow w.heap.size 5 1 v m (u8s (ps.take k).flatten)) ∧ Hid (Below w.heap.size w wr)) (fun _ i _ => n - (intOf i).toNat)
  case atStart => exact ⟨0, 0, by omega, rfl, Lib.hid rfl, Lib.hid ⟨_, _, rfl, World.ownsRow_nil _ _ _ _⟩, Lib.hid (Below.refl _ _)⟩
  case round =>
    obtain ⟨k, m, hk, rfl, hM, hO, hB⟩ := hrel
    obtain ⟨a0, c0, rfl, hown⟩ := hO.out
    by_cases hlt : k < n
    · obtain ⟨p, hp⟩ : ∃ p, ps[k]? = some p := ⟨_, List.getElem?_eq_getElem (by rw [← HN.out]; exact hlt)⟩
      rcases HP.out with h0 | ⟨b, off, rfl, hc⟩
      · rw [h0] at hp; simp at hp
      obtain ⟨a1, n1, c1, hu, hI⟩ := hc k p hp
      have hu1 := cell_later hB.out hu
      have HI := Lib.hid (hI.below hB.out)
      have hlp := len_pre hp
      have h1 := hlp.1
      have h2 := HL.out
      have h3 := hM.out
      have h4 := HI.out.len
      have hm1 : m + n1 ≤ 4294967296 := by omega
      have HM1 : Hid (m + n1 = (ps.take (k + 1)).flatten.length) := Lib.hid (by rw [hlp.2, List.length_append]; omega)
      have HF1 : Hid (u8s (ps.take k).flatten ++ u8s p = u8s (ps.take (k + 1)).flatten) := Lib.hid (by rw [hlp.2, u8s_app])
      have hs := hB.out.size
      have HLT := Lib.hid (fun j hj => (hown.lt j hj).1)
      clear hc hp hu hI hlp h1 h2 h3 h4 hO
      go_wp2_with (first | (at_builtin; refine append_any rfl (.tmp 11) (.tmp 15) 24 rfl w.heap.size 5 i0 (.int .u8 0) 1 1 Try.underlying24 hi0 hz0 hz1 hz2 rfl (by decide) _ m (u8s (ps.take k).flatten) rfl hown a1 n1 c1 (u8s p) rfl HI.out.zero ?c1 HI.out.cells (u8s_one p) ?c2 ?c3 ?c4 ?_))
      case c1 => unfold u8s; rw [List.length_map, HI.out.len]; omega
      case c2 => unfold maxLen; omega
      case c3 => omega
      case c4 => exact hs
      intro v2 w2 hown2 hgrow
      have HB2 := Lib.hid (hB.out.grown hgrow hs HLT.out)
      obtain ⟨a2, c2, hv2⟩ := own_form hown2
      rw [hv2] at hown2
      rw [hv2]
      rw [HF1.out] at hown2
      have HO2 := Lib.hid hown2
      clear hown hown2 hgrow HLT hs hB
      go_wp2
      go_roundw
      case rel => exact ⟨k + 1, m + n1, by omega, by go_num, HM1, Lib.hid ⟨_, _, rfl, HO2.out⟩, HB2⟩
      case measure => simp [intOf]; omega
    · have e : ps.take k = ps := List.take_of_length_le (by rw [← HN.out]; omega)
      rw [e] at hM hown
      have hm := hM.out
      have HO := Lib.hid hown
      clear e hown hO
      go_wp2
      go_ret
      exact ⟨a0, c0, by rw [← hm]; rfl, by rw [← hm]; exact HO.out, hB.out⟩

/-- Behind an odd number of bytes a 0. -/
def even (l : List Int) : List Int := if l.length % 2 = 1 then l ++ [0] else l
theorem ws_even (l : List Int) : ws (even l) = ws l := by
  unfold even
  split
  · rw [ws_more, if_neg (by omega)]
    omega
  · rfl
theorem even_len (l : List Int) : (even l).length % 2 = 0 := by
  unfold even
  split
  · rw [List.length_append, List.length_singleton]; omega
  · omega
theorem fit_even {l : List Int} (h : fit l) : fit (even l) := by
  unfold even
  split
  · exact fit_app h (by unfold fit; simp)
  · exact h
theorem ws_two (l : List Int) (k : Nat) (hk : k % 2 = 0) (h : k + 1 < l.length) : ws (l.take (k + 2)) = ws (l.take k) + (256 * l.getD k 0 + l.getD (k + 1) 0) := by
  rw [take_more l 0 (by omega), take_more l 0 (by omega), List.append_assoc, ws_app_even _ _ (by rw [List.length_take]; omega)]
  simp [ws]

set_option maxRecDepth 100000 in
theorem refSum_any (ps : List (List Int)) (v : Value) (w : World) (hP : PIn w v ps) (hf : fit ps.flatten) (hl : ps.flatten.length ≤ 4294967295) (hn0 : ps.length ≤ 1048576) :
    Calls Try.prog 32 #[v] w fun e w' => e = .returned (.int .u16 (65535 - car (ws ps.flatten))) ∧ Below w.heap.size w w' := by
  obtain ⟨i0, hi0, hz0, hz1, hz2⟩ := info_parts info5
  have JC := Lib.hid (joined_any ps v w hP (by omega) hn0)
  obtain ⟨a, cap, rfl, _⟩ := hP
  obtain ⟨L, hL⟩ : ∃ L, L = ps.flatten := ⟨_, rfl⟩
  rw [← hL] at JC hf hl
  rw [← hL]
  obtain ⟨m, hm⟩ : ∃ m, m = L.length := ⟨_, rfl⟩
  rw [← hm] at JC hl
  have HM := Lib.hid hm
  have HF := Lib.hid hf
  obtain ⟨pn, hpn⟩ : ∃ pn, pn = ps.length := ⟨_, rfl⟩
  rw [← hpn] at JC
  rw [← hpn]
  clear hm hf hL hpn hn0
  go_enter Try.func32, Try.ntmps32
  go_wp2_with fail
  refine JC.out.mono ?_
  rintro e w1 ⟨a0, c0, rfl, hown, hb⟩
  have HO := Lib.hid hown
  have HB := Lib.hid hb
  clear hown hb JC
  go_upto_if 11 with fail
  go_cut [3] from 8 to 14 (fun v wx => ∃ a1 c1, v = .slice a1 (even L).length c1 ∧ Hid (wx.ownsRow w.heap.size 5 1 (.slice a1 (even L).length c1) (even L).length (u8s (even L))) ∧ Hid (Below w.heap.size w wx))
  case first =>
    have hs := HB.out.size
    by_cases ho : m % 2 = 1
    · have ho' : (m : Int) % 2 = 1 := by omega
      have HE : Hid (even L = L ++ [0]) := Lib.hid (by unfold even; rw [← HM.out, if_pos ho])
      clear ho
      go_wp2_with (first | (at_builtin; refine wpList_append_own _ rfl (.tmp 12) (.tmp 13) 24 rfl w.heap.size 5 i0 (.int .u8 0) 1 1 Try.underlying24 hi0 hz0 hz1 hz2 rfl (by decide) _ m (u8s L) rfl (HO.out.alloc _) ⟨w1.heap.size, 0, none⟩ 1 1 [.int .u8 0] rfl rfl ?c1 ?c2 ?c3 ?c4 ?c5 ?_))
      case c1 => exact cell_one_new _ _ _
      case c2 => intro u hu; simp at hu; subst hu; rfl
      case c3 => unfold maxLen; omega
      case c4 => omega
      case c5 => simp; omega
      intro v2 w2 hown2 hgrow _
      have HB2 := Lib.hid ((HB.out.alloc hs (.cells #[.int .u8 0] 5)).grown hgrow (by simp; omega) (fun k hk => (HO.out.lt k hk).1))
      obtain ⟨a2, c2, hv2⟩ := own_form hown2
      rw [hv2] at hown2
      rw [hv2]
      rw [show ([Value.int .u8 0]) = u8s [0] from rfl, u8s_app, ← HE.out, show m + 1 = (even L).length by rw [HE.out, HM.out]; simp] at hown2
      have HO2 := Lib.hid hown2
      clear hown2 hgrow
      have hme : m + 1 = (even L).length := by rw [HE.out, HM.out]; simp
      rw [hme]
      go_wp2
      go_meet
      exact ⟨a2, c2, rfl, HO2, HB2⟩
    · have ho' : (m : Int) % 2 = 0 := by omega
      have HE : Hid (even L = L) := Lib.hid (by unfold even; rw [← HM.out, if_neg ho])
      clear ho
      go_wp2
      go_meet
      exact ⟨a0, c0, by rw [HE.out, HM.out], by rw [HE.out, ← HM.out]; exact HO, HB⟩
  case rest =>
    obtain ⟨a1, c1, rfl, hO, hB⟩ := hcut
    have hE2 := even_len L
    have HFE := Lib.hid (fit_even HF.out)
    have HWE := Lib.hid (ws_even L)
    have hEl : (even L).length ≤ 4294967296 := by
      have := HM.out
      unfold even
      split
      · rw [List.length_append, List.length_singleton]; omega
      · omega
    obtain ⟨E, hE⟩ : ∃ E, E = even L := ⟨_, rfl⟩
    rw [← hE] at hO hE2 HFE HWE hEl
    rw [← hE]
    have HA := Lib.hid (At.own hO.out)
    obtain ⟨N, hN⟩ : ∃ N, N = E.length := ⟨_, rfl⟩
    rw [← hN] at hO hE2 hEl HA
    rw [← hN]
    have HN := Lib.hid hN
    have HBC := Lib.hid hB.out.size
    clear hE hN hO HO HB HM HF
    go_wp2
    go_loopw [4, 5] (fun t i wr => ∃ (j : Nat) (s : Int), j ≤ N ∧ j % 2 = 0 ∧ i = .int .i64 j ∧ t = .int .u64 s ∧ Hid (s = ws (E.take j)) ∧ Hid (Below wc.heap.size wc wr)) (fun _ i _ => N - (intOf i).toNat)
    case atStart => exact ⟨0, 0, by omega, rfl, rfl, rfl, Lib.hid rfl, Lib.hid (Below.refl _ _)⟩
    case round =>
      obtain ⟨j, s, hj, hj2, rfl, rfl, hS, hBr⟩ := hrel
      have hsb := ws_fits (E.take j) (fit_take HFE.out j)
      rw [← hS.out, List.length_take] at hsb
      obtain ⟨s0, s1⟩ := hsb
      have hs1 : s ≤ 280379743338240 := by
        have : min j E.length ≤ 4294967296 := by have := HN.out; omega
        omega
      clear s1
      by_cases hlt : j < N
      · obtain ⟨a', cap', e0, hA⟩ := HA.out
        cases e0
        rcases hA with h0 | ⟨b, off, rfl, hc⟩
        · have := congrArg List.length h0; rw [List.length_nil] at this; omega
        have h1 : j + 1 < E.length := by have := HN.out; omega
        have e1 := cell_later hBr.out (hc j (by omega))
        have e2 := cell_later hBr.out (hc (j + 1) h1)
        have hx := fit_at HFE.out (j := j) (by omega)
        have hy := fit_at HFE.out h1
        have h2 := ws_two E j hj2 h1
        obtain ⟨x, hxv⟩ : ∃ x, x = E.getD j 0 := ⟨_, rfl⟩
        obtain ⟨y, hyv⟩ : ∃ y, y = E.getD (j + 1) 0 := ⟨_, rfl⟩
        rw [← hxv] at e1 hx h2
        rw [← hyv] at e2 hy h2
        have HS2 : Hid (s + 256 * x + y = ws (E.take (j + 2))) := Lib.hid (by rw [h2, hS.out]; omega)
        obtain ⟨x0, x1⟩ := hx
        obtain ⟨y0, y1⟩ := hy
        clear hxv hyv hc h1 h2 hS
        go_wp2
        go_quiet (fail)
        go_wp2
        go_roundw
        case rel => exact ⟨j + 2, _, by omega, by omega, by go_num, rfl, HS2, Lib.hid (below_drewN hBr.out _)⟩
        case measure => simp [intOf]; omega
      · have hje : E.take j = E := List.take_of_length_le (by have := HN.out; omega)
        have HS3 : Hid (s = ws L) := Lib.hid (by rw [hS.out, hje, HWE.out])
        obtain ⟨f0, f1⟩ := car_fits s0
        have C := Lib.hid (fun w => carried_any s s0 (by omega) w)
        have HB3 := Lib.hid (hB.out.trans (hBr.out.mono HBC.out))
        clear hje hS
        go_wp2_with (go_at_call 48; refine (C.out _).mono ?_; rintro e w5 ⟨rfl, rfl⟩)
        go_ret
        exact ⟨by rw [← HS3.out]; rfl, HB3.out⟩
end Go.Proofs.Ytfbmeoiaedlgoaa
