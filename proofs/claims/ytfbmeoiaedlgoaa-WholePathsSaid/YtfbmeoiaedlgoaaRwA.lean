/- Contracts of rewrite's word, put, change, changeAddr: a row of the call's own with words changed, and sums changed by them. Conditions: the places lie in the row. -/
import Derived.Test.YtfbmeoiaedlgoaaUpA
import Derived.Test.YtfbmeoiaedlgoaaPkP
import Derived.Test.YtfbmeoiaedlgoaaBlD
namespace Go.Proofs.Ytfbmeoiaedlgoaa
open Go Go.RowKit
set_option linter.unusedVariables false
set_option linter.unusedSimpArgs false

/-- Word I becomes v. -/
def setW (l : List Int) (I : Nat) (v : Int) : List Int := setw l I (v / 256 % 256) (v % 256)
theorem setW_len (l : List Int) (I : Nat) (v : Int) : (setW l I v).length = l.length := setw_len _ _ _ _
theorem fit_setW {l : List Int} (h : fit l) (I : Nat) (v : Int) : fit (setW l I v) := fit_setw h I (by omega) (by omega)
/-- The sums at these words changed by a word that changes. -/
def fixs (l : List Int) (p : Int × Int) (Js : List Nat) : List Int := Js.foldl (fun L J => setW L J (up (wordAt L J) p)) l
def chg (l : List Int) (I : Nat) (v : Int) (Js : List Nat) : List Int := fixs (setW l I v) (wordAt l I, v) Js
theorem fixs_len (p : Int × Int) : ∀ (Js : List Nat) (l : List Int), (fixs l p Js).length = l.length
  | [], _ => rfl
  | J :: Js, l => by
    show (fixs (setW l J (up (wordAt l J) p)) p Js).length = _
    rw [fixs_len p Js, setW_len]
theorem fit_fixs (p : Int × Int) : ∀ (Js : List Nat) {l : List Int}, fit l → fit (fixs l p Js)
  | [], _, h => h
  | J :: Js, l, h => fit_fixs p Js (fit_setW h J _)
theorem chg_len (l : List Int) (I : Nat) (v : Int) (Js : List Nat) : (chg l I v Js).length = l.length := by
  unfold chg
  rw [fixs_len, setW_len]
theorem fit_chg {l : List Int} (h : fit l) (I : Nat) (v : Int) (Js : List Nat) : fit (chg l I v Js) := fit_fixs _ _ (fit_setW h I v)
theorem fixs_snoc (l : List Int) (p : Int × Int) (Js : List Nat) (J : Nat) : fixs l p (Js ++ [J]) = setW (fixs l p Js) J (up (wordAt (fixs l p Js) J) p) := by
  unfold fixs
  rw [List.foldl_append]
  rfl

theorem or_word {x y : Int} (a0 : 0 ≤ x) (a1 : x < 256) (b0 : 0 ≤ y) (b1 : y < 256) : bits .or .u16 (x * 256) y = 256 * x + y := by
  rw [u16_or _ _ (by omega) (by omega) (by omega) (by omega), nat_join 8 _ _ (by omega) (by omega)]
  omega
set_option maxRecDepth 100000 in
theorem word_any (B g cap N I : Nat) (l : List Int) (W : Int) (hW : W = ((2 * I : Nat) : Int)) (w : World) (hO : Own w B g cap N l) (hf : fit l) (hI : 2 * I + 1 < N) (hb : N ≤ 1048576) :
    Calls Try.prog 61 #[.slice (some ⟨g, 0, none⟩) N cap, .int .i64 W] w fun e w' => e = .returned (.int .u16 (wordAt l I)) ∧ ∃ k, w' = w.drewN k := by
  subst hW
  obtain ⟨c0, c1, _, _⟩ := hO.word hI
  have f0 := fit_at hf (j := 2 * I) (by rw [hO.2.1]; omega)
  have f1 := fit_at hf (j := 2 * I + 1) (by rw [hO.2.1]; omega)
  have HV : Hid (wordAt l I = 256 * l.getD (2 * I) 0 + l.getD (2 * I + 1) 0) := Lib.hid rfl
  obtain ⟨x, hx⟩ : ∃ x, x = l.getD (2 * I) 0 := ⟨_, rfl⟩
  obtain ⟨y, hy⟩ : ∃ y, y = l.getD (2 * I + 1) 0 := ⟨_, rfl⟩
  rw [← hx] at c0 f0 HV
  rw [← hy] at c1 f1 HV
  obtain ⟨z, hz⟩ : ∃ z, z = wordAt l I := ⟨_, rfl⟩
  rw [← hz] at HV
  rw [← hz]
  obtain ⟨a0, a1⟩ := f0
  obtain ⟨b0, b1⟩ := f1
  obtain ⟨J, hJ⟩ : ∃ J, J = 2 * I := ⟨_, rfl⟩
  rw [← hJ] at c0 c1 hI
  rw [← hJ]
  have v4 : IntKind.i64.wrap ((J : Int) + 1) = ((J + 1 : Nat) : Int) := by rw [IntWalk.i64_in _ (by omega)]; omega
  have i0 : (J : Int) < (N : Int) := by omega
  have i1 : ((J + 1 : Nat) : Int) < (N : Int) := by omega
  have hor : bits .or .u16 (x * 256) y = 256 * x + y := or_word a0 a1 b0 b1
  clear hx hy hz hO hf hJ
  go_enter Try.func61, Try.ntmps61
  go_wp2
  go_quiet (fail)
  go_wp2
  go_ret
  exact ⟨by rw [HV.out]; rfl, _, rfl⟩

set_option maxRecDepth 100000 in
theorem rput_any (B g cap N I : Nat) (l : List Int) (W v : Int) (hW : W = ((2 * I : Nat) : Int)) (hv : w16 v) (w : World) (hO : Own w B g cap N l) (hI : 2 * I + 1 < N) (hb : N ≤ 1048576) :
    Calls Try.prog 62 #[.slice (some ⟨g, 0, none⟩) N cap, .int .i64 W, .int .u16 v] w fun e w' => e = .returned (.tuple #[]) ∧ Own w' B g cap N (setW l I v) ∧ w.grownBy w' (some g) := by
  subst hW
  obtain ⟨c0, c1, f0, f1⟩ := hO.word hI
  have HO := Lib.hid hO
  obtain ⟨v0, v1⟩ := hv
  have k1 : IntKind.u8.wrap (v / 256) = v / 256 % 256 := IntKind.wrap_u8' _
  have k2 : IntKind.u8.wrap v = v % 256 := IntKind.wrap_u8' _
  have HP : Hid (Own ((w.setCell ⟨g, 2 * I, none⟩ (.int .u8 (v / 256 % 256))).setCell ⟨g, 2 * I + 1, none⟩ (.int .u8 (v % 256))) B g cap N (setW l I v)) := Lib.hid (hO.put I _ _)
  obtain ⟨x, hx⟩ : ∃ x, x = v / 256 % 256 := ⟨_, rfl⟩
  obtain ⟨y, hy⟩ : ∃ y, y = v % 256 := ⟨_, rfl⟩
  rw [← hx, ← hy] at HP
  rw [← hx] at k1
  rw [← hy] at k2
  have HG : Hid (w.grownBy ((w.setCell ⟨g, 2 * I, none⟩ (.int .u8 x)).setCell ⟨g, 2 * I + 1, none⟩ (.int .u8 y)) (some g)) := Lib.hid ((grown_set w g (2 * I) _).trans (grown_set _ g (2 * I + 1) _))
  obtain ⟨J, hJ⟩ : ∃ J, J = 2 * I := ⟨_, rfl⟩
  rw [← hJ] at c0 c1 f0 f1 hI HP HG
  rw [← hJ]
  have i0 : (J : Int) < (N : Int) := by omega
  have i1 : ((J + 1 : Nat) : Int) < (N : Int) := by omega
  clear hx hy hO hJ
  go_enter Try.func62, Try.ntmps62
  go_wp2
  go_end0
  exact ⟨rfl, HP.out, HG.out⟩
theorem grown_below {w w' : World} (h : Below w.heap.size w w') (row : Option Nat) : w.grownBy w' row := ⟨h.os, h.tape, h.output, h.size, fun k hk _ => h.block k hk⟩
theorem grown_drewN (w : World) (k : Nat) (row : Option Nat) : w.grownBy (w.drewN k) row := grown_below (below_drewN (Below.refl _ _) k) row
theorem below_of {B : Nat} {w w' : World} {g : Nat} (h : w.grownBy w' (some g)) (hB : B ≤ w.heap.size) (hg : B ≤ g) : Below B w w' := (Below.refl B w).grown h hB (fun k hk => by cases hk; exact hg)
theorem wordAt_w16 {l : List Int} (hf : fit l) {I N : Nat} (hN : l.length = N) (h : 2 * I + 1 < N) : w16 (wordAt l I) := wordAt_fit hf (by rw [hN]; exact h)
theorem up_w16 {c m n : Int} (hc : w16 c) (hm : w16 m) (hn : w16 n) : w16 (up c (m, n)) := up_fits hc ⟨hm, hn⟩

set_option maxRecDepth 100000 in
set_option maxHeartbeats 1000000 in
theorem change_any (B g cap N I x K : Nat) (l : List Int) (W v : Int) (Js : List Nat) (hW : W = ((2 * I : Nat) : Int)) (hv : w16 v) (w : World) (hO : Own w B g cap N l) (hf : fit l) (hI : 2 * I + 1 < N) (hb : N ≤ 1048576)
    (hK : Js.length = K) (hK4 : K ≤ 16) (hJ : ∀ J ∈ Js, 2 * J + 1 < N) (hc : ∀ j J, Js[j]? = some J → w.cell? ⟨x, 0 + j, none⟩ = some (.int .i64 ((2 * J : Nat) : Int))) (hx : x ≠ g) :
    Calls Try.prog 60 #[.slice (some ⟨g, 0, none⟩) N cap, .int .i64 W, .int .u16 v, .slice (some ⟨x, 0, none⟩) K K] w fun e w' => e = .returned (.tuple #[]) ∧ Own w' B g cap N (chg l I v Js) ∧ w.grownBy w' (some g) := by
  have hm16 := wordAt_w16 hf hO.2.1 hI
  obtain ⟨m, hm⟩ : ∃ m, m = wordAt l I := ⟨_, rfl⟩
  have HCH : Hid (chg l I v Js = fixs (setW l I v) (m, v) Js) := Lib.hid (by rw [hm]; rfl)
  have C1 := Lib.hid (word_any B g cap N I l W hW w hO hf hI hb)
  rw [← hm] at C1 hm16
  have C2 : Hid (∀ k, Calls Try.prog 62 #[.slice (some ⟨g, 0, none⟩) N cap, .int .i64 W, .int .u16 v] (w.drewN k) fun e w' => e = .returned (.tuple #[]) ∧ Own w' B g cap N (setW l I v) ∧ (w.drewN k).grownBy w' (some g)) := Lib.hid (fun k => rput_any B g cap N I l W v hW hv (w.drewN k) (hO.drewN k) hI hb)
  have HF := Lib.hid (fit_setW hf I v)
  have HV := Lib.hid hv
  have HM := Lib.hid hm16
  have HJ := Lib.hid hJ
  have HC := Lib.hid hc
  have HK := Lib.hid hK
  have HX := Lib.hid hx
  clear hm hW hO hf hI hv hm16 hJ hc hK hx
  go_enter Try.func60, Try.ntmps60
  go_wp2_with fail
  refine C1.out.mono ?_
  rintro e w1 ⟨rfl, k1, rfl⟩
  go_wp2_with fail
  refine (C2.out k1).mono ?_
  rintro e w2 ⟨rfl, ho2, hg2⟩
  have HO2 := Lib.hid ho2
  have HG2 := Lib.hid ((grown_drewN w k1 (some g)).trans hg2)
  clear ho2 hg2 C1 C2
  go_wp2
  go_loopw [20] (fun i wr => ∃ (k : Nat) (L : List Int), k ≤ K ∧ i = .int .i64 k ∧ Hid (L = fixs (setW l I v) (m, v) (Js.take k)) ∧ Hid (Own wr B g cap N L) ∧ Hid (w.grownBy wr (some g))) (fun i _ => K - (intOf i).toNat)
  case atStart => exact ⟨0, _, by omega, rfl, Lib.hid rfl, HO2, HG2⟩
  case round =>
    obtain ⟨k, L, hk, rfl, hL, hO, hG⟩ := hrel
    by_cases hlt : k < K
    · obtain ⟨J, hJk⟩ : ∃ J, Js[k]? = some J := ⟨_, List.getElem?_eq_getElem (by rw [HK.out]; exact hlt)⟩
      have hcell := hG.out.cell (HC.out k J hJk) (by simp; exact HX.out)
      rw [Nat.zero_add] at hcell
      have hJN := HJ.out J (List.mem_of_getElem? hJk)
      have hfL : fit L := by rw [hL.out]; exact fit_fixs _ _ HF.out
      have HL1 : Hid (setW L J (up (wordAt L J) (m, v)) = fixs (setW l I v) (m, v) (Js.take (k + 1))) := Lib.hid (by rw [List.take_add_one, hJk, hL.out, Option.toList_some, fixs_snoc])
      obtain ⟨z, hz⟩ : ∃ z : Int, z = ((2 * J : Nat) : Int) := ⟨_, rfl⟩
      rw [← hz] at hcell
      have hu16 := up_w16 (wordAt_w16 hfL hO.out.2.1 hJN) HM.out HV.out
      have hw16 := wordAt_w16 hfL hO.out.2.1 hJN
      have D1 := Lib.hid (word_any B g cap N J L z hz wr hO.out hfL hJN hb)
      obtain ⟨y, hy⟩ : ∃ y, y = wordAt L J := ⟨_, rfl⟩
      rw [← hy] at D1 HL1 hu16 hw16
      have D2 : Hid (∀ X : World, Calls Try.prog 70 #[.int .u16 y, .slice (some ⟨X.heap.size, 0, none⟩) 1 1] (X.alloc (.cells #[.int .u16 m, .int .u16 v] 105)) fun e w' => e = .returned (.int .u16 (up y (m, v))) ∧ Below (X.alloc (.cells #[.int .u16 m, .int .u16 v] 105)).heap.size (X.alloc (.cells #[.int .u16 m, .int .u16 v] 105)) w') := Lib.hid (fun X => by
        have H := update_any y [(m, v)] _ _ hw16 (Prs.one X m v 105 X.heap.size rfl) (by unfold fit2; simp; exact ⟨HM.out, HV.out⟩) (by simp)
        exact H)
      obtain ⟨u, hu⟩ : ∃ u, u = up y (m, v) := ⟨_, rfl⟩
      rw [← hu] at D2 HL1 hu16
      have D3 : Hid (∀ X : World, Own X B g cap N L → Calls Try.prog 62 #[.slice (some ⟨g, 0, none⟩) N cap, .int .i64 z, .int .u16 u] X fun e w' => e = .returned (.tuple #[]) ∧ Own w' B g cap N (setW L J u) ∧ X.grownBy w' (some g)) := Lib.hid (fun X hX => rput_any B g cap N J L z u hz hu16 X hX hJN hb)
      clear hu hy hz hu16 hw16 hfL hJN hJk hL
      go_wp2_with fail
      refine D1.out.mono ?_
      rintro e w3 ⟨rfl, k3, rfl⟩
      go_wp2_with fail
      refine (D2.out _).mono ?_
      rintro e w4 ⟨rfl, hb4⟩
      have HO4 := Lib.hid (((hO.out.drewN k3).alloc _).below hb4)
      have HG4 := Lib.hid (((hG.out.trans (grown_drewN wr k3 _)).trans (World.grownBy_alloc _ _ _)).trans (grown_below hb4 _))
      clear hb4
      go_wp2_with fail
      refine (D3.out _ HO4.out).mono ?_
      rintro e w5 ⟨rfl, ho5, hg5⟩
      have HO5 := Lib.hid ho5
      have HG5 := Lib.hid (HG4.out.trans hg5)
      clear ho5 hg5
      go_wp2
      go_roundw
      case rel => exact ⟨k + 1, _, by omega, by go_num, HL1, HO5, HG5⟩
      case measure => simp [intOf]; omega
    · have e : Js.take k = Js := List.take_of_length_le (by rw [HK.out]; omega)
      rw [e] at hL
      have HE : Hid (Own wr B g cap N (chg l I v Js)) := Lib.hid (by rw [HCH.out, ← hL.out]; exact hO.out)
      clear e
      go_wp2
      go_end0
      exact ⟨rfl, HE.out, hG.out⟩

set_option maxRecDepth 100000 in
set_option maxHeartbeats 1000000 in
theorem changeAddr_any (B g cap N I x K : Nat) (l : List Int) (W s : Int) (Js : List Nat) (hW : W = ((2 * I : Nat) : Int)) (hs : 0 ≤ s ∧ s < 4294967296) (w : World) (hO : Own w B g cap N l) (hf : fit l) (hI : 2 * I + 3 < N) (hb : N ≤ 1048576)
    (hK : Js.length = K) (hK4 : K ≤ 16) (hJ : ∀ J ∈ Js, 2 * J + 1 < N) (hc : ∀ j J, Js[j]? = some J → w.cell? ⟨x, 0 + j, none⟩ = some (.int .i64 ((2 * J : Nat) : Int))) (hx : x ≠ g) :
    Calls Try.prog 59 #[.slice (some ⟨g, 0, none⟩) N cap, .int .i64 W, .int .u32 s, .slice (some ⟨x, 0, none⟩) K K] w fun e w' => e = .returned (.tuple #[]) ∧ Own w' B g cap N (chg (chg l I (s / 65536) Js) (I + 1) (s % 65536) Js) ∧ w.grownBy w' (some g) := by
  obtain ⟨s0, s1⟩ := hs
  have k1 : IntKind.u16.wrap (s / 65536) = s / 65536 := by rw [IntKind.wrap_u16]; omega
  have k2 : IntKind.u16.wrap s = s % 65536 := IntKind.wrap_u16 _
  have C1 := Lib.hid (change_any B g cap N I x K l W (s / 65536) Js hW (by unfold w16; omega) w hO hf (by omega) hb hK hK4 hJ hc hx)
  have hW2 : W + 2 = ((2 * (I + 1) : Nat) : Int) := by omega
  have C2 : Hid (∀ X, Own X B g cap N (chg l I (s / 65536) Js) → w.grownBy X (some g) → Calls Try.prog 60 #[.slice (some ⟨g, 0, none⟩) N cap, .int .i64 (W + 2), .int .u16 (s % 65536), .slice (some ⟨x, 0, none⟩) K K] X fun e w' => e = .returned (.tuple #[]) ∧ Own w' B g cap N (chg (chg l I (s / 65536) Js) (I + 1) (s % 65536) Js) ∧ X.grownBy w' (some g)) :=
    Lib.hid (fun X hX hg => change_any B g cap N (I + 1) x K _ (W + 2) (s % 65536) Js hW2 (by unfold w16; omega) X hX (fit_chg hf _ _ _) (by omega) hb hK hK4 hJ (fun j J h => hg.cell (hc j J h) (by simp; exact hx)) hx)
  have hW3 : 0 ≤ W := by omega
  have hW4 : W ≤ 1048576 := by omega
  obtain ⟨y, hy⟩ : ∃ y, y = s / 65536 := ⟨_, rfl⟩
  obtain ⟨z, hz⟩ : ∃ z, z = s % 65536 := ⟨_, rfl⟩
  rw [← hy] at k1 C1 C2
  rw [← hz] at k2 C2
  rw [← hy, ← hz]
  have ky : s / 65536 = y := hy.symm
  clear hO hf hW hW2 hI hK hJ hc hx hy hz
  go_enter Try.func59, Try.ntmps59
  go_wp2_with fail
  refine C1.out.mono ?_
  rintro e w1 ⟨rfl, ho, hg⟩
  have HO := Lib.hid ho
  have HG := Lib.hid hg
  clear ho hg
  go_wp2_with fail
  refine (C2.out w1 HO.out HG.out).mono ?_
  rintro e w2 ⟨rfl, ho, hg⟩
  have HO2 := Lib.hid ho
  have HG2 := Lib.hid (HG.out.trans hg)
  clear ho hg
  go_wp2
  go_end0
  exact ⟨rfl, HO2.out, HG2.out⟩
end Go.Proofs.Ytfbmeoiaedlgoaa
