/- Contract of bears: true. Conditions: the row's cells hold bytes, the numbers fit their kinds. -/
import Derived.Test.YtjmpmegodhglcaaB2
import Derived.Deep.CutRange
namespace Go.Proofs.Ytjmpmegodhglcaa
open Go Go.RowKit

set_option maxRecDepth 100000 in
theorem bears_none (n : Nat) (a : Option Addr) (cap : Nat) (i j d : Int) (w : World) (h : n / 2 < 2 ∨ 40000 < n / 2) (hn : n ≤ maxLen) :
    Calls Try.prog 19 #[.slice a n cap, .int .i64 i, .int .i64 j, .int .u16 d] w fun e w' => e = .returned (.bool true) ∧ Below w.heap.size w w' := by
  unfold maxLen at hn
  by_cases h0 : n / 2 < 2
  · have h0' : (n : Int) / 2 < 2 := by omega
    clear h h0
    go_enter Try.func19, Try.ntmps19
    go_wp2_with (go_at_call 9; refine (alive_any w).mono ?_; rintro e w2 ⟨rfl, hb⟩)
    go_ret
    exact ⟨rfl, hb⟩
  · have h0' : (2 : Int) ≤ (n : Int) / 2 := by omega
    have h1' : (40000 : Int) < (n : Int) / 2 := by omega
    clear h h0
    go_enter Try.func19, Try.ntmps19
    go_wp2_with (go_at_call 9; refine (alive_any w).mono ?_; rintro e w2 ⟨rfl, hb⟩)
    go_ret
    exact ⟨rfl, hb⟩

set_option maxRecDepth 100000 in
theorem bears_some (l : List Int) (b off cap : Nat) (i j d : Int) (w : World) (hc : ∀ j, j < l.length → w.cell? ⟨b, off + j, none⟩ = some (.int .u8 (l.getD j 0))) (hf : fit l)
    (h0 : 2 ≤ l.length / 2) (h1 : l.length / 2 ≤ 40000) (hcap : l.length ≤ cap) (hd : w16 d) :
    Calls Try.prog 19 #[.slice (some ⟨b, off, none⟩) l.length cap, .int .i64 i, .int .i64 j, .int .u16 d] w fun e w' => e = .returned (.bool true) ∧ Below w.heap.size w w' := by
  obtain ⟨i0, hi0, hz0, hz1, hz2⟩ := info_parts info5
  obtain ⟨d0, d1⟩ := hd
  have HC := Lib.hid hc
  have HF := Lib.hid hf
  obtain ⟨n, hn⟩ : ∃ n, l.length = n := ⟨_, rfl⟩
  rw [hn] at h0 h1 hcap
  rw [hn]
  have HN := Lib.hid hn
  clear hc hf hn
  obtain ⟨K, hK⟩ : ∃ K, n / 2 = K := ⟨_, rfl⟩
  have hK' : (n : Int) / 2 = (K : Int) := by omega
  have hKn : 2 * K ≤ n := by omega
  rw [hK] at h0 h1
  clear hK
  obtain ⟨ri, hri, ri0, ri1⟩ : ∃ r, IntKind.u64.wrap i = r ∧ 0 ≤ r ∧ r < 18446744073709551616 := ⟨_, rfl, by rw [IntKind.wrap_u64]; omega, by rw [IntKind.wrap_u64]; omega⟩
  obtain ⟨rj, hrj, rj0, rj1⟩ : ∃ r, IntKind.u64.wrap j = r ∧ 0 ≤ r ∧ r < 18446744073709551616 := ⟨_, rfl, by rw [IntKind.wrap_u64]; omega, by rw [IntKind.wrap_u64]; omega⟩
  obtain ⟨I, hI, hIK⟩ : ∃ I : Nat, ri % (K : Int) = (I : Int) ∧ I < K := ⟨(ri % K).toNat, by have := Int.emod_nonneg ri (b := (K : Int)) (by omega); omega, by have := Int.emod_lt_of_pos ri (b := (K : Int)) (by omega); have := Int.emod_nonneg ri (b := (K : Int)) (by omega); omega⟩
  obtain ⟨J, hJ, hJK⟩ : ∃ J : Nat, rj % (K : Int) = (J : Int) ∧ J < K := ⟨(rj % K).toNat, by have := Int.emod_nonneg rj (b := (K : Int)) (by omega); omega, by have := Int.emod_lt_of_pos rj (b := (K : Int)) (by omega); have := Int.emod_nonneg rj (b := (K : Int)) (by omega); omega⟩
  go_enter Try.func19, Try.ntmps19
  have t1 : decide ((K : Int) < 2) = false := decide_eq_false (by omega)
  have t2 : decide ((40000 : Int) < (K : Int)) = false := decide_eq_false (by omega)
  have tok := HN
  go_wp2_with (first | (go_at_call 9; refine (alive_any w).mono ?_; rintro e w1 ⟨rfl, hb⟩) | (at_builtin; have _t := tok; refine wpList_append_own _ rfl _ _ 22 rfl w.heap.size 5 i0 (.int .u8 0) 1 1 Try.underlying22 hi0 hz0 hz1 hz2 rfl (by decide) _ 0 [] rfl (World.ownsRow_made w1 #[] 0 hb.size (by decide) rfl) ⟨b, off, none⟩ (2 * K) cap (u8s (l.take (2 * K))) rfl ?c1 ?c2 ?c3 ?c4 ?c5 ?c6 ?_; clear tok))
  case c1 => unfold u8s; rw [List.length_map, List.length_take, HN.out]; omega
  case c2 => exact u8s_cells (fun j hj => by
      rw [List.length_take] at hj
      have h := HC.out j (by omega)
      rw [List.getD_eq_getElem?_getD, List.getElem?_take, if_pos (by omega), ← List.getD_eq_getElem?_getD]
      exact cell_later (bl_al (Below.refl _ _) _) ((hb.cell (p := ⟨b, off + j, none⟩) (block_lt_of_cell h)).trans h))
  case c3 => exact u8s_one _
  case c4 => unfold maxLen; omega
  case c5 => omega
  case c6 => have := hb.size; simp; omega
  intro v' w2 hown hgrow _
  obtain ⟨g, cap', hv, hg⟩ := own_shape hown (by omega)
  rw [hv]
  rw [hv] at hown
  obtain ⟨L, hL⟩ : ∃ L, L = l.take (2 * K) := ⟨_, rfl⟩
  have hfL : fit L := by rw [hL]; exact fit_take HF.out _
  rw [← hL] at hown
  have HO : Hid (Own w2 w.heap.size g cap' (2 * K) L) := Lib.hid ⟨hown, by rw [hL, List.length_take, HN.out]; omega, hg⟩
  have HB := Lib.hid ((bl_al hb (.cells #[] 5)).grown hgrow (by have := hb.size; simp; omega) (fun k hk => by cases hk; exact hb.size))
  have HFL := Lib.hid hfL
  obtain ⟨e1, e2, e3, e4⟩ := HO.out.word (I := I) (by omega)
  clear hown hgrow hv hb hL hfL
  go_wp2
  go_quiet (fail)
  go_wp2_with fail
  have hN : ∀ {x : List Int}, x.length = 2 * K → [x].flatten.length ≤ 4294967296 := fun {x} h => by rw [flat1, h]; omega
  have HO0 := (HO.out.drewN nq).put I 0 0
  have HF0 := Lib.hid (fit_setw HFL.out I (x := 0) (y := 0) (by decide) (by decide))
  have HB0 := Lib.hid (bl_put (below_drewN HB.out nq) hg (2 * I) (2 * I + 1) (.int .u8 0) (.int .u8 0))
  have hw0 := wordAt_set (l := L) (I := I) 0 0 (by rw [HO.out.2.1]; omega)
  obtain ⟨W, hW⟩ : ∃ W, W = ((w2.drewN nq).setCell ⟨g, 2 * I, none⟩ (.int .u8 0)).setCell ⟨g, 2 * I + 1, none⟩ (.int .u8 0) := ⟨_, rfl⟩
  have hsz : w2.heap.size = W.heap.size := by rw [hW]; simp
  obtain ⟨L0, hL0⟩ : ∃ L0, L0 = setw L I 0 0 := ⟨_, rfl⟩
  rw [← hL0] at HF0 hw0
  rw [← hL0, ← hW] at HO0
  rw [← hW] at HB0
  rw [hsz, ← hW]
  have HOH := Lib.hid HO0
  have HW0 := Lib.hid hw0
  have HL0 := Lib.hid HO0.2.1
  clear hW hsz hL0 HO0 HFL HO HB hw0 e1 e2 e3 e4
  refine (sum_any [L0] _ _ (Parts.one HOH.out.at 22 _ rfl) (by rw [flat1]; exact HF0.out) (hN HOH.out.2.1) (by simp)).mono ?_
  rintro e w3 ⟨rfl, rfl⟩
  rw [flat1]
  have hR := (ws_fits L0 HF0.out).1
  obtain ⟨R, hRv⟩ : ∃ R, R = ws L0 := ⟨_, rfl⟩
  rw [← hRv] at hR
  rw [← hRv]
  have HR := Lib.hid hRv
  obtain ⟨f0, f1⟩ := car_fits hR
  obtain ⟨c, hcv⟩ : ∃ c, c = 65535 - car R := ⟨_, rfl⟩
  rw [← hcv]
  have hcc : 0 ≤ c ∧ c < 65536 := by omega
  have HCV := Lib.hid hcv
  obtain ⟨c0, c1⟩ := hcc
  obtain ⟨X, hX⟩ : ∃ X, X = W.alloc (.cells #[.slice (some ⟨g, 0, none⟩) (2 * K) cap'] 22) := ⟨_, rfl⟩
  have HO1 : Hid (Own X w.heap.size g cap' (2 * K) L0) := Lib.hid (by rw [hX]; exact HOH.out.alloc _)
  have HB1 : Hid (Below w.heap.size w X) := Lib.hid (by rw [hX]; exact bl_al HB0.out _)
  rw [← hX]
  clear hRv hcv hX HOH HB0 f0 f1 hR
  obtain ⟨e1, e2, e3, e4⟩ := HO1.out.word (I := I) (by omega)
  have hwr : IntKind.u8.wrap c = c % 256 := IntKind.wrap_u8' c
  have HO2 := Lib.hid (HO1.out.put I (c / 256) (c % 256))
  have HF2 := Lib.hid (fit_setw HF0.out I (x := c / 256) (y := c % 256) (by omega) (by omega))
  have HB2 := Lib.hid (bl_put HB1.out hg (2 * I) (2 * I + 1) (.int .u8 (c / 256)) (.int .u8 (c % 256)))
  by_cases hz : c = 65535
  · subst hz
    go_wp2
    go_ret
    exact ⟨rfl, HB2.out⟩
  · have z1 : (c == 65535) = false := by simpa using hz
    obtain ⟨L1, hL1⟩ : ∃ L1, L1 = setw L0 I (c / 256) (c % 256) := ⟨_, rfl⟩
    have hS1 : ws L1 = R + c := by
      have h := ws_setw L0 I (c / 256) (c % 256) (by rw [HO1.out.2.1]; omega)
      rw [HW0.out, ← HR.out] at h
      rw [hL1]
      omega
    have hG : (65535 - car (ws L1) == 0) = true := by rw [hS1]; exact good_own (by rw [HR.out]; exact (ws_fits L0 HF0.out).1) HCV.out
    have hW1 : ∀ J, I ≠ J → wordAt L1 J = wordAt L0 J := fun J h => by rw [hL1, wordAt_other _ _ h]
    have hW1I : wordAt L1 I = c := by rw [hL1, wordAt_set _ _ (by rw [HO1.out.2.1]; omega)]; omega
    rw [← hL1] at HO2 HF2
    have HS1 := Lib.hid hS1
    have HW1 := Lib.hid hW1
    have HW1I := Lib.hid hW1I
    clear hL1 hS1 hW1 hW1I
    by_cases hIJ : I = J
    · subst hIJ
      clear HW1 HW1I HR HCV HW0 HF0 HB1
      have HG := Lib.hid hG
      clear hG
      go_wp2_with fail
      refine (good_any [L1] _ _ (Parts.one HO2.out.at 22 _ (by simp)) (by rw [flat1]; exact HF2.out) (hN HO2.out.2.1) (by simp)).mono ?_
      rintro e w3 ⟨rfl, rfl⟩
      rw [flat1, HG.out]
      go_wp2
      go_ret
      exact ⟨rfl, HB2.out.alloc (by have := HB2.out.size; simpa using this) _⟩
    · have z2 : ((I : Int) == (J : Int)) = false := beq_eq_false_iff_ne.2 (by omega)
      go_upto_region 14 with fail
      obtain ⟨Y, hY⟩ : ∃ Y, Y = (X.setCell ⟨g, 2 * I, none⟩ (.int .u8 (c / 256))).setCell ⟨g, 2 * I + 1, none⟩ (.int .u8 (c % 256)) := ⟨_, rfl⟩
      rw [← hY] at HO2 HB2
      rw [← hY]
      clear hY e1 e2 e3 e4 HO1 HB1
      have hm := wordAt_fit HF2.out (I := J) (by rw [HO2.out.2.1]; omega)
      have hx := fit_at HF2.out (j := 2 * J) (by rw [HO2.out.2.1]; omega)
      have hy := fit_at HF2.out (j := 2 * J + 1) (by rw [HO2.out.2.1]; omega)
      obtain ⟨e1, e2, e3, e4⟩ := HO2.out.word (I := J) (by omega)
      obtain ⟨m, hmv⟩ : ∃ m, m = wordAt L1 J := ⟨_, rfl⟩
      rw [← hmv] at hm
      have HM := Lib.hid hmv
      unfold wordAt at hmv
      obtain ⟨x, hxv⟩ : ∃ x, x = L1.getD (2 * J) 0 := ⟨_, rfl⟩
      obtain ⟨y, hyv⟩ : ∃ y, y = L1.getD (2 * J + 1) 0 := ⟨_, rfl⟩
      rw [← hxv, ← hyv] at hmv
      rw [← hxv] at hx e1
      rw [← hyv] at hy e2
      obtain ⟨x0, x1⟩ := hx
      obtain ⟨y0, y1⟩ := hy
      obtain ⟨m0, m1⟩ := hm
      have hor : bits .or .u16 (x * 256) y = m := by
        have h := u16_or (x * 256) y (by omega) (by omega) y0 (by omega)
        rw [nat_join 8 _ _ (by omega) (by omega)] at h
        rw [h, hmv]
        omega
      clear hmv hxv hyv
      have HG := Lib.hid hG
      clear hG
      go_quiet (fail)
      go_wp2_with fail
      refine (good_any [L1] _ _ (Parts.one (HO2.out.drewN nq).at 22 _ rfl) (by rw [flat1]; exact HF2.out) (hN HO2.out.2.1) (by simp)).mono ?_
      rintro e w3 ⟨rfl, rfl⟩
      rw [flat1, HG.out]
      obtain ⟨Z, hZ⟩ : ∃ Z, Z = (Y.drewN nq).alloc (.cells #[.slice (some ⟨g, 0, none⟩) (2 * K) cap'] 22) := ⟨_, rfl⟩
      have HO3 : Hid (Own Z w.heap.size g cap' (2 * K) L1) := Lib.hid (by rw [hZ]; exact (HO2.out.drewN nq).alloc _)
      have HB3 : Hid (Below w.heap.size w Z) := Lib.hid (by rw [hZ]; exact bl_al (below_drewN HB2.out nq) _)
      have eZ : Z = (Y.drewN nq).alloc (.cells #[.slice (some ⟨g, 0, none⟩) (2 * K) cap'] 22) := hZ
      rw [← hZ]
      clear eZ hZ HO2 HB2 e1 e2 e3 e4 hor
      go_wp2_with fail
      refine (update_any c [(m, d)] _ _ ⟨c0, c1⟩ (Prs.one Z m d 32 _ rfl) (by intro p hp; rw [List.mem_singleton] at hp; subst hp; exact ⟨⟨m0, m1⟩, d0, d1⟩) (by simp)).mono ?_
      rintro e V ⟨rfl, hb⟩
      rw [show List.foldl up c [(m, d)] = up c (m, d) from rfl]
      have hq := up_fits (c := c) (p := (m, d)) ⟨c0, c1⟩ ⟨⟨m0, m1⟩, d0, d1⟩
      obtain ⟨q, hqv⟩ : ∃ q, q = up c (m, d) := ⟨_, rfl⟩
      rw [← hqv] at hq
      rw [← hqv]
      have HQ := Lib.hid hqv
      obtain ⟨q0, q1⟩ := hq
      have HO4 : Hid (Own V w.heap.size g cap' (2 * K) L1) := Lib.hid ((HO3.out.alloc _).below hb)
      have HB4 : Hid (Below w.heap.size w V) := Lib.hid (bl_tr (bl_al HB3.out _) hb)
      clear hqv hb HO3 HB3
      obtain ⟨e1, e2, e3, e4⟩ := HO4.out.word (I := J) (by omega)
      obtain ⟨g1, g2, g3, g4⟩ := HO4.out.word (I := I) (by omega)
      have hwd : IntKind.u8.wrap d = d % 256 := IntKind.wrap_u8' d
      have HO5 := Lib.hid ((HO4.out.put J (d / 256) (d % 256)).put I 0 0)
      have HF5 := Lib.hid (fit_setw (fit_setw HF2.out J (x := d / 256) (y := d % 256) (by omega) (by omega)) I (x := 0) (y := 0) (by decide) (by decide))
      have HB5 := Lib.hid (bl_put (bl_put HB4.out hg (2 * J) (2 * J + 1) (.int .u8 (d / 256)) (.int .u8 (d % 256))) hg (2 * I) (2 * I + 1) (.int .u8 0) (.int .u8 0))
      go_wp2_with fail
      obtain ⟨M, hM⟩ : ∃ M, M = setw L1 J (d / 256) (d % 256) := ⟨_, rfl⟩
      obtain ⟨L2, hL2⟩ : ∃ L2, L2 = setw M I 0 0 := ⟨_, rfl⟩
      have hlen1 := HO4.out.2.1
      obtain ⟨r, hr0, hr1, hr2⟩ : ∃ r, 0 ≤ r ∧ R = r + m ∧ ws L2 = r + d := by
        have h0 := ws_setw L0 J 0 0 (by rw [HL0.out]; omega)
        have h1 := ws_setw L1 J (d / 256) (d % 256) (by rw [hlen1]; omega)
        have h2 := ws_setw M I 0 0 (by rw [hM, setw_len, hlen1]; omega)
        have h3 := (ws_fits _ (fit_setw HF0.out J (x := 0) (y := 0) (by decide) (by decide))).1
        have h4 : wordAt M I = c := by rw [hM, wordAt_other _ _ (fun e => hIJ e.symm)]; exact HW1I.out
        rw [← HW1.out J hIJ, ← HM.out, ← HR.out] at h0
        rw [← HM.out, HS1.out, ← hM] at h1
        rw [h4, ← hL2] at h2
        exact ⟨_, h3, by omega, by omega⟩
      have hcv := HCV.out
      rw [hr1] at hcv
      rw [← hM, ← hL2] at HO5 HF5
      have HS2 := Lib.hid hr2
      have HGC := Lib.hid (fun h0 => good_changed hr0 ⟨m0, m1⟩ ⟨d0, d1⟩ hcv HQ.out h0)
      obtain ⟨U, hU⟩ : ∃ U, U = (((V.setCell ⟨g, 2 * J, none⟩ (.int .u8 (d / 256))).setCell ⟨g, 2 * J + 1, none⟩ (.int .u8 (d % 256))).setCell ⟨g, 2 * I, none⟩ (.int .u8 0)).setCell ⟨g, 2 * I + 1, none⟩ (.int .u8 0) := ⟨_, rfl⟩
      have hsz : V.heap.size = U.heap.size := by rw [hU]; simp
      have hwI : wordAt L2 I = 0 := by rw [hL2, wordAt_set _ _ (by rw [hM, setw_len, hlen1]; omega)]; rfl
      have HWI := Lib.hid hwI
      rw [← hU] at HO5 HB5
      rw [← hU, hsz]
      clear hM hL2 hlen1 hr0 hr1 hr2 hcv hU hsz hwI HO4 HB4 e1 e2 e3 e4 g1 g2 g3 g4 HF2 HS1 HG HW1 HW1I HM HQ HR HCV HW0 HL0 HF0
      refine (sum_any [L2] _ _ (Parts.one HO5.out.at 22 _ rfl) (by rw [flat1]; exact HF5.out) (hN HO5.out.2.1) (by simp)).mono ?_
      rintro e w3 ⟨rfl, rfl⟩
      rw [flat1, HS2.out]
      obtain ⟨s2, hs2⟩ : ∃ s, s = 65535 - car (r + d) := ⟨_, rfl⟩
      rw [← hs2] at HGC
      rw [← hs2]
      obtain ⟨T, hT⟩ : ∃ T, T = U.alloc (.cells #[.slice (some ⟨g, 0, none⟩) (2 * K) cap'] 22) := ⟨_, rfl⟩
      have HO6 : Hid (Own T w.heap.size g cap' (2 * K) L2) := Lib.hid (by rw [hT]; exact HO5.out.alloc _)
      have HB6 : Hid (Below w.heap.size w T) := Lib.hid (by rw [hT]; exact HB5.out.alloc HB5.out.size _)
      rw [← hT]
      clear hs2 hT HO5 HB5
      by_cases hs : s2 = 65535
      · subst hs
        clear HGC
        go_wp2
        go_ret
        exact ⟨rfl, HB6.out⟩
      · have z3 : (s2 == 65535) = false := beq_eq_false_iff_ne.2 hs
        have HG := Lib.hid (HGC.out z3)
        obtain ⟨e1, e2, e3, e4⟩ := HO6.out.word (I := I) (by omega)
        have hwq : IntKind.u8.wrap q = q % 256 := IntKind.wrap_u8' q
        have HO7 := Lib.hid (HO6.out.put I (q / 256) (q % 256))
        have HF7 := Lib.hid (fit_setw HF5.out I (x := q / 256) (y := q % 256) (by omega) (by omega))
        have HB7 := Lib.hid (bl_put HB6.out hg (2 * I) (2 * I + 1) (.int .u8 (q / 256)) (.int .u8 (q % 256)))
        have HS3 : Hid (ws (setw L2 I (q / 256) (q % 256)) = r + d + q) := Lib.hid (by
          have h := ws_setw L2 I (q / 256) (q % 256) (by rw [HO6.out.2.1]; omega)
          rw [HWI.out, HS2.out] at h
          omega)
        clear HGC HF5 HB6 HS2 HWI
        go_wp2_with fail
        refine (good_any [_] _ _ (Parts.one HO7.out.at 22 _ (by simp)) (by rw [flat1]; exact HF7.out) (hN HO7.out.2.1) (by simp)).mono ?_
        rintro e w3 ⟨rfl, rfl⟩
        rw [flat1, HS3.out, HG.out]
        go_wp2
        go_ret
        exact ⟨rfl, HB7.out.alloc (by have := HB7.out.size; simpa using this) _⟩

theorem bears_any (l : List Int) (a : Option Addr) (cap : Nat) (i j d : Int) (w : World) (hA : At w (.slice a l.length cap) l) (hf : fit l) (hl : l.length ≤ maxLen) (hcap : l.length ≤ cap) (hd : w16 d) :
    Calls Try.prog 19 #[.slice a l.length cap, .int .i64 i, .int .i64 j, .int .u16 d] w fun e w' => e = .returned (.bool true) ∧ Below w.heap.size w w' := by
  by_cases h : l.length / 2 < 2 ∨ 40000 < l.length / 2
  · exact bears_none l.length a cap i j d w h hl
  · obtain ⟨a', cap', e, hA⟩ := hA
    rcases hA with rfl | ⟨b, off, rfl, hc⟩
    · simp at h
    · cases e
      exact bears_some l b off cap i j d w hc hf (by omega) (by omega) hcap hd
end Go.Proofs.Ytjmpmegodhglcaa
