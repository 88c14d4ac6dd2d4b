/- The body of SessionKeeps: how long a session lasts.
 Conditions: those stated. -/
import Derived.Test.YtlmkmbpikhagiaaHoA
namespace Go.Proofs.Ytlmkmbpikhagiaa
open Go Go.RowKit Go.Lib
set_option linter.unusedVariables false
set_option linter.unusedSimpArgs false

theorem red_k (x k : Int) (h1 : 0 < k) (h2 : k ≤ 1000) : 0 ≤ wrap64 ((IntKind.u64.wrap x).tmod k) ∧ wrap64 ((IntKind.u64.wrap x).tmod k) < k := by
  have h0 : 0 ≤ IntKind.u64.wrap x := by rw [IntKind.wrap_u64]; omega
  have h3 := Int.emod_nonneg (IntKind.u64.wrap x) (show k ≠ 0 by omega)
  have h4 := Int.emod_lt_of_pos (IntKind.u64.wrap x) h1
  rw [Int.tmod_eq_emod_of_nonneg h0, IntWalk.wrap64_in _ (by omega)]
  exact ⟨h3, h4⟩
theorem mk_c (kn : Int) (xs : List Int) (C : Array Value) (hC : C = (xs.map (Value.int .i64)).toArray) (n : Nat) (hn : n = xs.length) (hf : fitI xs) (hl : n ≤ 10) (W : World) :
    Calls Try.prog 49 #[.int .i64 kn, .slice (some ⟨W.heap.size, 0, none⟩) n n] (W.alloc (.cells C 3)) fun e w' => ∃ a n' c, e = .returned (mval kn a n' c none 0 0) ∧ n' = xs.length ∧ InI w' a n' c xs ∧ Below W.heap.size W w' := by
  have ho := own_litI W xs C hC n W.heap.size hn (Nat.le_refl _) (by unfold maxLen; omega)
  refine (make_t kn (some ⟨W.heap.size, 0, none⟩) n n xs _ (own_inI ho hn.symm hf) (by omega)).mono ?_
  rintro e w7 ⟨a7, n7, c7, rfl, hn7, ho7, hb7⟩
  exact ⟨a7, n7, c7, rfl, hn7, own_inI ho7 hn7.symm hf, bl_tr (bl_al (Below.refl _ _) _) hb7⟩
set_option maxRecDepth 100000 in
set_option maxHeartbeats 8000000 in
theorem holds_t (mux boot now later vip : Int) (w : World) (h0 : i64c mux) (h1 : i64c boot) (h2 : i64c now) (h3 : i64c later) (h4 : 0 ≤ vip ∧ vip < 4294967296) :
    Calls Try.prog 29 #[.int .i64 mux, .int .i64 boot, .int .i64 now, .int .i64 later, .int .u32 vip] w fun e w' => e = .returned (.bool true) ∧ Below w.heap.size w w' := by
  have H0 := Lib.hid h0
  have H1 := Lib.hid h1
  have H2 := Lib.hid h2
  have H3 := Lib.hid h3
  have H4 := Lib.hid h4
  clear h0 h1 h2 h3
  go_enter Try.func29, Try.ntmps29
  go_wp2_with fail
  refine (alive_c w).mono ?_
  rintro e w1 ⟨rfl, hb1⟩
  have HB1 := Lib.hid hb1
  clear hb1
  go_upto_region 4 with fail
  obtain ⟨M, hM⟩ : ∃ M, M = wrap64 (32 + wrap64 ((IntKind.u64.wrap mux).tmod 8)) := ⟨_, rfl⟩
  rw [← hM]
  have HM : Hid (IsMux M ∧ i64c M) := Lib.hid (by
    have h := red_k mux 8 (by decide) (by decide)
    rw [IntWalk.wrap64_in _ (by omega)] at hM
    unfold IsMux i64c
    omega)
  clear hM
  by_cases n1 : now < 0
  · go_wp2
    go_ret
    exact ⟨rfl, HB1.out⟩
  by_cases n2 : 549755813888 < now
  · go_wp2
    go_ret
    exact ⟨rfl, HB1.out⟩
  by_cases n3 : boot < 1
  · go_wp2
    go_ret
    exact ⟨rfl, HB1.out⟩
  by_cases n4 : 549755813888 < boot
  · go_wp2
    go_ret
    exact ⟨rfl, HB1.out⟩
  have HR : Hid (0 ≤ now ∧ now ≤ 549755813888 ∧ 1 ≤ boot ∧ boot ≤ 549755813888) := Lib.hid (by omega)
  have HTN : Hid (IsTm now) := Lib.hid (by unfold IsTm; omega)
  have HTB : Hid (IsTm boot) := Lib.hid (by unfold IsTm; omega)
  have HTC : Hid (IsTm (boot - 1)) := Lib.hid (by unfold IsTm; omega)
  go_upto_region 7 with fail
  obtain ⟨K, hK⟩ : ∃ K, K = wrap64 ((IntKind.u64.wrap later).tmod 40) := ⟨_, rfl⟩
  rw [← hK]
  have hk2 : 0 ≤ K ∧ K < 40 := by rw [hK]; exact red_k later 40 (by decide) (by decide)
  clear hK
  go_wp2_with fail
  refine (newL_c w1 w.heap.size HB1.out.size).mono ?_
  rintro e w2 ⟨p, rfl, hl, hb⟩
  have HL2 : Hid (L1 w w2 p []) := Lib.hid ⟨bl_tr HB1.out hb, ⟨_, hl⟩, fun e he => by cases he⟩
  clear hl hb
  go_wp2_with fail
  refine (mk_c 10 [boot] #[.int .i64 (boot)] rfl 1 rfl (fun b hb => by have h1 := HR.out; have h4 := H4.out; simp at hb; omega) (by decide) _).mono ?_
  rintro e y ⟨ma, mn, mc, rfl, hmn, hmi, hmb⟩
  have HMN := Lib.hid hmn
  have HMI := Lib.hid hmi
  have HLY := Lib.hid (HL2.out.below hmb)
  clear hmn hmi hmb
  go_wp2_with fail
  refine (l1_rec (m := ⟨10, [boot], []⟩) M now HLY.out HMI.out (by rw [HMN.out]; simp) HM.out.2).mono ?_
  rw [ho_1 HM.out.1 HTB.out HTN.out]
  rintro e w3 ⟨h3, a3, n3', c3, rfl, hx1, hx2⟩
  clear hx1 hx2
  go_upto_region 9 with fail
  obtain ⟨v3, hv3⟩ : ∃ v, v = w3.alloc (.cells #[.int .i64 11, .slice a3 n3' c3, .slice none 0 0] 40) := ⟨_, rfl⟩
  rw [← hv3]
  have HL3 := Lib.hid (show L1 w v3 p (one M boot now []) by rw [hv3]; exact h3.below (bl_al (Below.refl _ _) _))
  clear h3 hv3
  go_wp2_with fail
  refine (mk_c 12 [boot, vip] #[.int .i64 (boot), .int .i64 (vip)] rfl 2 rfl (fun b hb => by have h1 := HR.out; have h4 := H4.out; simp at hb; omega) (by decide) _).mono ?_
  rintro e y ⟨ma, mn, mc, rfl, hmn, hmi, hmb⟩
  have HMN := Lib.hid hmn
  have HMI := Lib.hid hmi
  have HLY := Lib.hid (HL3.out.below hmb)
  clear hmn hmi hmb
  go_wp2_with fail
  refine (l1_rec (m := ⟨12, [boot, vip], []⟩) M now HLY.out HMI.out (by rw [HMN.out]; simp) HM.out.2).mono ?_
  rintro e w4 ⟨h4', ha4⟩
  obtain ⟨a4, n4', c4, rfl, hx1⟩ := ans_of ha4
  clear hx1
  obtain ⟨vs, hvs⟩ := ho_2 (vip := vip) HM.out.1 HTB.out HTN.out
  rw [hvs] at h4'
  have HL4 := Lib.hid h4'
  clear h4' ha4 hvs
  go_wp2_with fail
  refine (l1_muxes vip HL4.out).mono ?_
  rintro e w5 ⟨a5, n5, c5, rfl, hn5, hb⟩
  obtain ⟨N, hN⟩ : ∃ N, N = (muxesOf (anP vip) (one M boot now vs)).length := ⟨_, rfl⟩
  rw [← hN] at hn5
  subst hn5
  have HN := Lib.hid hN
  have HL5 := Lib.hid (HL4.out.below hb)
  obtain ⟨z, hz⟩ : ∃ z, ((n5 : Int) == 1) = z := ⟨_, rfl⟩
  have qn : (z != z) = false := by simp
  have qe : (z == z) = true := by simp
  clear hb hN
  go_wp2_with fail
  refine (mk_c 12 [boot - 1] #[.int .i64 (boot - 1)] rfl 1 rfl (fun b hb => by have h1 := HR.out; have h4 := H4.out; simp at hb; omega) (by decide) _).mono ?_
  rintro e y ⟨ma, mn, mc, rfl, hmn, hmi, hmb⟩
  have HMN := Lib.hid hmn
  have HMI := Lib.hid hmi
  have HLY := Lib.hid (HL5.out.below hmb)
  clear hmn hmi hmb
  go_wp2_with fail
  refine (l1_rec (m := ⟨12, [boot - 1], []⟩) M now HLY.out HMI.out (by rw [HMN.out]; simp) HM.out.2).mono ?_
  rw [ho_3 HM.out.1 HTC.out HTN.out]
  rintro e w6 ⟨h6, a6, n6, c6, rfl, hx1, hx2⟩
  clear hx1 hx2
  have HL6 := Lib.hid h6
  clear h6
  go_upto_region 12 with fail
  obtain ⟨w7, hw7⟩ : ∃ v, v = w6.alloc (.cells #[.int .i64 14, .slice a6 n6 c6, .slice none 0 0] 40) := ⟨_, rfl⟩
  rw [← hw7]
  have hb7 : Below w6.heap.size w6 w7 := by rw [hw7]; exact bl_al (Below.refl _ _) _
  have hq7 : w7.heap[w6.heap.size]? = some (.cells #[.int .i64 14, .slice a6 n6 c6, .slice none 0 0] 40 (0, 0)) := by rw [hw7]; exact heap_alloc_new _ _
  obtain ⟨q, hq⟩ : ∃ q, q = w6.heap.size := ⟨_, rfl⟩
  rw [← hq] at hq7
  rw [← hq]
  have HL7 := Lib.hid (HL6.out.below hb7)
  have m0 : w7.cell? ⟨q, 0, none⟩ = some (.int .i64 14) := by rw [cell_of_row w7 q _ _ _ _ hq7]; rfl
  clear hw7 hb7 hq7 hq
  go_wp2_with fail
  refine (l1_muxes vip HL7.out).mono ?_
  rintro e w8 ⟨a8, n8, c8, rfl, hn8, hb⟩
  rw [← HN.out] at hn8
  subst hn8
  have HL8 := Lib.hid (HL7.out.below hb)
  clear hb m0
  have HNK : Hid (-9223372036854775808 ≤ now + K ∧ now + K ≤ 9223372036854775807) := Lib.hid (by have := HR.out; omega)
  have wk : -9223372036854775808 ≤ now + K ∧ now + K ≤ 9223372036854775807 := HNK.out
  go_wp2_with fail
  refine (l1_tick (now + K) HL8.out).mono ?_
  rw [(gone_one M boot now vs K).1, (gone_one M boot now vs K).2]
  rintro e w9 ⟨a9, n9, c9, rfl, hn9, ho9, hl9⟩
  by_cases hK : K ≤ 12
  · rw [if_pos hK] at hn9 ho9 hl9
    rw [show n9 = 0 from hn9]
    have HL9 := Lib.hid hl9
    clear hn9 ho9 hl9 wk
    go_wp2_with fail
    refine (l1_muxes vip HL9.out).mono ?_
    rintro e w10 ⟨a10, n10, c10, rfl, hn10, hb⟩
    rw [← HN.out] at hn10
    subst hn10
    have HL10 := Lib.hid (HL9.out.below hb)
    clear hb
    go_wp2_with fail
    refine (l1_sess HL10.out).mono ?_
    rintro e w11 ⟨a11, n11, c11, rfl, hn11, hb⟩
    rw [show n11 = 1 from hn11]
    have HE := Lib.hid (bl_tr HL10.out.1 hb)
    clear hb hn11
    go_wp2_with fail
    exact bodyPost_ret (v := .bool true) (by simp [results, Try.results29, go_sem]) rfl ⟨rfl, HE.out⟩
  · rw [if_neg hK] at hn9 ho9 hl9
    have HL9 := Lib.hid hl9
    have HI9 := Lib.hid (own_inI ho9 hn9.symm (fun b hb => by have h := HM.out.1; unfold IsMux at h; simp at hb; omega))
    have HN9 := Lib.hid (show n9 ≤ 4611686018427387904 by rw [hn9]; simp)
    have HFM : Hid (fitI [M]) := Lib.hid (fun b hb => by have h := HM.out.1; unfold IsMux at h; simp at hb; omega)
    clear hn9 ho9 hl9 wk
    go_wp2_with fail
    refine (ints_any [M] [M] _ _ _ _ _ _ _ (HI9.out.below (bl_al (Below.refl _ _) _)) (own_inI (own_litI w9 [M] #[.int .i64 M] rfl 1 w9.heap.size rfl (Nat.le_refl _) (by unfold maxLen; omega)) rfl HFM.out) HN9.out true (by simp)).mono ?_
    rintro e w10 ⟨rfl, hb⟩
    have HL10 := Lib.hid (HL9.out.below (bl_tr (bl_al (Below.refl _ _) _) hb))
    clear hb
    go_wp2_with fail
    refine (l1_muxes vip HL10.out).mono ?_
    rintro e w11 ⟨a11, n11, c11, rfl, hn11, hb⟩
    rw [show n11 = 0 from hn11]
    have HL11 := Lib.hid (HL10.out.below hb)
    clear hb hn11
    go_wp2_with fail
    refine (l1_sess HL11.out).mono ?_
    rintro e w12 ⟨a12, n12, c12, rfl, hn12, hb⟩
    rw [show n12 = 0 from hn12]
    have HE := Lib.hid (bl_tr HL11.out.1 hb)
    clear hb hn12
    go_wp2_with fail
    exact bodyPost_ret (v := .bool true) (by simp [results, Try.results29, go_sem]) rfl ⟨rfl, HE.out⟩
end Go.Proofs.Ytlmkmbpikhagiaa
