/- The body of SessionApart.
 Conditions: those stated. -/
import Derived.Test.YtlmkmbpikhagiaaSeP
namespace Go.Proofs.Ytlmkmbpikhagiaa
open Go Go.RowKit Go.Lib
set_option linter.unusedVariables false
set_option linter.unusedSimpArgs false

set_option maxRecDepth 100000 in
set_option maxHeartbeats 8000000 in
theorem sessionApart_t (a0 : Option Addr) (n0 c0 : Nat) (os0 : List OpR) (vip : Int) (w : World) (hI0 : SOIn w a0 n0 os0) (hn0 : n0 ≤ 1152921504606846976) (hc0 : n0 ≤ c0) (hv : 0 ≤ vip ∧ vip < 4294967296) :
    Calls Try.prog 7 #[.slice a0 n0 c0, .int .u32 vip] w fun e w' => e = .returned (.bool true) ∧ Below w.heap.size w w' := by
  have I0 := Lib.hid hI0
  clear hI0
  go_enter Try.func7, Try.ntmps7
  go_wp2_with fail
  refine (alive_c w).mono ?_
  rintro e w1 ⟨rfl, hb1⟩
  have HB1 := Lib.hid hb1
  clear hb1
  go_wp2_with fail
  refine (large_c a0 n0 c0 os0 w1 (I0.out.below HB1.out) hn0 hc0).mono ?_
  rintro e w2 ⟨z1, rfl, hb⟩
  have HB2 := Lib.hid (bl_tr HB1.out hb)
  clear hb
  cases z1 with
  | true =>
    go_wp2
    go_ret
    exact ⟨rfl, HB2.out⟩
  | false =>
  go_wp2_with fail
  refine (newL_c w2 w.heap.size HB2.out.size).mono ?_
  rintro e w3 ⟨p, rfl, hl3, hb3⟩
  have HL3 := Lib.hid hl3
  have HB23 := Lib.hid hb3
  clear hl3 hb3
  go_wp2_with fail
  refine (newL_c w3 w.heap.size (bl_tr HB2.out HB23.out).size).mono ?_
  rintro e w4 ⟨q, rfl, hl4, hb4⟩
  have HP4 : Hid (∃ FA FB, P2 w w4 FA FB p q [] []) := Lib.hid ⟨_, _, bl_tr (bl_tr HB2.out HB23.out) hb4, HL3.out.below hb4, hl4, fun k hk h => by have := hk.2; have := h.1; omega, (fun e he => by cases he), (fun e he => by cases he)⟩
  clear hl4 hb4
  go_wp2
  go_loopw [21] (fun i wr => ∃ (j : Nat) (la lb : List Se), j ≤ n0 ∧ i = .int .i64 j ∧ Hid (findS 32 la = findS 32 lb) ∧ Hid (∃ FA FB, P2 w wr FA FB p q la lb)) (fun i _ => n0 - (intOf i).toNat)
  case atStart => exact ⟨0, [], [], by omega, rfl, Lib.hid rfl, HP4⟩
  case round =>
    obtain ⟨j, la, lb, hj, rfl, HF, HP⟩ := hrel
    clear HP4
    obtain ⟨FA, FB, hp⟩ := HP.out
    have HP0 := Lib.hid hp
    clear hp HP
    by_cases hlj : j < n0
    · have hIr := I0.out.below HP0.out.bel
      obtain ⟨b, off, rfl⟩ := hIr.block (by omega)
      obtain ⟨o, ho⟩ : ∃ o, o = os0.getD j opR := ⟨_, rfl⟩
      obtain ⟨e0, e1, e2, e3, e4, e5, e6⟩ := hIr.cells hlj ho.symm
      have hok := hIr.ok j hlj
      rw [← ho] at hok
      have HOO := Lib.hid ho
      obtain ⟨kind, va, vn, vc, vips, fr, m, a, k, ca, bb, kk, d, now⟩ := o
      obtain ⟨mk, hmk⟩ : ∃ x, x = m.kind := ⟨_, rfl⟩
      simp only at e0 e1 e2 e3 e4 e5 e6
      rw [← hmk] at e3
      obtain ⟨X, hX⟩ : ∃ X, X = wr.alloc (.cells #[.int .i64 kind, .slice va vn vc, .int .i64 fr, .int .i64 mk, .slice a k ca, .slice bb kk d, .int .i64 now] 42) := ⟨_, rfl⟩
      have hbX : Below wr.heap.size wr X := by rw [hX]; exact bl_al (Below.refl _ _) _
      have hqX : X.heap[wr.heap.size]? = some (.cells #[.int .i64 kind, .slice va vn vc, .int .i64 fr, .int .i64 mk, .slice a k ca, .slice bb kk d, .int .i64 now] 42 (0, 0)) := by rw [hX]; exact heap_alloc_new _ _
      obtain ⟨q8, hq⟩ : ∃ q, q = wr.heap.size := ⟨_, rfl⟩
      rw [← hq] at hqX
      have HQX := Lib.hid hqX
      have HOX := Lib.hid (hok.below hbX)
      have HPX := Lib.hid (HP0.out.below hbX)
      have HLA : Hid (∀ k, FA k → k ≠ q8) := Lib.hid (fun k hk e => by have := (HP0.out.a.blocks k hk).2; omega)
      have HLB : Hid (∀ k, FB k → k ≠ q8) := Lib.hid (fun k hk e => by have := (HP0.out.b.blocks k hk).2; omega)
      have ilj : (j : Int) < (n0 : Int) := by omega
      have j0 : (0 : Int) ≤ (j : Int) := by omega
      have HX := Lib.hid hX
      have HQ := Lib.hid hq
      have HMK := Lib.hid hmk
      clear hIr ho hX hbX hq hqX hok hmk
      go_upto_region 9 with fail
      rw [← HX.out, ← HQ.out]
      clear HX e0 e1 e2 e3 e4 e5 e6
      obtain ⟨r0, r1, r2, r3, r4, r5, r6⟩ : X.cell? ⟨q8, 0, none⟩ = some (.int .i64 kind) ∧ X.cell? ⟨q8, 1, none⟩ = some (.slice va vn vc) ∧ X.cell? ⟨q8, 2, none⟩ = some (.int .i64 fr) ∧ X.cell? ⟨q8, 3, none⟩ = some (.int .i64 mk) ∧ X.cell? ⟨q8, 4, none⟩ = some (.slice a k ca) ∧ X.cell? ⟨q8, 5, none⟩ = some (.slice bb kk d) ∧ X.cell? ⟨q8, 6, none⟩ = some (.int .i64 now) := by
        have h := HQX.out
        refine ⟨?_, ?_, ?_, ?_, ?_, ?_, ?_⟩ <;> (rw [cell_of_row X q8 _ _ _ _ h]; rfl)
      by_cases hk1 : kind = 1
      · have zk : (kind != 1) = false := by simp [hk1]
        clear hk1
        go_wp2_with fail
        rw [HMK.out]
        have HOW := Lib.hid (show OpOk w ⟨kind, va, vn, vc, vips, fr, m, a, k, ca, bb, kk, d, now⟩ from by rw [HOO.out]; exact I0.out.ok j hlj)
        refine (recL_c fr m a k ca bb kk d now FA w.heap.size p la X HPX.out.a HPX.out.bel.size HOX.out.msg.nums (Nat.le_trans HOX.out.len (by decide)) HOX.out.fr).mono ?_
        rintro e w5 ⟨ht5, ha5⟩
        obtain ⟨a5, n5, k5, rfl, ho5⟩ := ans_of ha5
        have HP5 := Lib.hid (HPX.out.at ht5 (few_rec HPX.out.fa fr m now))
        have HQ5 := Lib.hid (ht5.2.at HQX.out (fun h => HLA.out q8 h rfl))
        have HSX : Hid (∀ k, FB k → k < X.heap.size) := Lib.hid (fun k hk => (HPX.out.b.blocks k hk).2)
        have HS5 : Hid (X.heap.size ≤ w5.heap.size) := Lib.hid ht5.2.size
        obtain ⟨x5, hx5⟩ : ∃ x, x = (recF la fr m now).2 := ⟨_, rfl⟩
        have hf5 := ans_fit la fr m now
        rw [← hx5] at ho5 hf5
        rw [← hx5]
        obtain ⟨u5, hu5⟩ : ∃ u, u = (ansV x5).1.kind := ⟨_, rfl⟩
        obtain ⟨z5, hz5⟩ : ∃ u, u = (ansV x5).2 := ⟨_, rfl⟩
        rw [← hu5, ← hz5]
        have HO5 := Lib.hid ho5
        have HF5 := Lib.hid hf5
        have HX5 := Lib.hid hx5
        have HU5 := Lib.hid hu5
        have HZ5 := Lib.hid hz5
        clear ht5 ha5 ho5 hf5 hx5 hu5 hz5 r0 r1 r2 r3 r4 r5 r6
        go_upto_region 13 with fail
        obtain ⟨w6, hw6⟩ : ∃ v, v = w5.alloc (.cells #[.int .i64 u5, .slice a5 n5 k5, .slice none 0 0] 40) := ⟨_, rfl⟩
        rw [← hw6]
        have hb6 : Below w5.heap.size w5 w6 := by rw [hw6]; exact bl_al (Below.refl _ _) _
        have hq9 : w6.heap[w5.heap.size]? = some (.cells #[.int .i64 u5, .slice a5 n5 k5, .slice none 0 0] 40 (0, 0)) := by rw [hw6]; exact heap_alloc_new _ _
        obtain ⟨q9, hq9e⟩ : ∃ q, q = w5.heap.size := ⟨_, rfl⟩
        rw [← hq9e] at hq9
        rw [← hq9e]
        have HB6 := Lib.hid hb6
        have HQ9 := Lib.hid hq9
        have HQ9E := Lib.hid hq9e
        have HP6 := Lib.hid (HP5.out.below hb6)
        have HQ6 := Lib.hid ((hb6.block q8 (lt_of_block HQ5.out)).trans HQ5.out)
        clear hw6 hb6 hq9 hq9e
        obtain ⟨s0, s1, s2, s3, s4, s5, s6⟩ : w6.cell? ⟨q8, 0, none⟩ = some (.int .i64 kind) ∧ w6.cell? ⟨q8, 1, none⟩ = some (.slice va vn vc) ∧ w6.cell? ⟨q8, 2, none⟩ = some (.int .i64 fr) ∧ w6.cell? ⟨q8, 3, none⟩ = some (.int .i64 mk) ∧ w6.cell? ⟨q8, 4, none⟩ = some (.slice a k ca) ∧ w6.cell? ⟨q8, 5, none⟩ = some (.slice bb kk d) ∧ w6.cell? ⟨q8, 6, none⟩ = some (.int .i64 now) := by
          have h := HQ6.out
          refine ⟨?_, ?_, ?_, ?_, ?_, ?_, ?_⟩ <;> (rw [cell_of_row w6 q8 _ _ _ _ h]; rfl)
        by_cases h32 : fr = 32
        · subst h32
          go_wp2_with fail
          rw [HMK.out]
          have HOM := Lib.hid (HOW.out.below HP6.out.bel)
          refine (recL_c 32 m a k ca bb kk d now FB w.heap.size q lb w6 HP6.out.b HP6.out.bel.size HOM.out.msg.nums (Nat.le_trans HOM.out.len (by decide)) HOM.out.fr).mono ?_
          rintro e w7 ⟨ht7, ha7⟩
          obtain ⟨a7, n7, k7, rfl, ho7⟩ := ans_of ha7
          have hsame := rec_same HPX.out.a.srt HPX.out.b.srt HF.out m now
          have HF7 := Lib.hid hsame.1
          have HP7 := Lib.hid (HP6.out.atB ht7 (few_rec HP6.out.fb 32 m now))
          have HQ97 := Lib.hid (ht7.2.at HQ9.out (fun h => by have h1 := HSX.out q9 h; have h2 := HS5.out; have h3 := HQ9E.out; omega))
          have ho5' : AnsO w7 X.heap.size x5 a5 n5 k5 := ⟨HO5.out.1, ht7.2.own (owns_bel HO5.out.2 HB6.out) (fun g hg h => by have h1 := HSX.out g h; have h2 := (HO5.out.2.lt g hg).1; omega)⟩
          rw [← hsame.2, ← HX5.out] at ho7
          rw [← hsame.2, ← HX5.out, ← HU5.out, ← HZ5.out]
          have HO57 := Lib.hid ho5'
          have HO7 := Lib.hid ho7
          clear ht7 ha7 hsame ho5' ho7 s0 s1 s2 s3 s4 s5 s6
          go_upto_region 15 with fail
          obtain ⟨w8, hw8⟩ : ∃ v, v = w7.alloc (.cells #[.int .i64 u5, .slice a7 n7 k7, .slice none 0 0] 40) := ⟨_, rfl⟩
          rw [← hw8]
          have hb8 : Below w7.heap.size w7 w8 := by rw [hw8]; exact bl_al (Below.refl _ _) _
          have hq11 : w8.heap[w7.heap.size]? = some (.cells #[.int .i64 u5, .slice a7 n7 k7, .slice none 0 0] 40 (0, 0)) := by rw [hw8]; exact heap_alloc_new _ _
          obtain ⟨q11, hq11e⟩ : ∃ q, q = w7.heap.size := ⟨_, rfl⟩
          rw [← hq11e] at hq11
          rw [← hq11e]
          have HQ11 := Lib.hid hq11
          have HQ98 := Lib.hid ((hb8.block q9 (lt_of_block HQ97.out)).trans HQ97.out)
          have HP8 := Lib.hid (HP7.out.below hb8)
          have HM5 := Lib.hid (AnsO.min ⟨HO57.out.1, owns_bel HO57.out.2 hb8⟩ HF5.out.1)
          have HM7 := Lib.hid (AnsO.min ⟨HO7.out.1, owns_bel HO7.out.2 hb8⟩ HF5.out.1)
          clear hw8 hb8 hq11 hq11e
          obtain ⟨s0, s1, s2⟩ : w8.cell? ⟨q9, 0, none⟩ = some (.int .i64 u5) ∧ w8.cell? ⟨q9, 1, none⟩ = some (.slice a5 n5 k5) ∧ w8.cell? ⟨q9, 2, none⟩ = some (.slice none 0 0) := by
            have h := HQ98.out
            refine ⟨?_, ?_, ?_⟩ <;> (rw [cell_of_row w8 q9 _ _ _ _ h]; rfl)
          obtain ⟨t0, t1, t2⟩ : w8.cell? ⟨q11, 0, none⟩ = some (.int .i64 u5) ∧ w8.cell? ⟨q11, 1, none⟩ = some (.slice a7 n7 k7) ∧ w8.cell? ⟨q11, 2, none⟩ = some (.slice none 0 0) := by
            have h := HQ11.out
            refine ⟨?_, ?_, ?_⟩ <;> (rw [cell_of_row w8 q11 _ _ _ _ h]; rfl)
          go_wp2_with fail
          rw [HU5.out]
          refine (refSame_any (ansV x5).1 (ansV x5).1 a5 n5 k5 none 0 0 a7 n7 k7 none 0 0 w8 HM5.out HM7.out (by rw [HO57.out.1]; have := HF5.out.2; omega) true (by simp)).mono ?_
          rintro e w9 ⟨rfl, hb⟩
          have HE9 : Hid (∃ FA FB, P2 w w9 FA FB p q (recF la 32 m now).1 (recF lb 32 m now).1) := Lib.hid ⟨_, _, HP8.out.below hb⟩
          have qz : (z5 != z5) = false := by simp
          clear hb s0 s1 s2 t0 t1 t2
          go_wp2
          go_roundw
          case rel => exact ⟨j + 1, _, _, by omega, by go_num, HF7, HE9⟩
          case measure => simp [intOf]; omega
        · have z32 : (fr == 32) = false := by simp [h32]
          have HF6 := Lib.hid (show findS 32 (recF la fr m now).1 = findS 32 lb by rw [rec_other HPX.out.a.srt h32, HF.out])
          have HE6 : Hid (∃ FA FB, P2 w w6 FA FB p q (recF la fr m now).1 lb) := Lib.hid ⟨_, _, HP6.out⟩
          clear h32
          go_wp2
          go_roundw
          case rel => exact ⟨j + 1, _, _, by omega, by go_num, HF6, HE6⟩
          case measure => simp [intOf]; omega
      · have zk : (kind != 1) = true := by simp [hk1]
        clear hk1
        go_wp2_with fail
        refine (tickL_c now FA w.heap.size p la X HPX.out.a HPX.out.bel.size).mono ?_
        rintro e w5 ⟨a5, n5, k5, rfl, _, _, ht5⟩
        have HP5 := Lib.hid (HPX.out.at ht5 (fun e he => HPX.out.fa e (List.mem_filter.1 he).1))
        have HQ5 := Lib.hid (ht5.2.at HQX.out (fun h => HLA.out q8 h rfl))
        have HT5 := Lib.hid ht5
        clear ht5 r0 r1 r2 r3 r4 r5 r6
        obtain ⟨s0, s1, s2, s3, s4, s5, s6⟩ : w5.cell? ⟨q8, 0, none⟩ = some (.int .i64 kind) ∧ w5.cell? ⟨q8, 1, none⟩ = some (.slice va vn vc) ∧ w5.cell? ⟨q8, 2, none⟩ = some (.int .i64 fr) ∧ w5.cell? ⟨q8, 3, none⟩ = some (.int .i64 mk) ∧ w5.cell? ⟨q8, 4, none⟩ = some (.slice a k ca) ∧ w5.cell? ⟨q8, 5, none⟩ = some (.slice bb kk d) ∧ w5.cell? ⟨q8, 6, none⟩ = some (.int .i64 now) := by
          have h := HQ5.out
          refine ⟨?_, ?_, ?_, ?_, ?_, ?_, ?_⟩ <;> (rw [cell_of_row w5 q8 _ _ _ _ h]; rfl)
        go_wp2_with fail
        refine (tickL_c now FB w.heap.size q lb w5 HP5.out.b HP5.out.bel.size).mono ?_
        rintro e w6 ⟨a6, n6, k6, rfl, _, _, ht6⟩
        have HP6 : Hid (∃ FA FB, P2 w w6 FA FB p q (la.filter (fun e => !goneP now e)) (lb.filter (fun e => !goneP now e))) := Lib.hid ⟨_, _, HP5.out.atB ht6 (fun e he => HP5.out.fb e (List.mem_filter.1 he).1)⟩
        have HF6 := Lib.hid (show findS 32 (la.filter (fun e => !goneP now e)) = findS 32 (lb.filter (fun e => !goneP now e)) by rw [findS_filter HPX.out.a.srt, findS_filter HPX.out.b.srt, HF.out])
        clear ht6 s0 s1 s2 s3 s4 s5 s6
        go_wp2
        go_roundw
        case rel => exact ⟨j + 1, _, _, by omega, by go_num, HF6, HP6⟩
        case measure => simp [intOf]; omega
    · have ilj : ¬ ((j : Int) < (n0 : Int)) := by omega
      clear hlj
      obtain ⟨zm, hzm⟩ : ∃ z, z = decide ((32 : Int) ∈ muxesOf (anP vip) la) := ⟨_, rfl⟩
      obtain ⟨zs, hzs⟩ : ∃ z, z = decide ((32 : Int) ∈ muxesOf (fun _ => true) la) := ⟨_, rfl⟩
      have HZM := Lib.hid hzm
      have HZS := Lib.hid hzs
      have HZM2 : Hid (zm = decide ((32 : Int) ∈ muxesOf (anP vip) lb)) := Lib.hid (by rw [hzm]; exact decide_eq_decide.2 (by rw [mem_mux HP0.out.a.srt, mem_mux HP0.out.b.srt, HF.out]))
      have HZS2 : Hid (zs = decide ((32 : Int) ∈ muxesOf (fun _ => true) lb)) := Lib.hid (by rw [hzs]; exact decide_eq_decide.2 (by rw [mem_mux HP0.out.a.srt, mem_mux HP0.out.b.srt, HF.out]))
      have qm : (zm == zm) = true := by simp
      have qs : (zs == zs) = true := by simp
      clear hzm hzs
      have ff : ∀ l : List Se, Few l → ∀ e ∈ l, e.vips.length ≤ 1048576 := fun l h e he => Nat.le_trans (h e he) (by decide)
      have FFF := Lib.hid ff
      clear ff
      go_wp2_with fail
      refine (muxes_c vip FA w.heap.size p la wr HP0.out.a (FFF.out la HP0.out.fa)).mono ?_
      rintro e y1 ⟨ya, yn, yc, rfl, hn, ho, hb⟩
      have HY1 := Lib.hid (HP0.out.below hb)
      have HI1 := Lib.hid (own_inI ho hn.symm (fitI_mux (fun e he => (HP0.out.a.fit e he).1) _))
      have HN1 := Lib.hid (show yn ≤ 4611686018427387904 by
        have h1 := muxes_few HP0.out.a.srt (fun e he => (HP0.out.a.fit e he).1)
        have h2 : yn ≤ la.length := by rw [hn]; unfold muxesOf; rw [List.length_map]; exact List.length_filter_le _ _
        omega)
      clear hn ho hb
      go_wp2_with fail
      refine (has_c 32 _ ya yn yc y1 HI1.out HN1.out).mono ?_
      rw [← HZM.out]
      rintro e y2 ⟨rfl, hb⟩
      have HY2 := Lib.hid (HY1.out.below hb)
      clear hb
      go_wp2_with fail
      refine (muxes_c vip FB w.heap.size q lb y2 HY2.out.b (FFF.out lb HY2.out.fb)).mono ?_
      rintro e y3 ⟨ya, yn, yc, rfl, hn, ho, hb⟩
      have HY3 := Lib.hid (HY2.out.below hb)
      have HI3 := Lib.hid (own_inI ho hn.symm (fitI_mux (fun e he => (HY2.out.b.fit e he).1) _))
      have HN3 := Lib.hid (show yn ≤ 4611686018427387904 by
        have h1 := muxes_few HY2.out.b.srt (fun e he => (HY2.out.b.fit e he).1)
        have h2 : yn ≤ lb.length := by rw [hn]; unfold muxesOf; rw [List.length_map]; exact List.length_filter_le _ _
        omega)
      clear hn ho hb
      go_wp2_with fail
      refine (has_c 32 _ ya yn yc y3 HI3.out HN3.out).mono ?_
      rw [← HZM2.out]
      rintro e y4 ⟨rfl, hb⟩
      have HY4 := Lib.hid (HY3.out.below hb)
      clear hb
      go_wp2_with fail
      refine (sess_c FA w.heap.size p la y4 HY4.out.a).mono ?_
      rintro e y5 ⟨ya, yn, yc, rfl, hn, ho, hb⟩
      have HY5 := Lib.hid (HY4.out.below hb)
      have HI5 := Lib.hid (own_inI ho hn.symm (fitI_mux (fun e he => (HY4.out.a.fit e he).1) _))
      have HN5 := Lib.hid (show yn ≤ 4611686018427387904 by
        have h1 := muxes_few HY4.out.a.srt (fun e he => (HY4.out.a.fit e he).1)
        have h2 : yn ≤ la.length := by rw [hn]; unfold muxesOf; rw [List.length_map]; exact List.length_filter_le _ _
        omega)
      clear hn ho hb
      go_wp2_with fail
      refine (has_c 32 _ ya yn yc y5 HI5.out HN5.out).mono ?_
      rw [← HZS.out]
      rintro e y6 ⟨rfl, hb⟩
      have HY6 := Lib.hid (HY5.out.below hb)
      clear hb
      go_wp2_with fail
      refine (sess_c FB w.heap.size q lb y6 HY6.out.b).mono ?_
      rintro e y7 ⟨ya, yn, yc, rfl, hn, ho, hb⟩
      have HY7 := Lib.hid (HY6.out.below hb)
      have HI7 := Lib.hid (own_inI ho hn.symm (fitI_mux (fun e he => (HY6.out.b.fit e he).1) _))
      have HN7 := Lib.hid (show yn ≤ 4611686018427387904 by
        have h1 := muxes_few HY6.out.b.srt (fun e he => (HY6.out.b.fit e he).1)
        have h2 : yn ≤ lb.length := by rw [hn]; unfold muxesOf; rw [List.length_map]; exact List.length_filter_le _ _
        omega)
      clear hn ho hb
      go_wp2_with fail
      refine (has_c 32 _ ya yn yc y7 HI7.out HN7.out).mono ?_
      rw [← HZS2.out]
      rintro e y8 ⟨rfl, hb⟩
      have HY8 := Lib.hid (HY7.out.below hb)
      clear hb
      go_wp2_with fail
      exact bodyPost_ret (v := .bool true) (by simp [results, Try.results7, go_sem]) rfl ⟨rfl, HY8.out.bel⟩
end Go.Proofs.Ytlmkmbpikhagiaa
