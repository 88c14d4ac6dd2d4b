/- Contract of towpathlaw10.WheelOnce: it returns true. Conditions: the times and the nows came in. -/
import Derived.Test.YthoegmcdohppoaaWkU
namespace Go.Proofs.Ythoegmcdohppoaa
open Go Go.RowKit
set_option linter.unusedVariables false
set_option linter.unusedSimpArgs false

theorem fourNe (w : World) : (binOp .neq 26 (errnoT 4) .nilIface).run Try.prog w = .ok (.bool true) w := by kernel_rfl
def Pre1 (l : List Int) (n j : Nat) (f : Nat → Int) : Prop := ∀ k, k < n → f k = if k < j ∧ ¬ OkA (l.getD k 0) then -1 else 0
theorem Pre1.yes {l : List Int} {n j : Nat} {f : Nat → Int} (h : Pre1 l n j f) (ho : OkA (l.getD j 0)) : Pre1 l n (j + 1) f := by
  intro k hk
  rw [h k hk]
  by_cases e : k = j
  · subst e
    rw [if_neg (by omega), if_neg (fun h => h.2 ho)]
  · by_cases q : OkA (l.getD k 0)
    · rw [if_neg (fun h => h.2 q), if_neg (fun h => h.2 q)]
    · by_cases r : k < j
      · rw [if_pos ⟨r, q⟩, if_pos ⟨by omega, q⟩]
      · rw [if_neg (fun h => r h.1), if_neg (fun h => r (by omega))]
theorem Pre1.no {l : List Int} {n j : Nat} {f : Nat → Int} (h : Pre1 l n j f) (ho : ¬ OkA (l.getD j 0)) : Pre1 l n (j + 1) (fun k => if k = j then -1 else f k) := by
  intro k hk
  show (if k = j then -1 else f k) = _
  rw [h k hk]
  by_cases e : k = j
  · subst e
    rw [if_pos rfl, if_pos ⟨by omega, ho⟩]
  · rw [if_neg e]
    by_cases q : OkA (l.getD k 0)
    · rw [if_neg (fun h => h.2 q), if_neg (fun h => h.2 q)]
    · by_cases r : k < j
      · rw [if_pos ⟨r, q⟩, if_pos ⟨by omega, q⟩]
      · rw [if_neg (fun h => r h.1), if_neg (fun h => r (by omega))]
theorem Pre1.du {l ns : List Int} {n : Nat} {f : Nat → Int} (h : Pre1 l n n f) : DuF l ns n 0 f := by
  intro k hk
  have e := h k hk
  refine ⟨fun hA => ?_, fun hA => ?_⟩
  · rw [e, if_neg (fun h => h.2 hA)]
    exact fst_end0 _ _ _
  · rw [e, if_pos ⟨hk, hA⟩]
theorem made0 (n : Nat) : (madeCells #[Value.int .i64 0] n).toList = i64s (List.replicate n 0) := by
  rw [toList_madeCells_one]
  unfold i64s
  rw [List.map_replicate]
set_option maxRecDepth 100000 in
set_option maxHeartbeats 16000000 in
theorem wheelOnce_t (slots : Int) (l ns : List Int) (a b : Option Addr) (n c m d : Nat) (w : World) (hI : InI w a n c l) (hJ : InI w b m d ns) (hn : n ≤ 4611686018427387904) (hm : m ≤ 4611686018427387904) (hs : I64 slots) :
    Calls Try.prog 4 #[.int .i64 slots, .slice a n c, .slice b m d] w fun e w' => e = .returned (.bool true) ∧ Below w.heap.size w w' := by
  obtain ⟨i0, hi0, hz0, hz1, hz2⟩ := info_parts info3
  have en := nilEq
  have ef := fourNe
  have CA := Lib.hid (alive10_any w)
  have HI := Lib.hid hI
  have HJ := Lib.hid hJ
  have HS := Lib.hid hs
  clear hI hJ
  unfold I64 at hs
  go_enter Try.func4, Try.ntmps4
  go_wp2_with fail
  refine CA.out.mono ?_
  rintro e w1 ⟨rfl, hb⟩
  have HB1 := Lib.hid hb
  have CN := Lib.hid (wnew_t slots w1 HS.out)
  clear hb CA
  by_cases q : slots < 1 ∨ 1024 < slots ∨ (200 : Int) < (n : Int) ∨ (200 : Int) < (m : Int)
  · go_upto_region 4 with fail
    all_goals go_wp2
    all_goals first
      | (go_ret; exact ⟨rfl, HB1.out⟩)
      | (exfalso; omega)
  obtain ⟨q1, q2, q3, q4⟩ : 1 ≤ slots ∧ slots ≤ 1024 ∧ (n : Int) ≤ 200 ∧ (m : Int) ≤ 200 := by omega
  clear q
  go_upto_region 5 with fail
  have hOS : OkS slots := ⟨q1, q2⟩
  have hn2 : n ≤ 200 := by omega
  have hm2 : m ≤ 200 := by omega
  clear q1 q2 q3 q4 hs hn hm
  go_wp2_with fail
  refine CN.out.mono ?_
  rintro e w2 hW
  obtain ⟨p, rfl, hO⟩ := WOn.made hOS hW
  have hsz := hO.bel.size
  have HO := Lib.hid hO
  clear hW hO CN hOS
  go_wp2_with (first | (refine wpList_make_full w2 rfl _ _ 35 rfl w1.heap.size 3 i0 (.int .i64 0) 1 Try.underlying35 hi0 hz0 hz1 .i64 .i64 (n : Int) (n : Int) n rfl rfl rfl rfl (by rw [hz2]; omega) (by unfold maxLen; omega) hsz ?_))
  intro w3 hown hg
  have hb3 : Below w2.heap.size w2 w3 := (Below.refl _ _).grown hg (Nat.le_refl _) (fun k hk => by cases hk)
  rw [made0] at hown
  obtain ⟨g, hgg⟩ : ∃ g, g = w2.heap.size := ⟨_, rfl⟩
  rw [← hgg] at hown ⊢
  have S0 := Lib.hid (show WOg w1 w3 p g n (addT l 0) (fun _ => 0) by
    obtain ⟨F, h1⟩ := HO.out.st
    refine ⟨⟨F, h1.keep (tch_new hb3) (fun _ _ h => h), fun h => ?_⟩, bl_tr HO.out.bel hb3, ⟨⟨List.replicate n 0, hown, by simp, fun k hk => by simp [List.getD_eq_getElem?_getD, hk]⟩, by omega⟩⟩
    have := (h1.blocks g h).2
    omega)
  clear hsz HO hown hg hb3 hgg
  go_wp2
  go_loopw [54] (fun iv wr => ∃ (j : Nat) (f : Nat → Int), j ≤ n ∧ iv = .int .i64 j ∧ Hid (Pre1 l n j f) ∧ Hid (WOg w1 wr p g n (addT l j) f)) (fun iv _ => n - (intOf iv).toNat)
  case atStart => exact ⟨0, fun _ => 0, by omega, rfl, Lib.hid (fun k hk => by rw [if_neg (by omega)]), S0⟩
  case round =>
    obtain ⟨j, f, hj, rfl, HP, HN⟩ := hrel
    clear S0
    by_cases hlj : j < n
    · obtain ⟨b1, o1, rfl⟩ := in_blockI HI.out (by omega)
      have c1 := in_cellI (HI.out.below (bl_tr HB1.out HN.out.bel)) j hlj
      have ilj : (j : Int) < (n : Int) := by omega
      have j0 : (0 : Int) ≤ (j : Int) := by omega
      obtain ⟨x, hx⟩ : ∃ x, x = l.getD j 0 := ⟨_, rfl⟩
      have hxI : I64 x := by rw [hx]; have := fitI_at HI.out.fit (j := j) (by rw [HI.out.len]; exact hlj); unfold I64; omega
      have CS := Lib.hid (WOg.set HN.out (bl_al (Below.refl _ _) (.cells #[.int .i64 j] 3)) x [(j : Int)] 1 1 (in_oneT wr j (by omega)) (by have := addT_len (l := l) (j := j); omega) hxI)
      have hset := addT_set l j
      rw [← hx] at hset c1
      rw [hset] at CS
      have HX := Lib.hid hx
      clear hset hx hxI
      go_wp2_with fail
      refine CS.out.mono ?_
      rintro e w4 ⟨rfl, hO⟩
      have HN4 := Lib.hid hO
      clear CS c1 HN
      by_cases hA : OkA x
      · rw [if_pos hA, show errT 0 = Value.nilIface from rfl]
        have HP4 := Lib.hid (HP.out.yes (by rw [← HX.out]; exact hA))
        clear hA hO HP
        go_wp2
        go_roundw
        case rel => exact ⟨j + 1, f, by omega, by go_num, HP4, HN4⟩
        case measure => simp [intOf]; omega
      · rw [if_neg hA, show errT 4 = errnoT 4 from rfl]
        have HP4 := Lib.hid (HP.out.no (by rw [← HX.out]; exact hA))
        obtain ⟨c2, c3⟩ := hO.row.cell hlj
        have HN5 := Lib.hid (hO.put j (-1))
        by_cases q : x < 0
        · clear hA hO HP
          go_wp2
          go_roundw
          case rel => exact ⟨j + 1, _, by omega, by go_num, HP4, HN5⟩
          case measure => simp [intOf]; omega
        · have q2 : 1099511627776 < x := by unfold OkA at hA; omega
          have q3 : 0 ≤ x := by omega
          clear hA hO HP q
          go_wp2
          go_roundw
          case rel => exact ⟨j + 1, _, by omega, by go_num, HP4, HN5⟩
          case measure => simp [intOf]; omega
    · have hjn : j = n := by omega
      subst hjn
      have ilj : ¬ ((j : Int) < (j : Int)) := by omega
      have S1 := Lib.hid (show ∃ ts, LeF l ns j 0 ts ∧ DuF l ns j 0 f ∧ WOg w1 wr p g j ts f from ⟨addT l j, LeF.zero l ns j, HP.out.du, HN.out⟩)
      obtain ⟨w4, hw4⟩ : ∃ v, v = wr := ⟨_, rfl⟩
      rw [← hw4] at S1 ⊢
      clear HP HN hj hlj hw4 wr
      go_wp2
      go_loopw [77] (fun iv wr => ∃ (i : Nat) (f : Nat → Int), i ≤ m ∧ iv = .int .i64 i ∧ Hid (∃ ts, LeF l ns j i ts ∧ DuF l ns j i f ∧ WOg w1 wr p g j ts f)) (fun iv _ => m - (intOf iv).toNat)
      case atStart => exact ⟨0, f, by omega, rfl, S1⟩
      case round =>
        obtain ⟨i, f0, hi, rfl, HN⟩ := hrel
        obtain ⟨ts, hle, hdu, hN⟩ := HN.out
        clear S1 HN
        obtain ⟨w5, hw5⟩ : ∃ v, v = wr := ⟨_, rfl⟩
        rw [← hw5] at hN ⊢
        clear hw5 wr
        by_cases hlj : i < m
        · obtain ⟨b2, o2, rfl⟩ := in_blockI HJ.out (by omega)
          have c1 := in_cellI (HJ.out.below (bl_tr HB1.out hN.bel)) i hlj
          have ilm : (i : Int) < (m : Int) := by omega
          have i00 : (0 : Int) ≤ (i : Int) := by omega
          obtain ⟨now, hnow⟩ : ∃ x, x = ns.getD i 0 := ⟨_, rfl⟩
          have hnI : I64 now := by rw [hnow]; have := fitI_at HJ.out.fit (j := i) (by rw [HJ.out.len]; exact hlj); unfold I64; omega
          have CD := Lib.hid (hN.due now (by have := hle.len; omega) hnI)
          rw [← hnow] at c1
          have HL := Lib.hid (And.intro hle hdu)
          have HW := Lib.hid hnow
          clear hnI hnow hN hle hdu
          go_wp2_with fail
          refine CD.out.mono ?_
          rintro e w6 ⟨a6, c6, rfl, hK, hfar, hN⟩
          obtain ⟨ks, hks⟩ : ∃ ks, ks = dueT now ts := ⟨_, rfl⟩
          obtain ⟨M, hM⟩ : ∃ M, M = ks.length := ⟨_, rfl⟩
          rw [← hks, ← hM] at hK ⊢
          have hM2 : M ≤ 200 := by have := dueT_len now ts; rw [← hks, ← hM] at this; have := HL.out.1.len; omega
          have HKS := Lib.hid (And.intro hks hM)
          have HF := Lib.hid hfar
          have S2 := Lib.hid (show Mid j i (ks.take 0) f0 f0 ∧ InI w6 a6 M c6 ks ∧ WOg w1 w6 p g j (leftT now ts) f0 from ⟨fun k _ => by rw [List.take_zero, if_neg (by simp)], hK, hN⟩)
          clear CD c1 hK hfar hN hks hM
          go_wp2
          go_loopw [86] (fun qv wr => ∃ (q : Nat) (f : Nat → Int), q ≤ M ∧ qv = .int .i64 q ∧ Hid (Mid j i (ks.take q) f0 f ∧ InI wr a6 M c6 ks ∧ WOg w1 wr p g j (leftT now ts) f)) (fun qv _ => M - (intOf qv).toNat)
          case atStart => exact ⟨0, f0, by omega, rfl, S2⟩
          case round =>
            obtain ⟨q, f, hq, rfl, HN⟩ := hrel
            obtain ⟨hmid, hK, hN⟩ := HN.out
            clear S2 HN
            obtain ⟨w7, hw7⟩ : ∃ v, v = wr := ⟨_, rfl⟩
            rw [← hw7] at hN hK ⊢
            clear hw7 wr
            by_cases hqM : q < M
            · obtain ⟨hks, hM⟩ := HKS.out
              obtain ⟨hle, hdu⟩ := HL.out
              have hxm : ks.getD q 0 ∈ dueT now ts := by rw [← hks, List.getD_eq_getElem?_getD, List.getElem?_eq_getElem (by omega)]; exact List.getElem_mem _
              obtain ⟨k, hk, hkx⟩ := dueT_nat hle hxm
              rw [hkx] at hxm
              have hmem := (hdu.mem hle hk).1 (by rw [← HW.out]; exact hxm)
              have hout := hmid.out hk (by rw [hks]; exact dueT_nodup hle.key) (by omega) hkx
              obtain ⟨b6, o6, rfl⟩ := in_blockI hK (by omega)
              have c1 := in_cellI hK q hqM
              rw [hkx] at c1
              obtain ⟨c2, c3⟩ := hN.row.cell hk
              rw [hout, hmem.2.1] at c2
              obtain ⟨b1, o1, rfl⟩ := in_blockI HI.out (by omega)
              have c4 := in_cellI (HI.out.below (bl_tr HB1.out hN.bel)) k hk
              obtain ⟨y, hy⟩ : ∃ y, y = l.getD k 0 := ⟨_, rfl⟩
              have hle2 : y ≤ now := by rw [hy, HW.out]; exact hmem.2.2
              rw [← hy] at c4
              have iq : (q : Int) < (M : Int) := by omega
              have q0 : (0 : Int) ≤ (q : Int) := by omega
              have ik : (k : Int) < (j : Int) := by omega
              have k0 : (0 : Int) ≤ (k : Int) := by omega
              have S3 := Lib.hid (show Mid j i (ks.take (q + 1)) f0 (fun r => if r = k then (i : Int) + 1 else f r) ∧ InI (w7.setCell ⟨g, k, none⟩ (.int .i64 ((i : Int) + 1))) (some ⟨b6, o6, none⟩) M c6 ks ∧ WOg w1 (w7.setCell ⟨g, k, none⟩ (.int .i64 ((i : Int) + 1))) p g j (leftT now ts) (fun r => if r = k then (i : Int) + 1 else f r) from
                ⟨hmid.step (by omega) hkx, hK.tch (tch_set w7 ⟨g, k, none⟩ (.int .i64 ((i : Int) + 1))) (fun b' off e _ => HF.out b' off e), hN.put k ((i : Int) + 1)⟩)
              clear hks hM hle hdu hxm hmem hout hK hN hmid hy hkx
              go_wp2
              go_roundw
              case rel => exact ⟨q + 1, _, by omega, by go_num, S3⟩
              case measure => simp [intOf]; omega
            · have hqe : q = M := by omega
              subst hqe
              have iq : ¬ ((q : Int) < (q : Int)) := by omega
              have S3 := Lib.hid (show ∃ ts, LeF l ns j (i + 1) ts ∧ DuF l ns j (i + 1) f ∧ WOg w1 w7 p g j ts f by
                obtain ⟨hks, hM⟩ := HKS.out
                obtain ⟨hle, hdu⟩ := HL.out
                rw [hM, List.take_length, hks, HW.out] at hmid
                rw [HW.out] at hN
                exact ⟨_, hle.step, hdu.step hle hmid, hN⟩)
              clear hmid hK hN hqM hq
              go_wp2
              go_roundw
              case rel => exact ⟨i + 1, f, by omega, by go_num, S3⟩
              case measure => simp [intOf]; omega
        · have hie : i = m := by omega
          subst hie
          have ilm : ¬ ((i : Int) < (i : Int)) := by omega
          have HD := Lib.hid hdu
          have S2 := Lib.hid (show WOg w1 w5 p g j ts f0 from hN)
          clear hle hdu hN hlj hi
          go_wp2
          go_loopw [122] (fun kv wr => ∃ (k : Nat), k ≤ j ∧ kv = .int .i64 k ∧ Hid (WOg w1 wr p g j ts f0)) (fun kv _ => j - (intOf kv).toNat)
          case atStart => exact ⟨0, by omega, rfl, S2⟩
          case round =>
            obtain ⟨k, hk, rfl, HN⟩ := hrel
            clear S2
            obtain ⟨w6, hw6⟩ : ∃ v, v = wr := ⟨_, rfl⟩
            rw [← hw6] at HN ⊢
            clear hw6 wr
            by_cases hkj : k < j
            · obtain ⟨b1, o1, rfl⟩ := in_blockI HI.out (by omega)
              have c1 := in_cellI (HI.out.below (bl_tr HB1.out HN.out.bel)) k hkj
              have ikj : (k : Int) < (j : Int) := by omega
              have k0 : (0 : Int) ≤ (k : Int) := by omega
              obtain ⟨x, hx⟩ : ∃ x, x = l.getD k 0 := ⟨_, rfl⟩
              rw [← hx] at c1
              have HX := Lib.hid hx
              clear hx
              go_wp2
              go_loopw [18, 19] (fun zv iv wr => ∃ (e : Nat) (z : Int), e ≤ i ∧ iv = .int .i64 ((e : Int) - 1) ∧ zv = .int .i64 z ∧ Hid (Fst x ns e i z) ∧ Hid (WOg w1 wr p g j ts f0)) (fun _ iv _ => (intOf iv + 1).toNat)
              case atStart => exact ⟨i, 0, by omega, rfl, rfl, Lib.hid (fst_end0 _ _ _), HN⟩
              case round =>
                obtain ⟨e, z, he, rfl, rfl, HE, HN2⟩ := hrel
                clear HN
                obtain ⟨w7, hw7⟩ : ∃ v, v = wr := ⟨_, rfl⟩
                rw [← hw7] at HN2 ⊢
                clear hw7 wr
                by_cases he0 : e = 0
                · subst he0
                  have c2 := (HN2.out.row.cell hkj).1
                  have hz : OkA x → f0 k = z := fun hA => fst_one ((HD.out k hkj).1 (by rw [← HX.out]; exact hA)) (by rw [← HX.out]; exact HE.out)
                  have hz2 : ¬ OkA x → f0 k = -1 := fun hA => (HD.out k hkj).2 (by rw [← HX.out]; exact hA)
                  obtain ⟨y, hy⟩ : ∃ y, y = f0 k := ⟨_, rfl⟩
                  rw [← hy] at c2 hz hz2
                  clear hy c1
                  by_cases hA : OkA x
                  · have := hz hA
                    subst this
                    have hyy : (y != y) = false := by simp
                    clear hz hz2 hA HE
                    go_wp2
                    go_roundw
                    case rel => exact ⟨k + 1, by omega, by go_num, HN2⟩
                    case measure => simp [intOf]; omega
                  · have := hz2 hA
                    subst this
                    clear hz hz2 hA HE
                    by_cases hzz : z = -1
                    · subst hzz
                      go_wp2
                      go_roundw
                      case rel => exact ⟨k + 1, by omega, by go_num, HN2⟩
                      case measure => simp [intOf]; omega
                    · go_wp2
                      go_roundw
                      case rel => exact ⟨k + 1, by omega, by go_num, HN2⟩
                      case measure => simp [intOf]; omega
                · obtain ⟨r, rfl⟩ : ∃ r, e = r + 1 := ⟨e - 1, by omega⟩
                  rw [show (((r + 1 : Nat) : Int) - 1) = (r : Int) by omega]
                  obtain ⟨b2, o2, rfl⟩ := in_blockI HJ.out (by omega)
                  have c2 := in_cellI (HJ.out.below (bl_tr HB1.out HN2.out.bel)) r (by omega)
                  have r0 : (0 : Int) ≤ (r : Int) := by omega
                  have ri : (r : Int) < (i : Int) := by omega
                  obtain ⟨y, hy⟩ : ∃ y, y = ns.getD r 0 := ⟨_, rfl⟩
                  rw [← hy] at c2
                  by_cases hxy : x ≤ y
                  · have HE2 := Lib.hid (fst_dn_yes (z := 0) (show r < i by omega) (show x ≤ ns.getD r 0 by rw [← hy]; exact hxy))
                    clear hy HE c1
                    go_wp2
                    go_roundw
                    case rel => exact ⟨r, _, by omega, by go_num, by go_num, HE2, HN2⟩
                    case measure => simp [intOf]
                  · have HE2 := Lib.hid (fst_dn_no HE.out (show ¬ x ≤ ns.getD r 0 by rw [← hy]; exact hxy))
                    clear hy HE c1
                    go_wp2
                    go_roundw
                    case rel => exact ⟨r, _, by omega, by go_num, rfl, HE2, HN2⟩
                    case measure => simp [intOf]
            · have hke : k = j := by omega
              subst hke
              have ikj : ¬ ((k : Int) < (k : Int)) := by omega
              have HB := Lib.hid (bl_tr HB1.out HN.out.bel)
              clear HN
              go_wp2
              go_ret
              exact ⟨rfl, HB.out⟩
end Go.Proofs.Ythoegmcdohppoaa
