/- Contract of towpathlaw10.WheelSlots: it returns true. Conditions: the script came in. -/
import Derived.Test.YthoegmcdohppoaaTwo
import Derived.Deep.RegionHeld3
namespace Go.Proofs.Ythoegmcdohppoaa
open Go Go.RowKit
set_option linter.unusedVariables false
set_option linter.unusedSimpArgs false

theorem slots_ok (A : Int) : OkS (wrap64 (1 + wrap64 ((IntKind.u64.wrap A).tmod 1024))) := by
  have h0 : 0 ≤ IntKind.u64.wrap A := by rw [IntKind.wrap_u64]; omega
  rw [Int.tmod_eq_emod_of_nonneg h0, IntWalk.wrap64_in ((IntKind.u64.wrap A) % 1024) (by omega), IntWalk.wrap64_in _ (by omega)]
  unfold OkS
  omega
theorem WNew.yes {S : WhS} {w w' : World} {s : Int} {e : Ending} (hs : OkS s) (h : WNew S w s e w') : ∃ p F, e = .returned (.tuple #[.pointer (some ⟨p, 0, none⟩), .nilIface]) ∧ S w' w.heap.size F p [] ∧ Below w.heap.size w w' := by
  rcases h.1 with ⟨_, p, F, he, hS⟩ | ⟨hn, _⟩
  · exact ⟨p, F, he, hS, h.2⟩
  · exact absurd hs hn
/-- Behind j calls. -/
structure SlS (w0 w : World) (p q j : Nat) (K : Nat → Prop) (ts : List Wy) : Prop where
  two : Two WSt WSt w0 w p q K ts ts
  len : ts.length ≤ 800 * j
theorem kfar_in {w0 : World} {K : Nat → Prop} {a : Option Addr} {n c : Nat} {l : List Int} (h : InI w0 a n c l) : KFar w0 K a n := fun b off e hn => by
  subst e
  exact .inl (block_lt_of_cell (in_cellI h 0 hn))
theorem own_some {a : Option Addr} {n c b off : Nat} (e : a = some ⟨b, off, none⟩) : (Value.slice a n c).ownBlock = some b := by subst e; rfl
set_option maxRecDepth 100000 in
set_option maxHeartbeats 16000000 in
theorem wheelSlots_t (A B : Int) (os : List OpW) (ao : Option Addr) (n c : Nat) (w : World) (hI : SWIn w ao n os) (hn : n ≤ 1152921504606846976) (hl : ∀ j, j < n → (os.getD j opW).n ≤ 1152921504606846976) (hA : I64 A) (hB : I64 B) :
    Calls Try.prog 5 #[.int .i64 A, .int .i64 B, .slice ao n c] w fun e w' => e = .returned (.bool true) ∧ Below w.heap.size w w' := by
  have en := nilEq
  have CA := Lib.hid (alive10_any w)
  have CL := Lib.hid (fun U (hU : Below w.heap.size w U) => longW_t ao n c os U (hI.below hU) hn hl)
  have HI := Lib.hid hI
  clear hI hl
  unfold I64 at hA hB
  go_enter Try.func5, Try.ntmps5
  go_wp2_with fail
  refine CA.out.mono ?_
  rintro e w1 ⟨rfl, hb⟩
  have CL1 := Lib.hid (CL.out w1 hb)
  have HB1 := Lib.hid hb
  clear hb CA CL
  go_upto_region 4 with fail
  obtain ⟨s1, hs1⟩ : ∃ s, s = wrap64 (1 + wrap64 ((IntKind.u64.wrap A).tmod 1024)) := ⟨_, rfl⟩
  obtain ⟨s2, hs2⟩ : ∃ s, s = wrap64 (1 + wrap64 ((IntKind.u64.wrap B).tmod 1024)) := ⟨_, rfl⟩
  have HS1 : Hid (OkS s1) := Lib.hid (by rw [hs1]; exact slots_ok A)
  have HS2 : Hid (OkS s2) := Lib.hid (by rw [hs2]; exact slots_ok B)
  rw [← hs1, ← hs2]
  clear hs1 hs2 hA hB
  go_wp2_with fail
  refine CL1.out.mono ?_
  rintro e w2 ⟨z, rfl, hb, hz⟩
  have HB2 := Lib.hid (bl_tr HB1.out hb)
  have HZ := Lib.hid hz
  clear hb CL1 HB1 hz
  cases z with
  | true =>
    go_wp2
    go_ret
    exact ⟨rfl, HB2.out⟩
  | false =>
    have HFW := Lib.hid (HZ.out rfl).2
    have hn8 : n ≤ 800 := (HZ.out rfl).1
    have CN := Lib.hid (wnew_t s1 w2 (by have := HS1.out; unfold OkS at this; unfold I64; omega))
    clear HZ hn
    go_wp2_with fail
    refine CN.out.mono ?_
    rintro e w3 hW
    obtain ⟨p, F, rfl, hp, hb3⟩ := WNew.yes HS1.out hW
    have HP3 := Lib.hid (And.intro hp hb3)
    have CN2 := Lib.hid (wnew_t s2 w3 (by have := HS2.out; unfold OkS at this; unfold I64; omega))
    clear hW hp hb3 CN
    go_wp2_with fail
    refine CN2.out.mono ?_
    rintro e w4 hW
    obtain ⟨q, G, rfl, hq, hb4⟩ := WNew.yes HS2.out hW
    have S0 : Hid (SlS w2 w4 p q 0 Non []) := Lib.hid (by
      obtain ⟨hp, hb3⟩ := HP3.out
      refine ⟨⟨⟨F, G, hp.keep (tch_new hb4) (fun _ _ h => h), hq.base hb3.size, fun k hf hg => ?_, fun k hk => hk.elim⟩, bl_tr hb3 hb4, fun k hk => hk.elim⟩, by simp⟩
      have := (hp.blocks k hf).2
      have := (hq.blocks k hg).1
      omega)
    clear hW hq hb4 CN2 HP3 HS1 HS2
    go_wp2
    go_loopw [53] (fun iv wr => ∃ (j : Nat) (ts : List Wy), j ≤ n ∧ iv = .int .i64 j ∧ Hid (SlS w2 wr p q j Non ts)) (fun iv _ => n - (intOf iv).toNat)
    case atStart => exact ⟨0, [], by omega, rfl, S0⟩
    case round =>
      obtain ⟨j, ts, hj, rfl, HP⟩ := hrel
      obtain ⟨wo, hwo⟩ : ∃ v, v = wr := ⟨_, rfl⟩
      rw [← hwo] at HP ⊢
      clear S0 hwo wr
      have htl : ts.length ≤ 640000 := by have := HP.out.len; omega
      by_cases hlj : j < n
      · have ilj : (j : Int) < (n : Int) := by omega
        have j0 : (0 : Int) ≤ (j : Int) := by omega
        have hIr := HI.out.below (bl_tr HB2.out HP.out.two.bel)
        obtain ⟨b, off, rfl⟩ := hIr.block (by omega)
        obtain ⟨o, ho⟩ : ∃ o, o = os.getD j opW := ⟨_, rfl⟩
        obtain ⟨e0, e1, e2⟩ := hIr.cells hlj ho.symm
        have hfw := HFW.out j hlj
        have hti := HI.out.ints j hlj
        have hrow := fun U (hU : Below w.heap.size w U) => (HI.out.below hU).rows j hlj
        rw [← ho] at hfw hti
        simp only [← ho] at hrow
        obtain ⟨X, hX⟩ : ∃ X, X = WOpW wo o := ⟨_, rfl⟩
        obtain ⟨qo, hq⟩ : ∃ q, q = wo.heap.size := ⟨_, rfl⟩
        have hox : OxW X qo o := by rw [hX, hq]; exact OxW.new wo o
        have hbX : Below wo.heap.size wo X := by rw [hX]; exact bl_al (Below.refl _ _) _
        have hT : Two WSt WSt w2 X p q (fun k => k = qo) ts ts := HP.out.two.more okS1 okS1 hbX (fun k hk => .inr ⟨by subst hk hq; exact Nat.le_refl _, by subst hk hq; rw [hX]; simp⟩)
        have HLN := Lib.hid HP.out.len
        obtain ⟨kind, time, ra, rn, rc, ks⟩ := o
        simp only at e0 e1 e2 hfw hti hrow
        obtain ⟨c0, c1, c2⟩ := hox.cell
        simp only at c0 c1 c2
        have HX := Lib.hid (show X = wo.alloc (.cells #[.int .i64 kind, .int .i64 time, .slice ra rn rc] 37) from hX)
        have HQ := Lib.hid hq
        have HT := Lib.hid hT
        have HOX := Lib.hid hox
        have HROW := Lib.hid hrow
        have HTI := Lib.hid hti
        have HKF := Lib.hid (fun K => kfar_in (K := K) (hrow w2 HB2.out))
        have hkl : ks.length = rn := (hrow w2 HB2.out).len
        clear hIr ho hX hox hbX hT hq hrow hti HP
        go_upto_region 13 with fail
        rw [← HX.out, ← HQ.out]
        clear HX HQ e0 e1 e2
        by_cases hk0 : kind = 0
        · subst hk0
          obtain ⟨r, hr⟩ : ∃ r, r = setR time ks ts := ⟨_, rfl⟩
          have her := setR_err time ks ts
          have hrl := setR_len time ks ts
          have hD0 : Two WSt WSt w2 X.drew p q (fun k => k = qo) ts ts := HT.out.new okS1 okS1 (Below.refl _ _).drew
          have C1 := Lib.hid (hD0.set okS1 time ks ra rn rc (HROW.out _ (bl_tr HB2.out hD0.bel)) (HKF.out _) (by omega) HTI.out)
          rw [← hr] at C1 her hrl
          have CN := Lib.hid (fun U => num10_t r.1 her U)
          have hS0 : X.drew.cell? ⟨qo, 1, none⟩ = some (.int .i64 time) ∧ X.drew.cell? ⟨qo, 2, none⟩ = some (.slice ra rn rc) := ⟨c1, c2⟩
          have hox0 : OxW X.drew qo ⟨0, time, ra, rn, rc, ks⟩ := HOX.out
          have HOX0 := Lib.hid hox0
          have HR := Lib.hid hr
          clear hox0 her hr
          go_upto_region 17 with fail
          go_region_held3 (fun wx => wx.cell? ⟨qo, 1, none⟩ = some (.int .i64 time) ∧ wx.cell? ⟨qo, 2, none⟩ = some (.slice ra rn rc)) (first | (with_reducible exact hS0) | (with_reducible exact hS5) | (with_reducible exact hS6) | fail)
            (first | (go_at_call 13; (with_reducible refine C1.out.mono ?_); rintro e w5 ⟨rfl, h5, k5⟩; have hox5 := OxW.kpd HOX0.out k5 rfl; have hS5 := And.intro hox5.cell.2.1 hox5.cell.2.2; have C2 := Lib.hid (h5.symm.set okS1 time ks ra rn rc (HROW.out _ (bl_tr HB2.out h5.bel)) (HKF.out _) (by omega) HTI.out); rw [← HR.out] at C2) | (go_at_call 12; (with_reducible refine (CN.out _).mono ?_); rintro e w7 ⟨rfl, rfl⟩) | (go_at_call 13; (with_reducible refine C2.out.mono ?_); rintro e w6 ⟨rfl, h6, k6⟩; have hox6 := OxW.kpd hox5 k6 rfl; have hS6 := And.intro hox6.cell.2.1 hox6.cell.2.2) | fail)
          have hrr : (r.1 != r.1) = false := by simp
          have HN := Lib.hid (show SlS w2 w6 p q (j + 1) Non r.2 from ⟨h6.symm.less (fun _ h => h.elim), by have := HLN.out; omega⟩)
          clear hS0 hS5 hS6 hox5 hox6 h5 k5 h6 k6 hD0 C1 C2 CN HOX0 HR HT HOX c0 c1 c2
          go_wp2
          go_roundw
          case rel => exact ⟨j + 1, _, by omega, by go_num, HN⟩
          case measure => simp [intOf]; omega
        · have q0 : (kind == 0) = false := by simp [hk0]
          by_cases hk1 : kind = 1
          · subst hk1
            have hrl := cutsT_len ks ts
            obtain ⟨m, hm⟩ : ∃ m, m = cntsT ks ts := ⟨_, rfl⟩
            have hD0 : Two WSt WSt w2 X.drew p q (fun k => k = qo) ts ts := HT.out.new okS1 okS1 (Below.refl _ _).drew
            have C1 := Lib.hid (hD0.cancel okS1 ks ra rn rc (HROW.out _ (bl_tr HB2.out hD0.bel)) (HKF.out _) (by omega) (by omega))
            rw [← hm] at C1
            have hS0 : X.drew.cell? ⟨qo, 2, none⟩ = some (.slice ra rn rc) := c2
            have hox0 : OxW X.drew qo ⟨1, time, ra, rn, rc, ks⟩ := HOX.out
            have HOX0 := Lib.hid hox0
            have HM := Lib.hid hm
            clear hox0 hm
            go_upto_region 20 with fail
            go_region_held3 (fun wx => wx.cell? ⟨qo, 2, none⟩ = some (.slice ra rn rc)) (first | (with_reducible exact hS0) | (with_reducible exact hS5) | (with_reducible exact hS6) | fail)
              (first | (go_at_call 15; (with_reducible refine C1.out.mono ?_); rintro e w5 ⟨rfl, h5, k5⟩; have hox5 := OxW.kpd HOX0.out k5 rfl; have hS5 := hox5.cell.2.2; have C2 := Lib.hid (h5.symm.cancel okS1 ks ra rn rc (HROW.out _ (bl_tr HB2.out h5.bel)) (HKF.out _) (by omega) (by omega)); rw [← HM.out] at C2) | (go_at_call 15; (with_reducible refine C2.out.mono ?_); rintro e w6 ⟨rfl, h6, k6⟩; have hox6 := OxW.kpd hox5 k6 rfl; have hS6 := hox6.cell.2.2) | fail)
            have hrr : ((m : Int) != (m : Int)) = false := by simp
            have HN := Lib.hid (show SlS w2 w6 p q (j + 1) Non (cutsT ks ts) from ⟨h6.symm.less (fun _ h => h.elim), by have := HLN.out; omega⟩)
            clear hS0 hS5 hS6 hox5 hox6 h5 k5 h6 k6 hD0 C1 C2 HOX0 HM HT HOX c0 c1 c2
            go_wp2
            go_roundw
            case rel => exact ⟨j + 1, _, by omega, by go_num, HN⟩
            case measure => simp [intOf]; omega
          · have q1 : (kind == 1) = false := by simp [hk1]
            clear hk0 hk1
            have hrl := leftT_len time ts
            have hdl := dueT_len time ts
            obtain ⟨L, hL⟩ : ∃ L, L = dueT time ts := ⟨_, rfl⟩
            have hD0 : Two WSt WSt w2 X.drew p q (fun k => k = qo) ts ts := HT.out.new okS1 okS1 (Below.refl _ _).drew
            have C1 := Lib.hid (hD0.due okS1 time (by omega) HTI.out)
            rw [← hL] at C1 hdl
            have hS0 : X.drew.cell? ⟨qo, 1, none⟩ = some (.int .i64 time) := c1
            have hox0 : OxW X.drew qo ⟨kind, time, ra, rn, rc, ks⟩ := HOX.out
            have HOX0 := Lib.hid hox0
            have HL := Lib.hid hL
            clear hox0 hL
            go_upto_region 14 with fail
            go_region_held3 (fun wx => wx.cell? ⟨qo, 1, none⟩ = some (.int .i64 time)) (first | (with_reducible exact hS0) | (with_reducible exact hS5) | (with_reducible exact hS6) | (with_reducible exact hS7) | fail)
              (first | (go_at_call 20; (with_reducible refine C1.out.mono ?_); rintro e w5 ⟨a5, d5, rfl, i5, h5, k5⟩; have hox5 := OxW.kpd HOX0.out k5 rfl; have hS5 := hox5.cell.2.1; have C2 := Lib.hid (h5.symm.due okS1 time (by omega) HTI.out); rw [← HL.out] at C2) | (go_at_call 20; (with_reducible refine C2.out.mono ?_); rintro e w6 ⟨a6, d6, rfl, i6, h6, k6⟩; have hox6 := OxW.kpd hox5 k6 (.inl rfl); have hS6 := hox6.cell.2.1; have C3 := Lib.hid (ints_any L L a5 a6 L.length d5 L.length d6 w6 (inI_kpd i5 k6 (fun b off e => .inr (own_some e))) i6 (by omega) true (by simp))) | (go_at_call 19; (with_reducible refine C3.out.mono ?_); rintro e w7 ⟨rfl, hb7⟩; have hS7 := cell_later hb7 hS6) | fail)
            have HN := Lib.hid (show SlS w2 w7 p q (j + 1) Non (leftT time ts) from ⟨(h6.symm.new okS1 okS1 hb7).less (fun _ h => h.elim), by have := HLN.out; omega⟩)
            clear hS0 hS5 hS6 hS7 hox5 hox6 h5 k5 h6 k6 hb7 i5 i6 hD0 C1 C2 C3 HOX0 HL HT HOX c0 c1 c2
            go_wp2
            go_roundw
            case rel => exact ⟨j + 1, _, by omega, by go_num, HN⟩
            case measure => simp [intOf]; omega
      · have ilj : ¬ ((j : Int) < (n : Int)) := by omega
        have C1 := Lib.hid (HP.out.two.leng okS1 (by omega))
        obtain ⟨N, hN⟩ : ∃ N, N = ts.length := ⟨_, rfl⟩
        rw [← hN] at C1 htl
        have HNN := Lib.hid hN
        clear HP hlj hj hN
        go_wp2_with fail
        refine C1.out.mono ?_
        rintro e w5 ⟨rfl, h5, k5⟩
        have C2 := Lib.hid (h5.symm.leng okS1 (by rw [← HNN.out]; omega))
        rw [← HNN.out] at C2
        clear C1 h5 k5
        go_wp2_with fail
        refine C2.out.mono ?_
        rintro e w6 ⟨rfl, h6, k6⟩
        have C3 := Lib.hid (h6.symm.due okS1 4611686018427387904 (by rw [← HNN.out]; omega) (by unfold I64; omega))
        obtain ⟨L, hL⟩ : ∃ L, L = dueT 4611686018427387904 ts := ⟨_, rfl⟩
        have hdl := dueT_len 4611686018427387904 ts
        rw [← hL] at C3 hdl
        rw [← HNN.out] at hdl
        have HL := Lib.hid hL
        have hNN : ((N : Int) == (N : Int)) = true := by simp
        clear C2 h6 k6 hL
        go_wp2_with fail
        refine C3.out.mono ?_
        rintro e w7 ⟨a7, d7, rfl, i7, h7, k7⟩
        have C4 := Lib.hid (h7.symm.due okS1 4611686018427387904 (by rw [← HNN.out]; omega) (by unfold I64; omega))
        rw [← HL.out] at C4
        have HI7 := Lib.hid i7
        clear C3 h7 k7 i7
        go_wp2_with fail
        refine C4.out.mono ?_
        rintro e w8 ⟨a8, d8, rfl, i8, h8, k8⟩
        have C5 := Lib.hid (ints_any L L a7 a8 L.length d7 L.length d8 w8 (inI_kpd HI7.out k8 (fun b off e => .inr (own_some e))) i8 (by omega) true (by simp))
        have HB8 := Lib.hid (bl_tr HB2.out h8.bel)
        clear C4 i8 h8 k8 HI7
        go_wp2_with fail
        refine C5.out.mono ?_
        rintro e w9 ⟨rfl, hb9⟩
        have HB9 := Lib.hid (bl_tr HB8.out hb9)
        clear C5 hb9 HB8
        go_wp2
        go_ret
        exact ⟨rfl, HB9.out⟩
end Go.Proofs.Ythoegmcdohppoaa
