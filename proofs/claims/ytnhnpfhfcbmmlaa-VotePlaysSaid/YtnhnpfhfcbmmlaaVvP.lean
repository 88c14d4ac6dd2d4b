/- VotePlays's walk. Conditions: those stated. -/
import Derived.Test.YtnhnpfhfcbmmlaaVpC
import Derived.Test.YtnhnpfhfcbmmlaaVpN
import Derived.Test.YtnhnpfhfcbmmlaaVpF
import Derived.Test.YtnhnpfhfcbmmlaaVtC
import Derived.Deep.CutRange
import Derived.Deep.RegionHeld3
import Derived.Deep.CutBlock
namespace Go.Proofs.Ytnhnpfhfcbmmlaa
open Go Go.RowKit
set_option linter.unusedVariables false
set_option linter.unusedSimpArgs false

theorem mgr_eq (n : Int) (hn : i64c n) : True := trivial
set_option maxRecDepth 100000 in
set_option maxHeartbeats 32000000 in
theorem votePlays_t (node : Int) (hnode : i64c node) (a : Option Addr) (n c : Nat) (os : List OpV) (w : World) (hI : SvIn w a n c os) (hn : n ≤ 4611686018427387904) :
    Calls Try.prog 5 #[.int .i64 node, .slice a n c] w fun e w' => e = .returned (.bool true) ∧ Below w.heap.size w w' := by
  have hlen := hI.len
  have hroom := hI.room
  have HI := Lib.hid hI
  have CA := Lib.hid (alive_c w)
  clear hI
  go_enter Try.func5, Try.ntmps5
  go_wp2_with fail
  refine CA.out.mono ?_
  rintro e w1 ⟨rfl, hb1⟩
  have HB1 := Lib.hid hb1
  clear hb1 CA
  by_cases hbig : n > 60
  · have g : (n : Int) > 60 := by omega
    go_wp2
    go_ret
    exact ⟨rfl, HB1.out⟩
  · have g : ¬ (n : Int) > 60 := by omega
    have CO := Lib.hid (opened_c 4194304 node w1 (by decide) hnode)
    have CM := Lib.hid (fun W => mgrR_c node W)
    go_wp2_with fail
    refine CO.out.mono ?_
    rintro e w2 ⟨h1, h2, hb2⟩
    have HB2 := Lib.hid (bl_tr HB1.out hb2)
    by_cases hmg : IsMgr node
    · obtain ⟨s, p, rfl, hV⟩ := h1 hmg
      have hs0 : ((some (⟨s, 0, none⟩ : Addr)) == none) = false := rfl
      have hp0 : ((some (⟨p, 0, none⟩ : Addr)) == none) = false := rfl
      have HV2 := Lib.hid hV
      have HMG := Lib.hid hmg
      clear h1 h2 hV CO hb2
      go_wp2_with fail
      refine (CM.out _).mono ?_
      rintro e wz ⟨rfl, rfl⟩
      rw [decide_eq_true hmg]
      clear CM hmg
      obtain ⟨w3, hw3⟩ : ∃ W, W = w2.alloc (.cells (rvA node bl0 bl0 (.slice none 0 0)) tyRV) := ⟨_, rfl⟩
      obtain ⟨q, hq⟩ : ∃ q, q = w2.heap.size := ⟨_, rfl⟩
      have hQ : RVb w3 q node bl0 bl0 (.slice none 0 0) := by rw [hw3, hq]; exact heap_alloc_new w2 _
      have hb3 : Below w2.heap.size w2 w3 := by rw [hw3]; exact bl_al (Below.refl _ _) _
      have HB3 := Lib.hid (bl_tr HB2.out hb3)
      have S0 : Hid (PlI w1 w3 p s q node) := Lib.hid ⟨[], bl0, bl0, [], _, none, 0, [], HV2.out.grow hb3, enc_nil, fun k hk => .inl hk, ⟨.inr ⟨by rw [hq]; exact Nat.le_refl _, hQ.lt⟩, by rw [hq]; exact HV2.out.bel.size⟩, hQ, inC_nil w3, ⟨fun ad e => (by cases e), fun j hj => (by cases hj)⟩, ⟨fun ad e => (by cases e), fun j hj => (by cases hj)⟩⟩
      have HW3 : Hid (w3 = w2.alloc (.cells #[.int .i64 node, .int .i64 0, .int .i64 0, .int .i64 0, .int .i64 0, .slice none 0 0] tyRV) ∧ q = w2.heap.size) := Lib.hid ⟨hw3, hq⟩
      have HQ1 : Hid (∀ k, k < w1.heap.size → k < q) := Lib.hid (fun k hk => by rw [hq]; have := HV2.out.bel.size; omega)
      clear hw3 hq hQ hb3 HV2
      go_upto_region 11 with fail
      first | rw [← HW3.out.1, ← HW3.out.2] | trace_state
      go_wp2
      go_loopw [6, 9, 10, 11, 12, 13, 14, 15, 16, 17, 18, 19, 20, 21, 22, 23, 24, 25, 52] (fun vv _ _ _ _ _ _ _ _ _ _ _ _ _ _ _ _ _ iv wr => ∃ (i p : Nat), i ≤ n ∧ iv = .int .i64 i ∧ vv = .pointer (some ⟨p, 0, none⟩) ∧ Hid (PlI w1 wr p s q node)) (fun _ _ _ _ _ _ _ _ _ _ _ _ _ _ _ _ _ _ iv _ => n - (intOf iv).toNat)
      case atStart => exact ⟨0, p, by omega, rfl, rfl, S0⟩
      case round =>
        obtain ⟨i, p, hi, rfl, rfl, HS⟩ := hrel
        obtain ⟨w4, rfl⟩ : ∃ v, v = wr := ⟨_, rfl⟩
        clear S0
        have hp0 : ((some (⟨p, 0, none⟩ : Addr)) == none) = false := rfl
        by_cases hlt : i < n
        · have ii : (i : Int) < (n : Int) := by omega
          have i0 : (0 : Int) ≤ (i : Int) := by omega
          have ic : (i : Int) ≤ (c : Int) := by omega
          obtain ⟨l, pr, ac, ls, K, ao, cc, vs, hX⟩ := HS.out
          have hb14 := hX.on.bel
          obtain ⟨o, ho⟩ : ∃ o, o = os.getD i opV := ⟨_, rfl⟩
          obtain ⟨bo, oo, rfl, k0, k1, k2, k3, k4⟩ := (HI.out.below (bl_tr HB1.out hb14)).at hlt ho
          have hov : OvIn w1 o := by rw [ho]; exact (HI.out.below HB1.out).ops i hlt
          obtain ⟨w5, hw5⟩ : ∃ W, W = w4.alloc (.cells #[.int .i64 o.kind, .int .i64 o.b.n, .int .i64 o.b.node, .slice o.la o.ln o.lc, .slice o.aa o.an o.ac] tyOv) := ⟨_, rfl⟩
          obtain ⟨b, hbq⟩ : ∃ b, b = w4.heap.size := ⟨_, rfl⟩
          have hA := bxV_new w4 o
          rw [← hw5, ← hbq] at hA
          have hb5 : Below w4.heap.size w4 w5 := by rw [hw5]; exact bl_al (Below.refl _ _) _
          have HX5 := Lib.hid (hX.new hb5)
          have HA5 := Lib.hid hA
          have HW5 := Lib.hid (And.intro hw5 hbq)
          have HOV := Lib.hid hov
          have HB15 := Lib.hid (bl_tr hb14 hb5)
          have HKB : Hid (K b ∨ (w4.heap.size ≤ b ∧ b < w5.heap.size)) := Lib.hid (.inr ⟨by rw [hbq]; exact Nat.le_refl _, hA.lt⟩)
          have HLO : Hid (∀ K2 : Nat → Prop, (∀ k, k < w1.heap.size → K2 k) → LgK o.la o.ln o.us K2) := Lib.hid (fun K2 h => hov.log.lgk h)
          have HBQ : Hid (¬ b = q) := Lib.hid (fun e => by have := hX.rv.lt; omega)
          obtain ⟨d0, d1, d2, d3, d4⟩ := hA.cs
          have CL := Lib.hid (large_c o.lg o.us o.la o.ln o.lc w5 (hov.log.below (bl_tr hb14 hb5)) (Nat.le_trans hov.lnb (by decide)))
          obtain ⟨kind, bl, la, ln, lc, lg, us, aa, an, cca, ab⟩ := o
          clear hX hb14 hw5 hbq hA hb5 hov ho HS
          go_upto_region 14 with fail
          first | rw [show w4.alloc (.cells #[.int .i64 kind, .int .i64 bl.n, .int .i64 bl.node, .slice la ln lc, .slice aa an cca] tyOv) = w5 from HW5.out.1.symm, ← HW5.out.2] | trace_state
          clear k0 k1 k2 k3 k4
          go_wp2_with fail
          refine CL.out.mono ?_
          rintro e w6 ⟨rfl, hb6⟩
          have HX6 := Lib.hid (HX5.out.new hb6)
          have HA6 := Lib.hid (HA5.out.later hb6)
          have HB16 := Lib.hid (bl_tr HB15.out hb6)
          have HB6 := Lib.hid hb6
          clear hb6 CL HX5 HA5 d0 d1 d2 d3 d4 HW5
          obtain ⟨d0, d1, d2, d3, d4⟩ := HA6.out.cs
          by_cases hlg : 400 < totL lg
          · rw [decide_eq_true hlg]
            go_wp2
            go_ret
            exact ⟨rfl, bl_tr HB1.out HB16.out⟩
          · rw [decide_eq_false hlg]
            by_cases han : 100 < an
            · have ga : (100 : Int) < (an : Int) := by omega
              go_wp2
              go_ret
              exact ⟨rfl, bl_tr HB1.out HB16.out⟩
            · have ga : ¬ (100 : Int) < (an : Int) := by omega
              obtain ⟨K6, hX6, hK6⟩ : ∃ K6 : Nat → Prop, PlX w1 w6 p s q node l pr ac ls K6 ao cc vs ∧ K6 b := ⟨_, HX6.out, .inl HKB.out⟩
              have HX6 := Lib.hid hX6
              have HKB := Lib.hid hK6
              clear hX6 hK6
              go_upto_block 2 with fail
              go_cut [6, 10, 11, 12, 13, 14, 15, 16, 17, 18, 19, 20, 21, 22, 23] from 67 to 191 (fun vv okv _ _ _ _ _ _ _ _ _ _ _ _ _ wx => okv = .bool true ∧ ∃ p', vv = .pointer (some ⟨p', 0, none⟩) ∧ Hid (PlI w1 wx p' s q node))
              case first =>
                by_cases h0 : kind = 0
                · subst h0
                  have CP := Lib.hid (prepare_c w1 w6 p s 4194304 l l pr ac ls node K6 bl HOV.out.bty HX6.out.on)
                  clear d0 d3 d4
                  go_wp2_with fail
                  refine CP.out.mono ?_
                  intro e w7 hP
                  have hk7 := hP.kpt
                  have HRV7 : Hid (RVb w7 q node pr ac (.slice ao ls.length cc)) := Lib.hid ((hk7 q HX6.out.qK.1).trans HX6.out.rv)
                  have HLG7 := Lib.hid (HX6.out.log.kptw hk7 HX6.out.lgK)
                  have HA7 := Lib.hid (HA6.out.kpt hk7 HKB.out)
                  have HLT6 := Lib.hid (show q < w6.heap.size from HX6.out.rv.lt)
                  have HLW6 := Lib.hid (HX6.out.log.lgk (K := (· < w6.heap.size)) (fun k hk => hk))
                  clear hk7 CP d1 d2
                  obtain ⟨e0, e1, e2, e3, e4⟩ := HA7.out.cs
                  rcases hearN_cases bl pr with ⟨h0, hok, hlt0⟩ | hbad
                  · have hroom1 := HX6.out.enc.prep_room (size := 4194304) bl (by have := bytes_small HX6.out.enc.good; omega)
                    have hN : prepN 4194304 bl pr l = 0 := prepN_ok h0 hroom1
                    obtain ⟨aT, cT, vT, K2, rfl, hOT, hsub, hblk, hVn⟩ := hP.yes hN
                    have HE := Lib.hid (HX6.out.enc.prep hok hroom1)
                    have HOT := Lib.hid hOT
                    have HSUB := Lib.hid hsub
                    have HBLK := Lib.hid hblk
                    have HV7 := Lib.hid hVn
                    clear hok hlt0 hroom1 hN hOT hsub hblk hVn hP
                    obtain ⟨w8, hw8⟩ : ∃ W, W = w7.alloc (.cells #[.int .i64 ac.n, .int .i64 ac.node] tyB2) := ⟨_, rfl⟩
                    obtain ⟨q11, hq11⟩ : ∃ q, q = w7.heap.size := ⟨_, rfl⟩
                    have hb8 : Below w7.heap.size w7 w8 := by rw [hw8]; exact bl_al (Below.refl _ _) _
                    have hA11 := bxB_new w7 ac
                    rw [show w7.alloc (Bl.obj ac) = w8 from hw8.symm, ← hq11] at hA11
                    have HW8 := Lib.hid (And.intro hw8 hq11)
                    have HRV8 := Lib.hid (HRV7.out.later hb8)
                    have HLG8 := Lib.hid (HLG7.out.below hb8)
                    have HV8 := Lib.hid (HV7.out.grow hb8)
                    have HA8 := Lib.hid (HA7.out.later hb8)
                    have HB8 := Lib.hid hb8
                    have HA11 := Lib.hid hA11
                    have HOT8 := Lib.hid (HOT.out.later hb8)
                    have CR := Lib.hid (prepareR_c w8 q node pr ac ao ls.length cc bl HOV.out.bty HRV8.out)
                    clear hw8 hq11 hb8 hA11 e0 e3 e4 e1 e2
                    go_upto_region 24 with fail
                    rw [show w7.alloc (.cells #[.int .i64 ac.n, .int .i64 ac.node] tyB2) = w8 from HW8.out.1.symm, ← HW8.out.2]
                    obtain ⟨e0, e1, e2, e3, e4⟩ := HA8.out.cs
                    go_wp2_with fail
                    refine CR.out.mono ?_
                    intro e w9 hR
                    obtain ⟨rfl, hrv9⟩ := hR.yes h0
                    obtain ⟨w10, hw10⟩ : ∃ W, W = w9.alloc (.cells #[.int .i64 ac.n, .int .i64 ac.node] tyB2) := ⟨_, rfl⟩
                    obtain ⟨q14, hq14⟩ : ∃ q, q = w9.heap.size := ⟨_, rfl⟩
                    have hb10 : Below w9.heap.size w9 w10 := by rw [hw10]; exact bl_al (Below.refl _ _) _
                    have hA14 := bxB_new w9 ac
                    rw [show w9.alloc (Bl.obj ac) = w10 from hw10.symm, ← hq14] at hA14
                    have hT : Tch (· = q) w8 w10 := hR.tch.trans ((tch_new hb10).mono (fun _ h => h.elim))
                    have hq7 : q < w7.heap.size := HRV7.out.lt
                    have HBX : Hid (BxB w10 q11 ac ∧ BxB w10 q14 ac) := Lib.hid ⟨HA11.out.tch hT (by have := HW8.out.2; omega), hA14⟩
                    have HRV10 := Lib.hid (hrv9.later hb10)
                    have HLG10 : Hid (InC w10 ao ls.length cc ls vs) := Lib.hid (HLG8.out.kptw (K := fun k => k < w8.heap.size ∧ k ≠ q) (fun k hk => hT.block k hk.1 hk.2) ((HLG8.out.lgk (fun k hk => hk)).and HX6.out.sep))
                    have HV10 := Lib.hid (HV8.out.wgrow hT (fun k hk => by rw [hk]; exact ⟨.inl (HSUB.out q HX6.out.qK.1), HX6.out.qK.2⟩))
                    have HW10 := Lib.hid (And.intro hw10 hq14)
                    have HOT10 : Hid (OwC w10 w6.heap.size ls aT cT vT) := Lib.hid (HOT8.out.tch hT (fun k h1 h2 => by have := HLT6.out; omega))
                    clear HOT8 HOT
                    have qb := fun W => bl_eql ac ac W
                    rw [decide_eq_true rfl] at qb
                    clear hw10 hq14 hb10 hA14 hT hq7 hrv9 hR CR e0 e1 e2 e3 e4 HV8 HRV8 HLG8 HA8 HRV7 HLG7 HA7 HA11
                    go_upto_region 25 with fail
                    rw [show w9.alloc (.cells #[.int .i64 ac.n, .int .i64 ac.node] tyB2) = w10 from HW10.out.1.symm, ← HW10.out.2]
                    obtain ⟨z0, z1⟩ := HBX.out.1.at
                    obtain ⟨z2, z3⟩ := HBX.out.2.at
                    have HTR := Lib.hid (HOT10.out.in HX6.out.enc.typ)
                    have CS := Lib.hid (sameR_c ls vT vs aT ao ls.length cT cc w10 HTR.out HLG10.out (by have := HX6.out.enc.good.1; omega) (fun x hx2 => Nat.le_trans (goodC_es (HX6.out.enc.good.2.1 x hx2)) (by decide)))
                    have CN := Lib.hid (fun W => num13_t 0 (.inl rfl) W)
                    rw [show errF 0 = Value.nilIface from rfl] at CN
                    go_wp2_with fail
                    refine CS.out.mono ?_
                    rintro e w11 ⟨rfl, hb11⟩
                    have HV11 := Lib.hid (HV10.out.grow hb11)
                    have HRV11 := Lib.hid (HRV10.out.later hb11)
                    have HLG11 := Lib.hid (HLG10.out.below hb11)
                    have HOT11 := Lib.hid (HOT10.out.later hb11)
                    clear hb11 CS HTR HV10 HRV10 HLG10 HOT10 z0 z1 z2 z3 qb
                    go_wp2_with fail
                    refine (CN.out _).mono ?_
                    rintro e wz ⟨rfl, rfl⟩
                    have HTH := Lib.hid (own_there HOT11.out.own)
                    obtain ⟨m, hm⟩ : ∃ m, m = ls.length := ⟨_, rfl⟩
                    have HOS := Lib.hid HOT11.out.own
                    rw [← hm] at HTH HOS ⊢
                    have hmc : m ≤ cT := by rw [hm]; exact (HOT11.out.in HX6.out.enc.typ).room
                    have hm256 : m ≤ 256 := by rw [hm]; exact HX6.out.enc.good.1
                    have HM := Lib.hid hm
                    clear hm CN
                    go_wp2
                    go_loopw [17, 116] (fun _ iv wr => ∃ j : Nat, j ≤ m ∧ iv = .int .i64 j ∧ Hid (Tch (fun k => (Value.slice aT m cT).ownBlock = some k) w11 wr ∧ ∀ g, (Value.slice aT m cT).ownBlock = some g → wr.there g 0 (m * 12))) (fun _ iv _ => m - (intOf iv).toNat)
                    case atStart => exact ⟨0, by omega, rfl, Lib.hid ⟨Tch.refl _ _, HTH.out⟩⟩
                    case round =>
                      obtain ⟨j, hj, rfl, HJ⟩ := hrel
                      obtain ⟨wj, rfl⟩ : ∃ v, v = wr := ⟨_, rfl⟩
                      by_cases hjm : j < m
                      · have jj : (j : Int) < (m : Int) := by omega
                        have j0 : (0 : Int) ≤ (j : Int) := by omega
                        have jc : (j : Int) ≤ (cT : Int) := by omega
                        obtain ⟨gg, cap, eg, hgB⟩ := own_shape HOS.out (by omega)
                        have e1 : aT = some ⟨gg, 0, none⟩ := by simp only [Value.slice.injEq] at eg; exact eg.1
                        clear eg hgB
                        subst e1
                        have HT12 := Lib.hid (there_sub (HJ.out.2 gg rfl) (j * 12) 12 (by omega))
                        have HJ2 : Hid (Tch (fun k => (Value.slice (some ⟨gg, 0, none⟩) m cT).ownBlock = some k) w11 (wj.setCells gg (j * 12) zC.toList) ∧ ∀ g, (Value.slice (some ⟨gg, 0, none⟩) m cT).ownBlock = some g → (wj.setCells gg (j * 12) zC.toList).there g 0 (m * 12)) := Lib.hid ⟨HJ.out.1.trans ((tch_setCells gg zC.toList wj (j * 12)).mono (fun k hk => by rw [hk]; rfl)), fun g hg => World.there_setCells (HJ.out.2 g hg) _ _ _⟩
                        obtain ⟨wZ, hwZ⟩ : ∃ W, W = wj.setCells gg (j * 12) zC.toList := ⟨_, rfl⟩
                        rw [← hwZ] at HJ2
                        have HWZ := Lib.hid hwZ
                        clear hwZ
                        go_wp2_with (refine wpList_store_mid (by rfl) 42 (.tmp 122) (.tmp 121) (by rfl) gg (j * 12) zC (by rfl) (by rfl) HT12.out infoZ zC_one ?_; rw [← HWZ.out])
                        go_wp2
                        go_roundw
                        case rel => exact ⟨j + 1, by omega, by go_num, HJ2⟩
                        case measure => simp [intOf]; omega
                      · have jj : ¬ (j : Int) < (m : Int) := by omega
                        obtain rfl : j = m := by omega
                        have HF : Hid (PlI w1 wj p s q node) := Lib.hid (by
                          have hTj := HJ.out.1
                          rw [HM.out] at hTj
                          have hlt : ∀ k, (Value.slice aT ls.length cT).ownBlock = some k → w6.heap.size ≤ k := fun k hk => (HOT11.out.own.lt k hk).1
                          have hw16 := HX6.out.on.bel.size
                          refine ⟨_, bl, ac, ls, _, ao, cc, vs, HV11.out.write hTj (fun k hk => ⟨.inl (.inl (.inl (HBLK.out k hk))), by have := hlt k hk; omega⟩), HE.out, fun k hk => .inl (.inl (.inl (HSUB.out k (HX6.out.old k hk)))), ⟨.inl (.inl (.inl (HSUB.out q HX6.out.qK.1))), HX6.out.qK.2⟩, HRV11.out.tch hTj (fun h => by have := hlt q h; have := HLT6.out; omega), HLG11.out.kptw (K := fun k => k < w6.heap.size ∧ k < w11.heap.size) (fun k hk => hTj.block k hk.2 (fun h => by have := hlt k h; omega)) (HLW6.out.and (HLG11.out.lgk (fun k hk => hk))), HX6.out.lgK.mono (fun k hk => .inl (.inl (.inl (HSUB.out k hk)))), HX6.out.sep⟩)
                        clear HJ
                        go_wp2
                        go_meet
                        exact ⟨rfl, p, rfl, HF⟩
                  · have hne0 : hearN bl pr ≠ 0 := by rcases hbad with h | h <;> omega
                    have HNZ := Lib.hid hne0
                    have hN : prepN 4194304 bl pr l = hearN bl pr := prepN_bad hne0
                    obtain ⟨rfl, hVn⟩ := hP.no (by rw [hN]; exact hne0)
                    have HV7 := Lib.hid hVn
                    obtain ⟨N, hNe⟩ : ∃ N, N = hearN bl pr := ⟨_, rfl⟩
                    have hN89 : N = 8 ∨ N = 9 := by rw [hNe]; exact hbad
                    rw [hN, ← hNe]
                    have HNE := Lib.hid hNe
                    have CN : Hid (∀ W : World, Calls Try.prog 19 #[errF N] W fun e w' => e = .returned (.int .i64 N) ∧ W = w') := Lib.hid (fun W => by
                      rcases hN89 with h | h
                      · rw [h]; exact num8_t W
                      · rw [h]; exact num13_t 9 (by omega) W)
                    have ff : (N == N) = true := by simp
                    clear hne0 hN hVn hP hNe hN89 hbad
                    obtain ⟨w8, hw8⟩ : ∃ W, W = w7.alloc (.cells #[.int .i64 bl0.n, .int .i64 bl0.node] tyB2) := ⟨_, rfl⟩
                    obtain ⟨q11, hq11⟩ : ∃ q, q = w7.heap.size := ⟨_, rfl⟩
                    have hb8 : Below w7.heap.size w7 w8 := by rw [hw8]; exact bl_al (Below.refl _ _) _
                    have hA11 := bxB_new w7 bl0
                    rw [show w7.alloc (Bl.obj bl0) = w8 from hw8.symm, ← hq11] at hA11
                    have HW8 := Lib.hid (And.intro hw8 hq11)
                    have HRV8 := Lib.hid (HRV7.out.later hb8)
                    have HLG8 := Lib.hid (HLG7.out.below hb8)
                    have HV8 := Lib.hid (HV7.out.grow hb8)
                    have HA8 := Lib.hid (HA7.out.later hb8)
                    have HB8 := Lib.hid hb8
                    have HA11 := Lib.hid hA11
                    have CR := Lib.hid (prepareR_c w8 q node pr ac ao ls.length cc bl HOV.out.bty HRV8.out)
                    clear hw8 hq11 hb8 hA11 e0 e3 e4 e1 e2
                    go_upto_region 24 with fail
                    rw [show w7.alloc (.cells #[.int .i64 bl0.n, .int .i64 bl0.node] tyB2) = w8 from HW8.out.1.symm, ← HW8.out.2]
                    obtain ⟨e0, e1, e2, e3, e4⟩ := HA8.out.cs
                    go_wp2_with fail
                    refine CR.out.mono ?_
                    intro e w9 hR
                    obtain ⟨rfl, hrv9⟩ := hR.no HNZ.out
                    obtain ⟨w10, hw10⟩ : ∃ W, W = w9.alloc (.cells #[.int .i64 bl0.n, .int .i64 bl0.node] tyB2) := ⟨_, rfl⟩
                    obtain ⟨q14, hq14⟩ : ∃ q, q = w9.heap.size := ⟨_, rfl⟩
                    have hb10 : Below w9.heap.size w9 w10 := by rw [hw10]; exact bl_al (Below.refl _ _) _
                    have hA14 := bxB_new w9 bl0
                    rw [show w9.alloc (Bl.obj bl0) = w10 from hw10.symm, ← hq14] at hA14
                    have hT : Tch (· = q) w8 w10 := hR.tch.trans ((tch_new hb10).mono (fun _ h => h.elim))
                    have hq7 : q < w7.heap.size := HRV7.out.lt
                    have HBX : Hid (BxB w10 q11 bl0 ∧ BxB w10 q14 bl0) := Lib.hid ⟨HA11.out.tch hT (by have := HW8.out.2; omega), hA14⟩
                    have HRV10 := Lib.hid (hrv9.later hb10)
                    have HLG10 : Hid (InC w10 ao ls.length cc ls vs) := Lib.hid (HLG8.out.kptw (K := fun k => k < w8.heap.size ∧ k ≠ q) (fun k hk => hT.block k hk.1 hk.2) ((HLG8.out.lgk (fun k hk => hk)).and HX6.out.sep))
                    have HV10 := Lib.hid (HV8.out.wgrow hT (fun k hk => by rw [hk]; exact ⟨.inl HX6.out.qK.1, HX6.out.qK.2⟩))
                    have HW10 := Lib.hid (And.intro hw10 hq14)
                    have qb := fun W => bl_eql bl0 bl0 W
                    rw [decide_eq_true rfl] at qb
                    clear hw10 hq14 hb10 hA14 hT hq7 hrv9 hR CR e0 e1 e2 e3 e4 HV8 HRV8 HLG8 HA8 HRV7 HLG7 HA7 HA11
                    go_upto_region 25 with fail
                    rw [show w9.alloc (.cells #[.int .i64 bl0.n, .int .i64 bl0.node] tyB2) = w10 from HW10.out.1.symm, ← HW10.out.2]
                    obtain ⟨z0, z1⟩ := HBX.out.1.at
                    obtain ⟨z2, z3⟩ := HBX.out.2.at
                    have CS := Lib.hid (sameR_c [] [] [] none none 0 0 0 w10 (inC_nil w10) (inC_nil w10) (by decide) (fun x hx => (by cases hx)))
                    rw [← HNE.out]
                    go_wp2_with fail
                    refine CS.out.mono ?_
                    rintro e w11 ⟨rfl, hb11⟩
                    have HV11 := Lib.hid (HV10.out.grow hb11)
                    have HRV11 := Lib.hid (HRV10.out.later hb11)
                    have HLG11 := Lib.hid (HLG10.out.below hb11)
                    clear hb11 CS HV10 HRV10 HLG10 z0 z1 z2 z3 qb
                    go_wp2_with fail
                    refine (CN.out _).mono ?_
                    rintro e wz ⟨rfl, rfl⟩
                    have HF : Hid (PlI w1 w11 p s q node) := Lib.hid ⟨l, pr, ac, ls, _, ao, cc, vs, HV11.out, HX6.out.enc, fun k hk => .inl (.inl (.inl (HX6.out.old k hk))), ⟨.inl (.inl (.inl HX6.out.qK.1)), HX6.out.qK.2⟩, HRV11.out, HLG11.out, HX6.out.lgK.mono (fun k hk => .inl (.inl (.inl hk))), HX6.out.sep⟩
                    clear CN HV11 HRV11 HLG11
                    go_wp2
                    go_loopw [17, 116] (fun _ iv wr => iv = .int .i64 0 ∧ Hid (PlI w1 wr p s q node)) (fun _ iv _ => 0)
                    case atStart => exact ⟨rfl, HF⟩
                    case round =>
                      obtain ⟨rfl, HJ⟩ := hrel
                      obtain ⟨wj, rfl⟩ : ∃ v, v = wr := ⟨_, rfl⟩
                      go_wp2
                      go_meet
                      exact ⟨rfl, p, rfl, HJ⟩
                · by_cases h1 : kind = 1
                  · subst h1
                    have hM := HLO.out
                    have hTL : lg.length ≤ 400 := by have := totL_len lg; omega
                    have HES : Hid (∀ x ∈ lg, x.es.length ≤ 400) := Lib.hid (fun x hx => by have := totL_es hx; omega)
                    have HLN : Hid (lg.length = ln) := Lib.hid HOV.out.log.len
                    have hln : ln ≤ 400 := by have := HLN.out; omega
                    have HTY := Lib.hid HOV.out.log.typ
                    have CPY := Lib.hid (copyR_c lg us la ln lc w6 (HOV.out.log.below HB16.out) (by omega) (fun x hx => by have := HES.out x hx; omega))
                    clear hM
                    go_wp2_with fail
                    refine CPY.out.mono ?_
                    rintro e w7 ⟨⟨aM, cM, vM, rfl, hOM⟩, hb7⟩
                    have hM7 := hOM.in HTY.out
                    have hK7 := lgK_of (K := fun k => w6.heap.size ≤ k ∧ k < w7.heap.size) hOM.vlen (fun k hk => hOM.blk k hk)
                    rw [HLN.out] at hM7 hK7 ⊢
                    have HM7 := Lib.hid hM7
                    have HX7 := Lib.hid (HX6.out.new hb7)
                    have HA7 := Lib.hid (HA6.out.later hb7)
                    have HB17 := Lib.hid (bl_tr HB16.out hb7)
                    have HOM := Lib.hid hOM
                    have HKM : Hid (LgK aM ln vM (fun k => w6.heap.size ≤ k ∧ k < w7.heap.size)) := Lib.hid hK7
                    have HKB7 : Hid (K6 b ∨ (w6.heap.size ≤ b ∧ b < w7.heap.size)) := Lib.hid (.inl HKB.out)
                    obtain ⟨x, y⟩ := bl
                    have CA := Lib.hid (accept_c w1 w7.drew p s 4194304 l l pr ac ls node _ ⟨x, y⟩ HOV.out.bty (HX7.out.on.new (Below.refl _ _).drew).1 lg aM ln cM vM (hM7.below (Below.refl _ _).drew) (HKM.out.mono (fun k hk => .inr hk)) (by omega))
                    have hS0 : w7.drew.cell? ⟨b, 1, none⟩ = some (.int .i64 x) ∧ w7.drew.cell? ⟨b, 2, none⟩ = some (.int .i64 y) ∧ w7.drew.cell? ⟨b, 3, none⟩ = some (.slice la ln lc) := ⟨HA7.out.cs.2.1, HA7.out.cs.2.2.1, HA7.out.cs.2.2.2.1⟩
                    have HN : Hid (accN 4194304 ⟨x, y⟩ pr lg l = acR ⟨x, y⟩ pr lg ∧ (accN 4194304 ⟨x, y⟩ pr lg l = 0 ∨ accN 4194304 ⟨x, y⟩ pr lg l = 8 ∨ accN 4194304 ⟨x, y⟩ pr lg l = 9)) := Lib.hid (by
                      by_cases hg : GoodL lg
                      · have hr := HX6.out.enc.acc_room (size := 4194304) ⟨x, y⟩ lg (by have := bytes_small hg; omega)
                        unfold accN acR hearN
                        rw [if_pos hg, if_pos hg, hr]
                        by_cases h1 : OkB ⟨x, y⟩
                        · rw [if_pos h1]
                          by_cases h2 : LtB ⟨x, y⟩ pr
                          · rw [if_pos h2]; simp
                          · rw [if_neg h2]; simp
                        · rw [if_neg h1]; simp
                      · unfold accN acR
                        rw [if_neg hg, if_neg hg]
                        by_cases h1 : OkB ⟨x, y⟩
                        · rw [if_pos h1]; simp
                        · rw [if_neg h1]; simp)
                    obtain ⟨N, hNe⟩ : ∃ N, N = accN 4194304 ⟨x, y⟩ pr lg l := ⟨_, rfl⟩
                    rw [← hNe] at CA HN
                    have HNE := Lib.hid hNe
                    have HQ6 := Lib.hid (show q < w6.heap.size from HX6.out.rv.lt)
                    clear hOM hM7 hK7 hb7 CPY hNe d0 d1 d2 d3 d4
                    have HXC : Hid (N = acR ⟨x, y⟩ pr lg) := Lib.hid HN.out.1
                    have hN3 : N = 0 ∨ N = 8 ∨ N = 9 := HN.out.2
                    have CN : Hid (∀ W : World, Calls Try.prog 19 #[errF N] W fun e w' => e = .returned (.int .i64 N) ∧ W = w') := Lib.hid (fun W => by
                      rcases hN3 with h | h | h
                      · rw [h]; exact num13_t 0 (by omega) W
                      · rw [h]; exact num8_t W
                      · rw [h]; exact num13_t 9 (by omega) W)
                    have ff : (N == N) = true := by simp
                    have HNN := Lib.hid hN3
                    clear hN3
                    go_upto_region 33 with fail
                    go_region_held3 (fun wx => wx.cell? ⟨b, 1, none⟩ = some (.int .i64 x) ∧ wx.cell? ⟨b, 2, none⟩ = some (.int .i64 y) ∧ wx.cell? ⟨b, 3, none⟩ = some (.slice la ln lc)) (first | (with_reducible exact hS0) | (with_reducible assumption) | fail)
                      (first
                        | (go_at_call 33; (refine CA.out.mono ?_); rintro e w8 ⟨rfl, hAc⟩; have hA8 := (HA7.out.later (Below.refl _ _).drew).kpt hAc.kpt HKB7.out; have hS1 := (show w8.cell? ⟨b, 1, none⟩ = some (.int .i64 x) ∧ w8.cell? ⟨b, 2, none⟩ = some (.int .i64 y) ∧ w8.cell? ⟨b, 3, none⟩ = some (.slice la ln lc) from ⟨hA8.cs.2.1, hA8.cs.2.2.1, hA8.cs.2.2.2.1⟩))
                        | (go_at_call 19; (refine (CN.out _).mono ?_); rintro e wz ⟨rfl, rfl⟩)
                        | (go_at_call 34; have hrv8 : RVb w8 q node pr ac (.slice ao ls.length cc) := (hAc.kpt q HX7.out.qK.1).trans (HX7.out.rv.later (Below.refl _ _).drew); have hS8 := ((HOV.out.log.below HB17.out).below (Below.refl _ _).drew).kptw hAc.kpt (HLO.out _ (fun k hk => HX7.out.old k hk)); (refine (acceptR_c w8 q node pr ac _ ⟨x, y⟩ HOV.out.bty hrv8 lg us la ln lc hS8 (HLO.out _ HQ1.out) (by omega) (fun z hz => Nat.le_trans (HES.out z hz) (by decide))).mono ?_); intro e w9 hR; obtain rfl : e = .returned (.int .i64 N) := (by rw [HXC.out]; exact hR.val); have hA9 : BxV w9 b _ := hR.tch.at hA8 HBQ.out; have hS2 := (show w9.cell? ⟨b, 1, none⟩ = some (.int .i64 x) ∧ w9.cell? ⟨b, 2, none⟩ = some (.int .i64 y) ∧ w9.cell? ⟨b, 3, none⟩ = some (.slice la ln lc) from ⟨hA9.cs.2.1, hA9.cs.2.2.1, hA9.cs.2.2.2.1⟩))
                        | (go_at_call 21; have hM8 := (HM7.out.below (Below.refl _ _).drew).kptw hAc.kpt (HKM.out.mono (fun k hk => .inr hk)); have hM9 := hM8.kptw (K := fun k => (w6.heap.size ≤ k ∧ k < w7.heap.size) ∧ k < w8.heap.size) (fun k hk => hR.tch.block k hk.2 (fun e => by have := HQ6.out; omega)) (HKM.out.and (hM8.lgk (fun k hk => hk))); have hS9 := hS8.kptw (K := fun k => k < q ∧ k < w8.heap.size) (fun k hk => hR.tch.block k hk.2 (fun e => by omega)) ((HLO.out _ HQ1.out).and (hS8.lgk (fun k hk => hk))); (refine (sameR_c lg vM us aM la ln cM lc w9 hM9 hS9 (by omega) HES.out).mono ?_); rintro e wS ⟨rfl, hbS⟩; have hS3 := (show wS.cell? ⟨b, 1, none⟩ = some (.int .i64 x) ∧ wS.cell? ⟨b, 2, none⟩ = some (.int .i64 y) ∧ wS.cell? ⟨b, 3, none⟩ = some (.slice la ln lc) from ⟨cell_later hbS hS2.1, cell_later hbS hS2.2.1, cell_later hbS hS2.2.2⟩))
                        | fail)
                    all_goals
                      have HFIN : Hid (∀ wr, Tch (fun k => w6.heap.size ≤ k ∧ k < w7.heap.size) wS wr → PlI w1 wr p s q node) := Lib.hid (fun wr hT => pl_accept HX7.out HQ6.out HB16.out.size (fun k h1 h2 => .inr ⟨h1, h2⟩) (HX6.out.log.lgk (fun k hk => hk)) (Below.refl _ _).drew hAc hR (HNE.out.symm.trans HXC.out) HTY.out hbS hT)
                      have hOS : OwC wS w6.heap.size lg aM cM vM := HOM.out.blocks (fun k h1 h2 => by
                        have e1 : w8.heap[k]? = w7.heap[k]? := (hAc.kpt k (.inr ⟨h1, h2⟩)).trans ((Below.refl w7.heap.size w7).drew.block k h2)
                        have h8 : k < w8.heap.size := kpt_lt h2 e1
                        have h9 := hR.tch.size
                        have hq6 := HQ6.out
                        exact ((hbS.block k (by omega)).trans (hR.tch.block k h8 (by omega))).trans e1)
                      have HMIN : Hid (0 < ln → ∃ g, aM = some ⟨g, 0, none⟩ ∧ MinC wS w6.heap.size w7.heap.size g ln vM 0) := Lib.hid (fun h0 => by
                        have hl := HLN.out
                        have := MinC.of hOS (fun k hk => (HOM.out.blk k hk).2) HTY.out HES.out (by omega)
                        rw [hl] at this
                        exact this)
                      have hroom : ln ≤ cM := by have := (HOM.out.in HTY.out).room; have := HLN.out; omega
                      clear hS0 hS1 hS2 hS3 hM8 hM9 hS8 hS9 hA8 hA9 hrv8 hAc hR hbS hOS CA CN HXC HNN
                      go_wp2
                      go_loopw [19, 20, 150] (fun _ _ iv wr => ∃ i : Nat, i ≤ ln ∧ iv = .int .i64 i ∧ Hid (Tch (fun k => w6.heap.size ≤ k ∧ k < w7.heap.size) wS wr ∧ ∀ g, 0 < ln → aM = some ⟨g, 0, none⟩ → MinC wr w6.heap.size w7.heap.size g ln vM i)) (fun _ _ iv _ => ln - (intOf iv).toNat)
                      case atStart => exact ⟨0, by omega, rfl, Lib.hid ⟨Tch.refl _ _, fun g h0 e => by
                        obtain ⟨g2, e2, hm⟩ := HMIN.out h0
                        rw [e2] at e
                        cases e
                        exact hm⟩⟩
                      case round =>
                        obtain ⟨i, hi2, rfl, HJ⟩ := hrel
                        obtain ⟨wj, rfl⟩ : ∃ v, v = wr := ⟨_, rfl⟩
                        by_cases hil : i < ln
                        · have jj : (i : Int) < (ln : Int) := by omega
                          have j0 : (0 : Int) ≤ (i : Int) := by omega
                          have jc : (i : Int) ≤ (cM : Int) := by omega
                          obtain ⟨gg, eg, _⟩ := HMIN.out (by omega)
                          subst eg
                          have HMJ := Lib.hid (HJ.out.2 gg (by omega) rfl)
                          have hgN := HMJ.out.loc
                          have HGN := Lib.hid hgN
                          obtain ⟨a2, k2, c2, ev, hk2c, hk2, hth⟩ := HMJ.out.ends i (Nat.le_refl _) hil
                          have HEV := Lib.hid ev
                          have HTH := Lib.hid hth
                          have hc8 := HMJ.out.sl i (Nat.le_refl _) hil
                          rw [ev] at hc8
                          clear ev hth hgN
                          go_wp2
                          clear hc8
                          go_loopw [20, 160] (fun _ iv wr => ∃ j : Nat, j ≤ k2 ∧ iv = .int .i64 j ∧ Hid (Tch (fun k => w6.heap.size ≤ k ∧ k < w7.heap.size) wj wr ∧ MinC wr w6.heap.size w7.heap.size gg ln vM i)) (fun _ iv _ => k2 - (intOf iv).toNat)
                          case atStart => exact ⟨0, by omega, rfl, Lib.hid ⟨Tch.refl _ _, HMJ.out⟩⟩
                          case round =>
                            obtain ⟨j, hj2, rfl, HL⟩ := hrel
                            obtain ⟨wk, rfl⟩ : ∃ v, v = wr := ⟨_, rfl⟩
                            by_cases hjk : j < k2
                            · have jj2 : (j : Int) < (k2 : Int) := by omega
                              have j02 : (0 : Int) ≤ (j : Int) := by omega
                              have jc2 : (j : Int) ≤ (c2 : Int) := by omega
                              obtain ⟨xx, ex, hxg, hxB, hxN, _⟩ := HTH.out (by omega)
                              subst ex
                              have hc8 := HL.out.2.sl i (Nat.le_refl _) hil
                              rw [HEV.out] at hc8
                              have HT12 := Lib.hid (there_sub (HL.out.2.end_there hil HEV.out (by omega)) (j * 3) 3 (by omega))
                              have HL2 : Hid (Tch (fun k => w6.heap.size ≤ k ∧ k < w7.heap.size) wj (wk.setCells xx (j * 3) zE.toList) ∧ MinC (wk.setCells xx (j * 3) zE.toList) w6.heap.size w7.heap.size gg ln vM i) := Lib.hid ⟨HL.out.1.trans ((tch_setCells xx zE.toList wk (j * 3)).mono (fun k hk => by rw [hk]; exact ⟨hxB, hxN⟩)), HL.out.2.ends_wiped xx (j * 3) zE.toList hxg⟩
                              obtain ⟨wZ, hwZ⟩ : ∃ W, W = wk.setCells xx (j * 3) zE.toList := ⟨_, rfl⟩
                              rw [← hwZ] at HL2
                              have HWZ := Lib.hid hwZ
                              clear hwZ hxB hxN hxg
                              go_wp2_with (refine wpList_store_mid (by rfl) 74 (.tmp 171) (.tmp 170) (by rfl) xx (j * 3) zE (by rfl) (by rfl) HT12.out infoZE zE_one ?_; rw [← HWZ.out])
                              go_wp2
                              go_roundw
                              case rel => exact ⟨j + 1, by omega, by go_num, HL2⟩
                              case measure => simp [intOf]; omega
                            · have jj2 : ¬ (j : Int) < (k2 : Int) := by omega
                              have HT12 := Lib.hid (there_sub HL.out.2.row (i * 12) 12 (by omega))
                              have HJ2 : Hid (Tch (fun k => w6.heap.size ≤ k ∧ k < w7.heap.size) wS (wk.setCells gg (i * 12) zC.toList) ∧ ∀ g, 0 < ln → (some ⟨gg, 0, none⟩ : Option Addr) = some ⟨g, 0, none⟩ → MinC (wk.setCells gg (i * 12) zC.toList) w6.heap.size w7.heap.size g ln vM (i + 1)) := Lib.hid ⟨(HJ.out.1.trans HL.out.1).trans ((tch_setCells gg zC.toList wk (i * 12)).mono (fun k hk => by rw [hk]; exact HGN.out)), fun g _ e => by cases e; exact HL.out.2.row_wiped zC.toList rfl⟩
                              obtain ⟨wZ, hwZ⟩ : ∃ W, W = wk.setCells gg (i * 12) zC.toList := ⟨_, rfl⟩
                              rw [← hwZ] at HJ2
                              have HWZ := Lib.hid hwZ
                              clear hwZ
                              go_wp2_with (refine wpList_store_mid (by rfl) 42 (.tmp 176) (.tmp 175) (by rfl) gg (i * 12) zC (by rfl) (by rfl) HT12.out infoZ zC_one ?_; rw [← HWZ.out])
                              go_wp2
                              go_roundw
                              case rel => exact ⟨i + 1, by omega, by go_num, HJ2⟩
                              case measure => simp [intOf]; omega
                        · have jj : ¬ (i : Int) < (ln : Int) := by omega
                          have HF : Hid (PlI w1 wj p s q node) := Lib.hid (HFIN.out wj HJ.out.1)
                          clear HJ
                          go_wp2
                          go_meet
                          exact ⟨rfl, p, rfl, HF⟩
                  · by_cases h2 : kind = 2
                    · subst h2
                      obtain ⟨i2, hi2, hzb0, hzb1, hzb2⟩ := info_parts infoB2
                      have hAB6 : InBl w6 aa an cca ab := HOV.out.ab.below HB16.out
                      have HAB := Lib.hid hAB6
                      have HEM := Lib.hid (own_litB w6 w6.heap.size (Nat.le_refl _))
                      have HCE := Lib.hid ((hAB6.below (bl_al (Below.refl _ _) (.cells #[] tyB2))).cells)
                      have HCL : Hid ((cellsB ab).length = an * 2) := Lib.hid (by rw [cellsB_len, hAB6.len])
                      have HZ2 : Hid (aa = none → an = 0 ∧ cca = 0) := Lib.hid HOV.out.nab
                      have HBS : Hid (w6.heap.size ≤ (w6.alloc (.cells #[] tyB2)).heap.size) := Lib.hid (by simp)
                      have HTB := Lib.hid hAB6.typ
                      have d4a := (HA6.out.later (bl_al (Below.refl w6.heap.size w6) (.cells #[] tyB2))).cs.2.2.2.2
                      clear hAB6 d0 d1 d2 d3
                      go_wp2_with (at_builtin; refine append_any rfl (.tmp 180) (.tmp 182) 64 rfl w6.heap.size tyB2 i2 (.agg #[.int .i64 0, .int .i64 0]) 2 16 Try.underlying64 hi2 hzb0 hzb1 hzb2 rfl (by decide) _ 0 [] rfl HEM.out aa an cca (cellsB ab) rfl HZ2.out HCL.out HCE.out (cellsB_one' ab) (by unfold maxLen; omega) (by omega) HBS.out ?_)
                      intro v7 w7 hown7 hg7
                      obtain ⟨a7, c7, rfl⟩ := own_form hown7
                      try simp only [Nat.zero_add, List.nil_append] at hown7
                      have hb7 : Below w6.heap.size w6 w7 := ((bl_al (Below.refl w6.heap.size w6) (.cells #[] tyB2)).grown hg7 (by simp) (fun k hk => by cases hk; exact Nat.le_refl _))
                      have HI7 := Lib.hid (own_inBl hown7 HTB.out)
                      have HB7 := Lib.hid hb7
                      have HA7 := Lib.hid (HA6.out.later hb7)
                      obtain ⟨aW, cW, vW, hVW⟩ := HX6.out.on
                      obtain ⟨X, hX⟩ : ∃ X, X = clmB pr.n node ab := ⟨_, rfl⟩
                      have CA := Lib.hid (fun (wx : World) (hx : Below w7.heap.size w7 wx) => claim_c wx p s pr ac _ node (((bl_tr hb7 hx).block p hVW.ob.lt).trans hVW.ob) ab a7 an c7 (HI7.out.below hx) hVW.typ.1.1 (by omega))
                      have CB := Lib.hid (fun (wx : World) (hx : Below w7.heap.size w7 wx) => claimR_c wx q node pr ac _ (HX6.out.rv.later (bl_tr hb7 hx)) ab aa an cca (HAB.out.below (bl_tr hb7 hx)) hVW.typ.1.1 (by omega))
                      rw [← hX] at CA CB
                      have HSK : Hid (∀ wx, Below w7.heap.size w7 wx → wx.cell? ⟨b, 4, none⟩ = some (.slice aa an cca)) := Lib.hid (fun wx hx => (HA7.out.later hx).cs.2.2.2.2)
                      have hS0 := HSK.out w7.drew (Below.refl _ _).drew
                      have HD := Lib.hid (show Below w7.heap.size w7 w7.drew from (Below.refl _ _).drew)
                      have qb := fun W => bl_eql X X W
                      rw [decide_eq_true rfl] at qb
                      obtain ⟨x0, x1⟩ := X
                      clear hown7 hg7 hb7 hVW hX HEM HCE HCL HZ2 HBS HTB d4 d4a
                      go_upto_region 46 with fail
                      go_region_held3 (fun wx => wx.cell? ⟨b, 4, none⟩ = some (.slice aa an cca)) (first | (with_reducible exact hS0) | (with_reducible assumption) | fail)
                        (first
                          | (go_at_call 35; (with_reducible refine (CA.out _ HD.out).mono ?_); rintro e wG ⟨rfl, hbG⟩; have hbG7 := bl_tr HD.out hbG; have hS1 := HSK.out _ hbG7)
                          | (go_at_call 36; (with_reducible refine (CB.out _ hbG7).mono ?_); rintro e wH ⟨rfl, hbH⟩; have hbH7 := bl_tr hbG7 hbH; have hS2 := HSK.out _ hbH7)
                          | fail)
                      all_goals
                        have HF : Hid (PlI w1 wH p s q node) := Lib.hid ⟨_, _, _, _, _, _, _, _, HX6.out.new (bl_tr HB7.out hbH7)⟩
                        clear hS0 hS1 hS2 hbG hbG7 hbH hbH7 CA CB HSK HD HI7 HAB
                        go_wp2
                        go_meet
                        exact ⟨rfl, p, rfl, HF⟩
                    · have n0 : (kind == 0) = false := by simp [h0]
                      have n1 : (kind == 1) = false := by simp [h1]
                      have n2 : (kind == 2) = false := by simp [h2]
                      obtain ⟨aW, cW, vW, hVW⟩ := HX6.out.on
                      have CR := Lib.hid hVW.st.crash
                      have HVX := Lib.hid hVW
                      clear hVW d0 d1 d2 d3 d4
                      go_wp2_with fail
                      refine CR.out.mono ?_
                      rintro e w7 ⟨rfl, hS7, hk7⟩
                      have CO := Lib.hid (open_c w1 w7 s 4194304 l l node _ hS7 hnode HX6.out.enc.rows)
                      have HK7 := Lib.hid hk7
                      clear hS7 hk7 CR
                      go_wp2_with fail
                      refine CO.out.mono ?_
                      intro e w8 hO
                      obtain ⟨p', rfl, hV8⟩ := hO.yes HMG.out pr ac ls HX6.out.enc.ld.1 HX6.out.enc.ld.2
                      have hk8 := hO.kpt
                      have HF : Hid (PlI w1 w8 p' s q node) := Lib.hid (by
                        have hk := HK7.out.trans hk8
                        refine ⟨l, pr, ac, ls, K6, ao, cc, vs, hV8.less (fun k h => .inl h), HX6.out.enc, HX6.out.old, HX6.out.qK, (hk q (.inl HX6.out.qK.1)).trans HX6.out.rv, HX6.out.log.kptw (K := K6) (fun k h => hk k (.inl h)) HX6.out.lgK, HX6.out.lgK, HX6.out.sep⟩)
                      have hp1 : ((some (⟨p', 0, none⟩ : Addr)) == none) = false := rfl
                      have qe := nilEl
                      clear hO hV8 hk8 CO HK7 HVX
                      go_wp2
                      go_meet
                      exact ⟨rfl, p', rfl, HF⟩
              case rest =>
                obtain ⟨rfl, p', rfl, HS7⟩ := hcut
                obtain ⟨w7, hw7⟩ : ∃ v, v = wc := ⟨_, rfl⟩
                subst hw7
                obtain ⟨l7, pr7, ac7, ls7, K7, ao7, c7, vs7, hX7⟩ := HS7.out
                obtain ⟨aW, cW, vW, hVW⟩ := hX7.on
                have hp1 : ((some (⟨p', 0, none⟩ : Addr)) == none) = false := rfl
                have CC := Lib.hid (accepted_c w7 p' s pr7 ac7 ls7 aW cW vW node hVW.ob hVW.log hVW.few)
                have HVB := Lib.hid hVW.ob
                have HX7 := Lib.hid hX7
                clear HS7 hX7 hVW HX6 HA6 HKB HLO HB15 HB6 HB16 HOV d0 d1 d2 d3 d4 ga hlg han
                go_wp2_with fail
                refine CC.out.mono ?_
                rintro e w8 ⟨⟨aT, cT, vT, rfl, hOT⟩, hb8⟩
                obtain ⟨w9, hw9⟩ : ∃ W, W = w8.alloc (.cells #[.int .i64 ac7.n, .int .i64 ac7.node] tyB2) := ⟨_, rfl⟩
                obtain ⟨q24, hq24⟩ : ∃ q, q = w8.heap.size := ⟨_, rfl⟩
                have hb9 : Below w8.heap.size w8 w9 := by rw [hw9]; exact bl_al (Below.refl _ _) _
                have hA9 := bxB_new w8 ac7
                rw [show w8.alloc ac7.obj = w9 from hw9.symm, ← hq24] at hA9
                have HB79 := Lib.hid (bl_tr hb8 hb9)
                have HA9 := Lib.hid hA9
                have HW9 := Lib.hid (And.intro hw9 hq24)
                have HT9 := Lib.hid ((hOT.later hb9).in HX7.out.enc.typ)
                have HRV := Lib.hid (HX7.out.rv.later HB79.out)
                have CPW := Lib.hid (fun (wx : World) (hx : Below w9.heap.size w9 wx) => promised_c wx p' s pr7 ac7 _ node (((bl_tr HB79.out hx).block p' HVB.out.lt).trans HVB.out))
                have CS := Lib.hid (fun (wx : World) (hx : Below w9.heap.size w9 wx) => sameR_c ls7 vT vs7 aT ao7 ls7.length cT c7 wx (HT9.out.below hx) (HX7.out.log.below (bl_tr HB79.out hx)) (by have := HX7.out.enc.good.1; omega) (fun x hx2 => Nat.le_trans (goodC_es (HX7.out.enc.good.2.1 x hx2)) (by decide)))
                have HSK : Hid (∀ wx, Below w9.heap.size w9 wx → wx.cell? ⟨q24, 0, none⟩ = some (.int .i64 ac7.n) ∧ wx.cell? ⟨q24, 1, none⟩ = some (.int .i64 ac7.node) ∧ wx.cell? ⟨q, 1, none⟩ = some (.int .i64 pr7.n) ∧ wx.cell? ⟨q, 2, none⟩ = some (.int .i64 pr7.node) ∧ wx.cell? ⟨q, 3, none⟩ = some (.int .i64 ac7.n) ∧ wx.cell? ⟨q, 4, none⟩ = some (.int .i64 ac7.node) ∧ wx.cell? ⟨q, 5, none⟩ = some (.slice ao7 ls7.length c7)) := Lib.hid (fun wx hx => by
                  obtain ⟨v0, v1, v2, v3, v4, v5⟩ := (HRV.out.later hx).cs
                  exact ⟨(HA9.out.later hx).at.1, (HA9.out.later hx).at.2, v1, v2, v3, v4, v5⟩)
                have hS0 := HSK.out w9.drew (Below.refl _ _).drew
                have HD := Lib.hid (show Below w9.heap.size w9 w9.drew from (Below.refl _ _).drew)
                have hqn : ((some (⟨q, 0, none⟩ : Addr)) == none) = false := rfl
                have qb1 := fun W => bl_neq pr7 pr7 W
                have qb2 := fun W => bl_neq ac7 ac7 W
                rw [decide_eq_true rfl] at qb1 qb2
                simp only [Bool.not_true] at qb1 qb2
                obtain ⟨x7, y7⟩ := pr7
                obtain ⟨u7, t7⟩ := ac7
                clear hOT hb8 hb9 hA9 hw9 hq24 CC HRV HT9
                go_upto_region 50 with fail
                rw [show w8.alloc (.cells #[.int .i64 u7, .int .i64 t7] tyB2) = w9 from HW9.out.1.symm, ← HW9.out.2]
                go_region_held3 (fun wx => wx.cell? ⟨q24, 0, none⟩ = some (.int .i64 u7) ∧ wx.cell? ⟨q24, 1, none⟩ = some (.int .i64 t7) ∧ wx.cell? ⟨q, 1, none⟩ = some (.int .i64 x7) ∧ wx.cell? ⟨q, 2, none⟩ = some (.int .i64 y7) ∧ wx.cell? ⟨q, 3, none⟩ = some (.int .i64 u7) ∧ wx.cell? ⟨q, 4, none⟩ = some (.int .i64 t7) ∧ wx.cell? ⟨q, 5, none⟩ = some (.slice ao7 ls7.length c7)) (first | (with_reducible exact hS0) | (with_reducible assumption) | fail)
                  (first
                    | (go_at_call 40; (with_reducible refine (CPW.out _ HD.out).mono ?_); rintro e wG ⟨rfl, hbG⟩; have hbG8 := bl_tr HD.out hbG; have hS1 := HSK.out _ hbG8)
                    | (go_at_call 21; (with_reducible refine (CS.out _ hbG8).mono ?_); rintro e wH ⟨rfl, hbH⟩; have hbH8 := bl_tr hbG8 hbH; have hS2 := HSK.out _ hbH8)
                    | fail)
                all_goals
                  have HF : Hid (PlI w1 wH p' s q node) := Lib.hid ⟨_, _, _, _, _, _, _, _, HX7.out.new (bl_tr HB79.out hbH8)⟩
                  clear hS0 hS1 hS2 hbG hbG8 hbH hbH8 CS CPW HSK qb1 qb2 HX7 HA9 HD
                  go_wp2
                  go_roundw
                  case rel => exact ⟨i + 1, p', by omega, by go_num, rfl, HF⟩
                  case measure => simp [intOf]; omega
        · have ii : ¬ (i : Int) < (n : Int) := by omega
          obtain rfl : i = n := by omega
          obtain ⟨l, pr, ac, ls, K, ao, cc, vs, hX⟩ := HS.out
          have HBF := Lib.hid (bl_tr HB1.out hX.on.bel)
          clear hX
          go_wp2
          go_ret
          exact ⟨rfl, HBF.out⟩
    · have e0 := h2 hmg
      subst e0
      clear h1 h2 CO hb2
      go_wp2_with fail
      refine (CM.out _).mono ?_
      rintro e wz ⟨rfl, rfl⟩
      rw [decide_eq_false hmg]
      clear CM hmg
      go_wp2
      go_ret
      exact ⟨rfl, HB2.out⟩
end Go.Proofs.Ytnhnpfhfcbmmlaa
