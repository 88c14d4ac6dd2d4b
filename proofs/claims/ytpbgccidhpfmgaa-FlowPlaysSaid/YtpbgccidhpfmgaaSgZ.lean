/- Contract of sort.pdqsort_func where 'less' may make blocks of its own. Conditions: as stated. -/
import Derived.Test.YtpbgccidhpfmgaaSgX
import Derived.Test.YtpbgccidhpfmgaaSgH
import Derived.Test.YtpbgccidhpfmgaaSgC
import Derived.Test.YtpbgccidhpfmgaaSgT
import Derived.Test.YtpbgccidhpfmgaaSgR
import Derived.Deep.CutRange
import Derived.Deep.Cut
namespace Go.Proofs.Ytpbgccidhpfmgaa
open Go Go.RowKit Go.Sort
set_option linter.unusedVariables false
set_option linter.unusedSimpArgs false

variable {α : Type} [Inhabited α] {enc : α → List Value} {k : Nat} {lt : α → α → Bool} {g : Nat} {lb : Array Value} {sf : Nat} {sb : Array Value} {blk n : Nat} {w0 : World} {d0 : Array α}
theorem hint_two {h : Hint} (e : hintCode h = 2) : h = .decreasing := by cases h <;> simp [hintCode] at e ⊢
set_option maxRecDepth 1000000 in
set_option maxHeartbeats 8000000 in
theorem pdq_g (S : Sgt enc k lt g lb sf sb blk n w0 d0) (hO : SWO lt) : ∀ (N a b limit : Nat) (d : Array α) (w : World), b - a < N → SWK enc k w0 blk 0 d w → d.size = n → a ≤ b → b ≤ n → limit < 4611686018427387904 → Go.Sort.Below lt a b d →
    Calls Try.prog 89 #[.agg #[.func (.func g) #[] lb, .func (.func sf) #[] sb], .int .i64 a, .int .i64 b, .int .i64 limit] w fun e w' => e = .returned (.tuple #[]) ∧ Sgo enc k blk n w0 w (pdq lt d a b limit true true) w' := by
  have hsz := S.sz
  have eg := S.eg
  intro N
  induction N with
  | zero => intro _ _ _ _ _ h; exact absurd h (Nat.not_lt_zero _)
  | succ N ih =>
    intro a b limit d w hN hw hl hab hb hlimit hBel0
    have hne : w.heap.size ≠ blk := by have := hw.lt S.inb; omega
    have H0 := Lib.hid (Sgw.start (n := n) hw hl 154 (.func (.func g) #[] lb) (.func (.func sf) #[] sb))
    have IH := Lib.hid ih
    have HB0 := Lib.hid hBel0
    clear hw hl ih hBel0
    go_enter Try.func89, Try.ntmps89
    go_wp2
    go_loopg [1, 2, 3, 8, 9] (b - a) (fun kx s1 s2 s3 s8 s9 wr => ∃ (a' b' lim : Nat) (wb wp : Bool) (dk : Array α), s1 = .int .i64 a' ∧ s2 = .int .i64 b' ∧ s3 = .int .i64 lim ∧ s8 = .bool wb ∧ s9 = .bool wp ∧
      a' ≤ b' ∧ b' ≤ n ∧ b' - a' ≤ kx ∧ kx ≤ b - a ∧ lim ≤ limit ∧ Hid (Go.Sort.Below lt a' b' dk) ∧ Hid (Sgw enc k (.func (.func g) #[] lb) (.func (.func sf) #[] sb) blk n w0 w dk wr) ∧ Hid (pdq lt dk a' b' lim wb wp = pdq lt d a b limit true true))
    case atStart => exact ⟨a, b, limit, true, true, d, rfl, rfl, rfl, rfl, rfl, hab, hb, Nat.le_refl _, Nat.le_refl _, Nat.le_refl _, HB0, H0, Lib.hid rfl⟩
    case round =>
      obtain ⟨a', b', lim, wb, wp, dk, rfl, rfl, rfl, rfl, rfl, hab', hb', hkx, hkN, hlim, HBel, HS, HE⟩ := hrel
      obtain ⟨w2, rfl⟩ : ∃ v, v = wr := ⟨_, rfl⟩
      clear H0 HB0
      by_cases h12 : b' - a' ≤ 12
      · have h12z : (b' : Int) - (a' : Int) ≤ 12 := by omega
        have x0 := HS.out.c0
        have x1 := HS.out.c1
        have hc := ins_g S a' b' dk w2 HS.out.sw HS.out.len hab' hb'
        go_wp2_with fail
        refine hc.mono ?_
        rintro e w3 ⟨rfl, h3⟩
        have H3 := Lib.hid (HS.out.step hne h3.1 h3.2.1 h3.2.2)
        clear h3 hc x0 x1
        go_wp2
        (try simp only [Exit.inBlock, Exit.then]); refine bodyPost_ret (results_none rfl _ _ _) rfl ?_
        refine ⟨rfl, ?_⟩
        rw [← HE.out, pdq_small h12]
        exact H3.out.end_
      · have h12z : ¬ ((b' : Int) - (a' : Int) ≤ 12) := by omega
        by_cases hl0 : lim = 0
        · have hl0z : ((lim : Int) == 0) = true := by simp [hl0]
          have HE2 := Lib.hid (show pdq lt d a b limit true true = heapSort lt dk a' b' by rw [← HE.out]; exact pdq_heap h12 hl0)
          clear hl0
          have x0 := HS.out.c0
          have x1 := HS.out.c1
          have hc := heap_g S a' b' dk w2 HS.out.sw HS.out.len hab' hb'
          go_wp2_with fail
          refine hc.mono ?_
          rintro e w3 ⟨rfl, h3⟩
          have H3 := Lib.hid (HS.out.step hne h3.1 h3.2.1 h3.2.2)
          clear h3 hc x0 x1
          go_wp2
          (try simp only [Exit.inBlock, Exit.then]); refine bodyPost_ret (results_none rfl _ _ _) rfl ?_
          refine ⟨rfl, ?_⟩
          rw [HE2.out]
          exact H3.out.end_
        · have hl0z : ((lim : Int) == 0) = false := by simp; omega
          have hlp : 0 < lim := by omega
          have hdk : dk.size = n := HS.out.len
          obtain ⟨R, HR⟩ : ∃ R, Hid (RdF lt dk a' b' lim wb wp R) := ⟨_, Lib.hid (rdF hO wb wp (by omega) (by omega) HBel.out h12 hl0)⟩
          have s1 : R.d1.size = n := HR.out.s1.trans hdk
          have s2 : R.d2.size = n := HR.out.s2.trans hdk
          have s3 : R.pi.1.size = n := HR.out.s3.trans hdk
          have lml := HR.out.limle
          have pv1 := HR.out.p.1
          have pv2 := HR.out.p.2
          have cv1 := HR.out.c.1
          have cv2 := HR.out.c.2
          have hlt' : a' < b' := by omega
          clear hdk HBel hl0
          go_upto_if 35 with fail
          go_cut [3] from 19 to 129 (fun sv wc => sv = .int .i64 R.lim ∧ Hid (Sgw enc k (.func (.func g) #[] lb) (.func (.func sf) #[] sb) blk n w0 w R.d1 wc))
          case first =>
            have x0 := HS.out.c0
            have x1 := HS.out.c1
            cases wb with
            | false =>
              obtain ⟨e1, e2⟩ := HR.out.bf rfl
              have hc := brk_g S a' b' dk w2 HS.out.sw HS.out.len hab' hb' (by rw [← e1]; exact s1)
              rw [← e1] at hc
              have E2 := Lib.hid e2
              clear e1 e2
              go_wp2_with fail
              refine hc.mono ?_
              rintro e w3 ⟨rfl, h3⟩
              have H3 := Lib.hid (HS.out.step hne h3.1 h3.2.1 h3.2.2)
              clear h3 hc x0 x1
              go_wp2
              go_meet
              case rel => exact ⟨by rw [E2.out]; congr 1; omega, H3⟩
            | true =>
              obtain ⟨e1, e2⟩ := HR.out.bt rfl
              have E1 := Lib.hid e1
              have E2 := Lib.hid e2
              clear e1 e2
              go_wp2
              go_meet
              case rel => exact ⟨by rw [E2.out], by rw [E1.out]; exact HS⟩
          case rest =>
            obtain ⟨rfl, H1⟩ := hcut
            clear HS
            have x0 := H1.out.c0
            have x1 := H1.out.c1
            have hc := piv_g S a' b' R.d1 wc H1.out.sw s1 hlt' hb'
            rw [← HR.out.cc] at hc
            go_wp2_with fail
            refine hc.mono ?_
            rintro e w4 ⟨rfl, hsw4, ht4⟩
            have H2 := Lib.hid (H1.out.step hne hsw4 s1 (ht4.mono (fun _ h => h.elim)))
            clear hc hsw4 ht4 x0 x1
            go_upto_if 50 with fail
            go_cut [11, 12] from 19 to 129 (fun u11 u12 wc => u11 = .int .i64 R.pivot ∧ u12 = .int .i64 (hintCode R.hint) ∧ Hid (Sgw enc k (.func (.func g) #[] lb) (.func (.func sf) #[] sb) blk n w0 w R.d2 wc))
            case first =>
              have x0 := H2.out.c0
              have x1 := H2.out.c1
              by_cases hh : R.c.2 = .decreasing
              · obtain ⟨e1, e2, e3⟩ := HR.out.dec hh
                have hcode : (hintCode R.c.2 == 2) = true := by rw [hh]; rfl
                have hc := rev_g S a' b' R.d1 w4 H2.out.sw s1 hab' hb' (by rw [← e1]; exact s2)
                rw [← e1] at hc
                have E2 := Lib.hid e2
                have E3 := Lib.hid e3
                clear e1 e2 e3 hh
                go_wp2_with fail
                refine hc.mono ?_
                rintro e w5 ⟨rfl, h5⟩
                have H3 := Lib.hid (H2.out.step hne h5.1 h5.2.1 h5.2.2)
                clear h5 hc x0 x1
                go_wp2
                go_meet
                case rel => exact ⟨by rw [E2.out]; congr 1; omega, by rw [E3.out]; rfl, H3⟩
              · obtain ⟨e1, e2, e3⟩ := HR.out.ndec hh
                have hcode : (hintCode R.c.2 == 2) = false := by
                  simp only [beq_eq_false_iff_ne, ne_eq]
                  exact fun h => hh (hint_two h)
                have E1 := Lib.hid e1
                have E2 := Lib.hid e2
                have E3 := Lib.hid e3
                clear e1 e2 e3 hh
                go_wp2
                go_meet
                case rel => exact ⟨by rw [E2.out], by rw [E3.out], by rw [E1.out]; exact H2⟩
            case rest =>
              obtain ⟨rfl, rfl, H3⟩ := hcut
              clear H1 H2
              go_upto_region 16 with fail
              go_cut [12, 68] from 19 to 129 (fun u12 u68 wx => u12 = .int .i64 (hintCode R.hint) ∧ u68 = .bool (wb && wp && decide (R.hint = .increasing)) ∧ wx = wc)
              case first =>
                clear HE H3 HR
                cases wb <;> cases wp <;> cases hh3 : R.hint <;>
                  (have hcode3 := congrArg hintCode hh3
                   simp only [hintCode] at hcode3
                   go_wp2
                   go_meet
                   exact ⟨by simp [hh3, hintCode], by simp [hh3, hintCode], rfl⟩)
              case rest =>
                obtain ⟨rfl, rfl, rfl⟩ := hcut
                obtain ⟨w6, rfl⟩ : ∃ v, v = wc := ⟨_, rfl⟩
                go_upto_if 68 with fail
                go_cut [] from 19 to 129 (fun wx => R.pi.2 = false ∧ Hid (Sgw enc k (.func (.func g) #[] lb) (.func (.func sf) #[] sb) blk n w0 w R.pi.1 wx))
                case first =>
                  have x0 := H3.out.c0
                  have x1 := H3.out.c1
                  cases h68 : (wb && wp && decide (R.hint = .increasing)) with
                  | false =>
                    have EP := Lib.hid (HR.out.piN h68)
                    go_wp2
                    go_meet
                    case rel => exact ⟨by rw [EP.out], by rw [EP.out]; exact H3⟩
                  | true =>
                    have hc := partins_g S a' b' R.d2 w6 H3.out.sw s2 hlt' hb'
                    rw [← HR.out.piY h68] at hc
                    cases hp2 : R.pi.2 with
                    | true =>
                      have HD := Lib.hid (HR.out.done hp2)
                      rw [hp2] at hc
                      go_wp2_with fail
                      refine hc.mono ?_
                      rintro e w7 ⟨rfl, h7⟩
                      have H7 := Lib.hid (H3.out.step hne h7.1 h7.2.1 h7.2.2)
                      clear h7 hc x0 x1
                      go_wp2
                      (try simp only [Exit.inBlock, Exit.then]); refine bodyPost_ret (results_none rfl _ _ _) rfl ?_
                      refine ⟨rfl, ?_⟩
                      rw [← HE.out, HD.out]
                      exact H7.out.end_
                    | false =>
                      have HP2 := Lib.hid hp2
                      rw [hp2] at hc
                      clear hp2
                      go_wp2_with fail
                      refine hc.mono ?_
                      rintro e w7 ⟨rfl, h7⟩
                      have H7 := Lib.hid (H3.out.step hne h7.1 h7.2.1 h7.2.2)
                      clear h7 hc x0 x1
                      go_wp2
                      go_meet
                      case rel => exact ⟨HP2.out, H7⟩
                case rest =>
                  obtain ⟨hp2, H5⟩ := hcut
                  have HP2 := Lib.hid hp2
                  clear H3 hp2
                  go_upto_region 18 with fail
                  go_cut [83] from 19 to 129 (fun u83 wx => u83 = .bool (decide (a' > 0) && !lt R.pi.1[a' - 1]! R.pi.1[R.pivot]!) ∧ Hid (Sgw enc k (.func (.func g) #[] lb) (.func (.func sf) #[] sb) blk n w0 w R.pi.1 wx))
                  case first =>
                    have x0 := H5.out.c0
                    rcases Nat.eq_zero_or_pos a' with ha0 | ha0
                    · have ha0z : ¬ (0 : Int) < (a' : Int) := by omega
                      have ha0y : decide ((0 : Int) < (a' : Int)) = false := decide_eq_false ha0z
                      have HA := Lib.hid ha0
                      clear ha0
                      go_wp2
                      go_meet
                      case rel => exact ⟨by simp [HA.out], H5⟩
                    · have ha0z : (0 : Int) < (a' : Int) := by omega
                      have hl1 := S.less' H5.out.sw s3 (a' - 1) R.pivot (by omega) (by omega)
                      rw [natsub a' (by omega)] at hl1
                      cases hlv : lt R.pi.1[a' - 1]! R.pi.1[R.pivot]! <;>
                        (rw [hlv] at hl1
                         have HLV := Lib.hid hlv
                         clear hlv
                         go_wp2_with fail
                         refine hl1.mono ?_
                         rintro e w7 ⟨rfl, hg7⟩
                         have H7 := Lib.hid (H5.out.grw hne hg7)
                         clear hg7 hl1 x0
                         go_wp2
                         go_meet
                         exact ⟨by rw [decide_eq_true ha0, HLV.out]; rfl, H7⟩)
                  case rest =>
                    obtain ⟨rfl, H6⟩ := hcut
                    obtain ⟨w7, rfl⟩ : ∃ v, v = wc := ⟨_, rfl⟩
                    clear H5
                    have x0 := H6.out.c0
                    have x1 := H6.out.c1
                    cases h87 : (decide (a' > 0) && !lt R.pi.1[a' - 1]! R.pi.1[R.pivot]!) with
                    | false =>
                      obtain ⟨mid, ap, d4, hx⟩ : ∃ mid ap d4, partition lt R.pi.1 a' b' R.pivot = (mid, ap, d4) := ⟨_, _, _, rfl⟩
                      obtain ⟨r1, r2, r4, r5, r6, r7⟩ := HR.out.part HP2.out h87 mid ap d4 hx
                      have hc := part_g S a' b' R.pivot R.pi.1 w7 H6.out.sw s3 pv1 pv2 hb'
                      rw [hx] at hc
                      clear hx h87
                      go_wp2_with fail
                      refine hc.mono ?_
                      rintro e w8 ⟨rfl, h8⟩
                      have H8 := Lib.hid (H6.out.step hne h8.1 h8.2.1 h8.2.2)
                      have hs4 := h8.2.1
                      clear h8 hc x0 x1
                      have x0 := H8.out.c0
                      have x1 := H8.out.c1
                      go_upto_if 109 with fail
                      by_cases h4 : mid - a' < b' - mid
                      · have h4z : (mid : Int) - (a' : Int) < (b' : Int) - (mid : Int) := by omega
                        have hc := IH.out a' mid R.lim d4 w8 (by omega) H8.out.sw hs4 r1 (by omega) (by omega) r4
                        obtain ⟨q1, q2⟩ := r6 h4
                        have Q1 := Lib.hid q1
                        have Q2 := Lib.hid q2
                        clear r6 r7 q1 q2 r4 r5
                        go_wp2_with fail
                        refine hc.mono ?_
                        rintro e w9 ⟨rfl, h9⟩
                        have H9 := Lib.hid (H8.out.step hne h9.1 h9.2.1 h9.2.2)
                        clear h9 hc x0 x1
                        go_wp2
                        go_roundg (b' - (mid + 1))
                        case measure => omega
                        case rel =>
                          refine ⟨mid + 1, b', R.lim, decide (mid - a' ≥ (b' - a') / 8), ap, _, by go_num, rfl, rfl, ?_, rfl, by omega, by omega, Nat.le_refl _, by omega, by omega, Q1, H9, Lib.hid (by rw [← HE.out, Q2.out])⟩
                          exact congrArg Value.bool (eighth (by omega) (by omega))
                      · have h4z : ¬ ((mid : Int) - (a' : Int) < (b' : Int) - (mid : Int)) := by omega
                        have hc := IH.out (mid + 1) b' R.lim d4 w8 (by omega) H8.out.sw hs4 (by omega) hb' (by omega) r5
                        rw [show ((mid + 1 : Nat) : Int) = (mid : Int) + 1 by omega] at hc
                        obtain ⟨q1, q2⟩ := r7 h4
                        have Q1 := Lib.hid q1
                        have Q2 := Lib.hid q2
                        clear r6 r7 q1 q2 r4 r5
                        go_wp2_with fail
                        refine hc.mono ?_
                        rintro e w9 ⟨rfl, h9⟩
                        have H9 := Lib.hid (H8.out.step hne h9.1 h9.2.1 h9.2.2)
                        clear h9 hc x0 x1
                        go_wp2
                        go_roundg (mid - a')
                        case measure => omega
                        case rel =>
                          refine ⟨a', mid, R.lim, decide (b' - mid ≥ (b' - a') / 8), ap, _, rfl, rfl, rfl, ?_, rfl, by omega, by omega, Nat.le_refl _, by omega, by omega, Q1, H9, Lib.hid (by rw [← HE.out, Q2.out])⟩
                          exact congrArg Value.bool (eighth (by omega) (by omega))
                    | true =>
                      obtain ⟨mid, d4, hx⟩ : ∃ mid d4, partitionEqual lt R.pi.1 a' b' R.pivot = (mid, d4) := ⟨_, _, rfl⟩
                      obtain ⟨r1, r2, r4, r5⟩ := HR.out.eqE HP2.out h87 mid d4 hx
                      have hc := pareq_g S a' b' R.pivot R.pi.1 w7 H6.out.sw s3 pv1 pv2 hb'
                      rw [hx] at hc
                      have R4 := Lib.hid r4
                      have R5 := Lib.hid r5
                      clear hx h87 r4 r5
                      go_wp2_with fail
                      refine hc.mono ?_
                      rintro e w8 ⟨rfl, h8⟩
                      have H8 := Lib.hid (H6.out.step hne h8.1 h8.2.1 h8.2.2)
                      clear h8 hc x0 x1
                      go_wp2
                      go_roundg (b' - mid)
                      case measure => omega
                      case rel => exact ⟨mid, b', R.lim, wb, wp, d4, rfl, rfl, rfl, rfl, rfl, r2, hb', Nat.le_refl _, by omega, by omega, R4, H8, Lib.hid (by rw [← HE.out, R5.out])⟩
end Go.Proofs.Ytpbgccidhpfmgaa
