/- Sorting addresses: pdqsort and slices.Sort.
 Conditions: those stated. -/
import Derived.Test.YtlmkmbpikhagiaaSoB
import Derived.Test.YtlmkmbpikhagiaaSoC
import Derived.Test.YtlmkmbpikhagiaaSoD
import Derived.Test.YtlmkmbpikhagiaaSoE
import Derived.Test.YtlmkmbpikhagiaaSoF
import Derived.Sort.Walk13
import Derived.Sort.AssemblyPlain
import Derived.Deep.CutRange
import Derived.Deep.Cut
import Derived.Shelf.Sort.Plain
namespace Go.Proofs.Ytlmkmbpikhagiaa
open Go Go.RowKit Go.Sort
set_option linter.unusedVariables false
set_option linter.unusedSimpArgs false

section
variable {α : Type} [Inhabited α]
/-- What holds of a round's values. -/
structure RdF (lt : α → α → Bool) (d : Array α) (a b lim : Nat) (wb wp : Bool) (R : Rd α) : Prop where
  s1 : R.d1.size = d.size
  s2 : R.d2.size = d.size
  s3 : R.pi.1.size = d.size
  c : a ≤ R.c.1 ∧ R.c.1 < b
  p : a ≤ R.pivot ∧ R.pivot < b
  limle : R.lim ≤ lim
  bf : wb = false → R.d1 = breakPatterns d a b ∧ R.lim = lim - 1
  bt : wb = true → R.d1 = d ∧ R.lim = lim
  cc : R.c = choosePivot lt R.d1 a b
  dec : R.c.2 = .decreasing → R.d2 = reverseRange R.d1 a b ∧ R.pivot = (b - 1) - (R.c.1 - a) ∧ R.hint = .increasing
  ndec : R.c.2 ≠ .decreasing → R.d2 = R.d1 ∧ R.pivot = R.c.1 ∧ R.hint = R.c.2
  piY : (wb && wp && decide (R.hint = .increasing)) = true → R.pi = partialInsertionSort lt R.d2 a b
  piN : (wb && wp && decide (R.hint = .increasing)) = false → R.pi = (R.d2, false)
  done : R.pi.2 = true → pdq lt d a b lim wb wp = R.pi.1
  eqE : R.pi.2 = false → (decide (a > 0) && !lt R.pi.1[a - 1]! R.pi.1[R.pivot]!) = true → ∀ mid d4, partitionEqual lt R.pi.1 a b R.pivot = (mid, d4) →
    a < mid ∧ mid ≤ b ∧ Go.Sort.Below lt mid b d4 ∧ pdq lt d a b lim wb wp = pdq lt d4 mid b R.lim wb wp
  part : R.pi.2 = false → (decide (a > 0) && !lt R.pi.1[a - 1]! R.pi.1[R.pivot]!) = false → ∀ mid ap d4, partition lt R.pi.1 a b R.pivot = (mid, ap, d4) →
    a ≤ mid ∧ mid < b ∧ Go.Sort.Below lt a mid d4 ∧ Go.Sort.Below lt (mid + 1) b d4 ∧
    (mid - a < b - mid → Go.Sort.Below lt (mid + 1) b (pdq lt d4 a mid R.lim true true) ∧ pdq lt d a b lim wb wp = pdq lt (pdq lt d4 a mid R.lim true true) (mid + 1) b R.lim (decide (mid - a ≥ (b - a) / 8)) ap) ∧
    (¬ mid - a < b - mid → Go.Sort.Below lt a mid (pdq lt d4 (mid + 1) b R.lim true true) ∧ pdq lt d a b lim wb wp = pdq lt (pdq lt d4 (mid + 1) b R.lim true true) a mid R.lim (decide (b - mid ≥ (b - a) / 8)) ap)
theorem rdF {lt : α → α → Bool} (hO : SWO lt) {d : Array α} {a b lim : Nat} (wb wp : Bool) (hab : a < b) (hb : b ≤ d.size) (hB : Go.Sort.Below lt a b d) (h12 : ¬ b - a ≤ 12) (hl0 : ¬ lim = 0) : RdF lt d a b lim wb wp (rd lt d a b lim wb wp) := by
  obtain ⟨s1, B1, hc, s2, B2, hp, s3, B3⟩ := rd_facts (lt := lt) (limit := lim) (wb := wb) (wp := wp) hO partialInsertionSort_holds reverseRange_holds hab hb hB
  refine ⟨s1, s2, s3, hc, hp, rd_lim_le, fun h => by subst h; exact rd_false, fun h => by subst h; exact rd_true, rd_c, fun h => rd_dec h, fun h => rd_not h, fun h => rd_pi_yes h, fun h => rd_pi_no h, fun h => pdq_done h12 hl0 h, fun hp2 h87 mid d4 hx => ?_, fun hp2 h87 mid ap d4 hx => ?_⟩
  · have h87' := h87
    simp only [Bool.and_eq_true, decide_eq_true_eq, Bool.not_eq_true'] at h87'
    obtain ⟨r1, r2, _, r4, _⟩ := round_eq hO (partitionEqual_holds lt) h87'.1 hp.1 hp.2 (by omega) B3 h87'.2 hx
    exact ⟨r1, r2, r4, by rw [pdq_eq h12 hl0 hp2 h87 (by rw [hx]; exact ⟨r1, r2⟩), hx]⟩
  · obtain ⟨r1, r2, r3, r4, r5, r6, r7⟩ := round_part hO (partition_holds lt) hp.1 hp.2 (by omega) B3 hx
    refine ⟨r1, r2, r4, r5, fun h4 => ?_, fun h4 => ?_⟩
    · obtain ⟨pL, sL⟩ := pdq_sorts lt hO d4 a mid (rd lt d a b lim wb wp).lim true true (by omega) (by omega) r4
      exact ⟨(r6 _ pL sL).1, by rw [pdq_left h12 hl0 hp2 h87 (by rw [hx]; exact ⟨r1, r2⟩) (by rw [hx]; exact h4), hx]⟩
    · obtain ⟨pL, sL⟩ := pdq_sorts lt hO d4 (mid + 1) b (rd lt d a b lim wb wp).lim true true (by omega) (by omega) r5
      exact ⟨(r7 _ pL sL).1, by rw [pdq_right h12 hl0 hp2 h87 (by rw [hx]; exact ⟨r1, r2⟩) (by rw [hx]; exact h4), hx]⟩
end
theorem hint_two {h : Hint} (e : hintCode h = 2) : h = .decreasing := by cases h <;> simp [hintCode] at e ⊢
set_option maxRecDepth 1000000 in
set_option maxHeartbeats 8000000 in
theorem pdq_a (blk off cap : Nat) (pre rest : List Value) (n : Nat) (hsz : n < 4611686018427387904) (hO : SWO ltInt) : ∀ (N a b limit : Nat) (d : Array Int) (w : World), b - a < N → Sr blk off pre rest n w d w → a ≤ b → b ≤ n → limit < 4611686018427387904 → Go.Sort.Below ltInt a b d →
    Calls Try.prog 62 #[.slice (some ⟨blk, off, none⟩) n cap, .int .i64 a, .int .i64 b, .int .i64 limit] w fun e w' => e = .returned (.tuple #[]) ∧ Sr blk off pre rest n w (pdq ltInt d a b limit true true) w' := by
  intro N
  induction N with
  | zero => intro _ _ _ _ _ h; exact absurd h (Nat.not_lt_zero _)
  | succ N ih =>
    intro a b limit d w hN hS hab hb hlimit hBel0
    have H0 := Lib.hid hS
    have IH := Lib.hid ih
    have HB0 := Lib.hid hBel0
    clear hS ih hBel0
    go_enter Try.func62, Try.ntmps62
    go_wp2
    go_loopg [1, 2, 3, 8, 9] (b - a) (fun kx s1 s2 s3 s8 s9 wr => ∃ (a' b' lim : Nat) (wb wp : Bool) (dk : Array Int), s1 = .int .i64 a' ∧ s2 = .int .i64 b' ∧ s3 = .int .i64 lim ∧ s8 = .bool wb ∧ s9 = .bool wp ∧
      a' ≤ b' ∧ b' ≤ n ∧ b' - a' ≤ kx ∧ kx ≤ b - a ∧ lim ≤ limit ∧ Hid (Go.Sort.Below ltInt a' b' dk) ∧ Hid (Sr blk off pre rest n w dk wr) ∧ Hid (pdq ltInt dk a' b' lim wb wp = pdq ltInt d a b limit true true))
    case atStart => exact ⟨a, b, limit, true, true, d, rfl, rfl, rfl, rfl, rfl, hab, hb, Nat.le_refl _, Nat.le_refl _, Nat.le_refl _, HB0, H0, Lib.hid rfl⟩
    case round =>
      obtain ⟨a', b', lim, wb, wp, dk, rfl, rfl, rfl, rfl, rfl, hab', hb', hkx, hkN, hlim, HBel, HS, HE⟩ := hrel
      obtain ⟨w2, rfl⟩ : ∃ v, v = wr := ⟨_, rfl⟩
      clear H0 HB0
      by_cases h12 : b' - a' ≤ 12
      · have h12z : (b' : Int) - (a' : Int) ≤ 12 := by omega
        have hc := ins_a blk off cap pre rest n a' b' dk w2 HS.out.here hab' hb' hsz
        go_wp2_with fail
        refine hc.mono ?_
        rintro e w3 ⟨rfl, h3⟩
        have H3 := Lib.hid (HS.out.step h3)
        clear h3 hc
        go_wp2
        (try simp only [Exit.inBlock, Exit.then]); refine bodyPost_ret (results_none rfl _ _ _) rfl ?_
        refine ⟨rfl, ?_⟩
        rw [← HE.out, pdq_small h12]
        exact H3.out
      · have h12z : ¬ ((b' : Int) - (a' : Int) ≤ 12) := by omega
        by_cases hl0 : lim = 0
        · have hl0z : ((lim : Int) == 0) = true := by simp [hl0]
          have HE2 := Lib.hid (show pdq ltInt d a b limit true true = heapSort ltInt dk a' b' by rw [← HE.out]; exact pdq_heap h12 hl0)
          clear hl0
          have hc := heap_a blk off cap pre rest n a' b' dk w2 HS.out.here hab' hb' hsz
          go_wp2_with fail
          refine hc.mono ?_
          rintro e w3 ⟨rfl, h3⟩
          have H3 := Lib.hid (HS.out.step h3)
          clear h3 hc
          go_wp2
          (try simp only [Exit.inBlock, Exit.then]); refine bodyPost_ret (results_none rfl _ _ _) rfl ?_
          refine ⟨rfl, ?_⟩
          rw [HE2.out]
          exact H3.out
        · have hl0z : ((lim : Int) == 0) = false := by simp; omega
          have hlp : 0 < lim := by omega
          have hdk : dk.size = n := HS.out.len
          obtain ⟨R, HR⟩ : ∃ R, Hid (RdF ltInt dk a' b' lim wb wp R) := ⟨_, Lib.hid (rdF hO wb wp (by omega) (by omega) HBel.out h12 hl0)⟩
          have s1 : R.d1.size = n := HR.out.s1.trans hdk
          have s2 : R.d2.size = n := HR.out.s2.trans hdk
          have s3 : R.pi.1.size = n := HR.out.s3.trans hdk
          have lml := HR.out.limle
          have pv1 := HR.out.p.1
          have pv2 := HR.out.p.2
          have cv1 := HR.out.c.1
          have cv2 := HR.out.c.2
          have hlt' : a' < b' := by omega
          clear hdk HBel hl0
          go_upto_if 35 with fail
          go_cut [3] from 19 to 134 (fun sv wc => sv = .int .i64 R.lim ∧ Hid (Sr blk off pre rest n w R.d1 wc))
          case first =>
            cases wb with
            | false =>
              obtain ⟨e1, e2⟩ := HR.out.bf rfl
              have hc := brk_a blk off cap pre rest n a' b' dk w2 HS.out.here hab' hb' hsz
              rw [← e1] at hc
              have E2 := Lib.hid e2
              clear e1 e2
              go_wp2_with fail
              refine hc.mono ?_
              rintro e w3 ⟨rfl, h3⟩
              have H3 := Lib.hid (HS.out.step h3)
              clear h3 hc
              go_wp2
              go_meet
              case rel => exact ⟨by rw [E2.out]; congr 1; omega, H3⟩
            | true =>
              obtain ⟨e1, e2⟩ := HR.out.bt rfl
              have E1 := Lib.hid e1
              have E2 := Lib.hid e2
              clear e1 e2
              go_wp2
              go_meet
              case rel => exact ⟨by rw [E2.out], by rw [E1.out]; exact HS⟩
          case rest =>
            obtain ⟨rfl, H1⟩ := hcut
            clear HS
            have hc := piv_a blk off cap pre rest n a' b' R.d1 wc H1.out.here hlt' hb' hsz
            rw [← HR.out.cc] at hc
            go_wp2_with fail
            refine hc.mono ?_
            rintro e w4 ⟨rfl, hsw4, ht4⟩
            have H2 := Lib.hid (H1.out.more ht4)
            clear hc hsw4 ht4
            go_upto_if 50 with fail
            go_cut [11, 12] from 19 to 134 (fun u11 u12 wc => u11 = .int .i64 R.pivot ∧ u12 = .int .i64 (hintCode R.hint) ∧ Hid (Sr blk off pre rest n w R.d2 wc))
            case first =>
              by_cases hh : R.c.2 = .decreasing
              · obtain ⟨e1, e2, e3⟩ := HR.out.dec hh
                have hcode : (hintCode R.c.2 == 2) = true := by rw [hh]; rfl
                have hc := rev_a blk off cap pre rest n a' b' R.d1 w4 H2.out.here hab' hb' hsz
                rw [← e1] at hc
                have E2 := Lib.hid e2
                have E3 := Lib.hid e3
                clear e1 e2 e3 hh
                go_wp2_with fail
                refine hc.mono ?_
                rintro e w5 ⟨rfl, h5⟩
                have H3 := Lib.hid (H2.out.step h5)
                clear h5 hc
                go_wp2
                go_meet
                case rel => exact ⟨by rw [E2.out]; congr 1; omega, by rw [E3.out]; rfl, H3⟩
              · obtain ⟨e1, e2, e3⟩ := HR.out.ndec hh
                have hcode : (hintCode R.c.2 == 2) = false := by
                  simp only [beq_eq_false_iff_ne, ne_eq]
                  exact fun h => hh (hint_two h)
                have E1 := Lib.hid e1
                have E2 := Lib.hid e2
                have E3 := Lib.hid e3
                clear e1 e2 e3 hh
                go_wp2
                go_meet
                case rel => exact ⟨by rw [E2.out], by rw [E3.out], by rw [E1.out]; exact H2⟩
            case rest =>
              obtain ⟨rfl, rfl, H3⟩ := hcut
              clear H1 H2
              go_upto_region 15 with fail
              go_cut [12, 68] from 19 to 134 (fun u12 u68 wx => u12 = .int .i64 (hintCode R.hint) ∧ u68 = .bool (wb && wp && decide (R.hint = .increasing)) ∧ wx = wc)
              case first =>
                clear HE H3 HR
                cases wb <;> cases wp <;> cases hh3 : R.hint <;>
                  (have hcode3 := congrArg hintCode hh3
                   simp only [hintCode] at hcode3
                   go_wp2
                   go_meet
                   exact ⟨by simp [hh3, hintCode], by simp [hh3, hintCode], rfl⟩)
              case rest =>
                obtain ⟨rfl, rfl, rfl⟩ := hcut
                obtain ⟨w6, rfl⟩ : ∃ v, v = wc := ⟨_, rfl⟩
                go_upto_if 68 with fail
                go_cut [] from 19 to 134 (fun wx => R.pi.2 = false ∧ Hid (Sr blk off pre rest n w R.pi.1 wx))
                case first =>
                  cases h68 : (wb && wp && decide (R.hint = .increasing)) with
                  | false =>
                    have EP := Lib.hid (HR.out.piN h68)
                    go_wp2
                    go_meet
                    case rel => exact ⟨by rw [EP.out], by rw [EP.out]; exact H3⟩
                  | true =>
                    have hc := partins_a blk off cap pre rest n a' b' R.d2 w6 H3.out.here hlt' hb' hsz
                    rw [← HR.out.piY h68] at hc
                    cases hp2 : R.pi.2 with
                    | true =>
                      have HD := Lib.hid (HR.out.done hp2)
                      rw [hp2] at hc
                      go_wp2_with fail
                      refine hc.mono ?_
                      rintro e w7 ⟨rfl, h7⟩
                      have H7 := Lib.hid (H3.out.step h7)
                      clear h7 hc
                      go_wp2
                      (try simp only [Exit.inBlock, Exit.then]); refine bodyPost_ret (results_none rfl _ _ _) rfl ?_
                      refine ⟨rfl, ?_⟩
                      rw [← HE.out, HD.out]
                      exact H7.out
                    | false =>
                      have HP2 := Lib.hid hp2
                      rw [hp2] at hc
                      clear hp2
                      go_wp2_with fail
                      refine hc.mono ?_
                      rintro e w7 ⟨rfl, h7⟩
                      have H7 := Lib.hid (H3.out.step h7)
                      clear h7 hc
                      go_wp2
                      go_meet
                      case rel => exact ⟨HP2.out, H7⟩
                case rest =>
                  obtain ⟨hp2, H5⟩ := hcut
                  have HP2 := Lib.hid hp2
                  clear H3 hp2
                  go_upto_region 17 with fail
                  go_cut [87] from 19 to 134 (fun u87 wx => u87 = .bool (decide (a' > 0) && !ltInt R.pi.1[a' - 1]! R.pi.1[R.pivot]!) ∧ Hid (Sr blk off pre rest n w R.pi.1 wx))
                  case first =>
                    obtain ⟨wZ, rfl⟩ : ∃ v, v = wc := ⟨_, rfl⟩
                    obtain ⟨G, hG⟩ : ∃ G : Nat → Int, ∀ t, G t = R.pi.1[t]! := ⟨fun t => R.pi.1[t]!, fun _ => rfl⟩
                    have hcw : ∀ t, t < n → wZ.cell? ⟨blk, off + t, none⟩ = some (.int .u32 (G t)) := fun t ht => by rw [hG]; exact H5.out.cell t ht
                    have hfw := H5.out.free
                    have HG : Hid (∀ t, G t = R.pi.1[t]!) := Lib.hid hG
                    clear hG
                    rcases Nat.eq_zero_or_pos a' with ha0 | ha0
                    · have ha0z : ¬ (0 : Int) < (a' : Int) := by omega
                      have ha0y : decide ((0 : Int) < (a' : Int)) = false := decide_eq_false ha0z
                      have ha0n : ¬ 0 < a' := by omega
                      have ha0m : decide (0 < a') = false := decide_eq_false ha0n
                      have HA := Lib.hid ha0
                      clear ha0
                      go_wp2
                      go_quiet (fail)
                      go_wp2
                      go_meet
                      case rel => exact ⟨by simp [HA.out], Lib.hid (H5.out.drewN _)⟩
                    · have ha0z : (0 : Int) < (a' : Int) := by omega
                      have ha0y : decide ((0 : Int) < (a' : Int)) = true := decide_eq_true ha0z
                      have ha0m : decide (0 < a') = true := decide_eq_true ha0
                      have HE87 := Lib.hid (show (decide (a' > 0) && !ltInt R.pi.1[a' - 1]! R.pi.1[R.pivot]!) = !ltInt (G (a' - 1)) (G R.pivot) by rw [decide_eq_true ha0, HG.out, HG.out]; rfl)
                      go_wp2
                      go_quiet ((go_at_call 71; refine Calls.quiet_of_same (less_a _ _ _)))
                      go_wp2
                      go_meet
                      case rel => exact ⟨by rw [HE87.out], Lib.hid (H5.out.drewN _)⟩
                  case rest =>
                    obtain ⟨rfl, H6⟩ := hcut
                    obtain ⟨w7, rfl⟩ : ∃ v, v = wc := ⟨_, rfl⟩
                    clear H5
                    cases h87 : (decide (a' > 0) && !ltInt R.pi.1[a' - 1]! R.pi.1[R.pivot]!) with
                    | false =>
                      obtain ⟨mid, ap, d4, hx⟩ : ∃ mid ap d4, partition ltInt R.pi.1 a' b' R.pivot = (mid, ap, d4) := ⟨_, _, _, rfl⟩
                      obtain ⟨r1, r2, r4, r5, r6, r7⟩ := HR.out.part HP2.out h87 mid ap d4 hx
                      have hc := part_a blk off cap pre rest n a' b' R.pivot R.pi.1 w7 H6.out.here pv1 pv2 hb' hsz
                      rw [hx] at hc
                      clear hx h87
                      go_wp2_with fail
                      refine hc.mono ?_
                      rintro e w8 ⟨rfl, h8⟩
                      have H8 := Lib.hid (H6.out.step h8)
                      clear h8 hc
                      go_upto_if 113 with fail
                      by_cases h4 : mid - a' < b' - mid
                      · have h4z : (mid : Int) - (a' : Int) < (b' : Int) - (mid : Int) := by omega
                        have hc := IH.out a' mid R.lim d4 w8 (by omega) H8.out.here r1 (by omega) (by omega) r4
                        obtain ⟨q1, q2⟩ := r6 h4
                        have Q1 := Lib.hid q1
                        have Q2 := Lib.hid q2
                        clear r6 r7 q1 q2 r4 r5
                        go_wp2_with fail
                        refine hc.mono ?_
                        rintro e w9 ⟨rfl, h9⟩
                        have H9 := Lib.hid (H8.out.step h9)
                        clear h9 hc
                        go_wp2
                        go_roundg (b' - (mid + 1))
                        case measure => omega
                        case rel =>
                          refine ⟨mid + 1, b', R.lim, decide (mid - a' ≥ (b' - a') / 8), ap, _, by go_num, rfl, rfl, ?_, rfl, by omega, by omega, Nat.le_refl _, by omega, by omega, Q1, H9, Lib.hid (by rw [← HE.out, Q2.out])⟩
                          exact congrArg Value.bool (eighth (by omega) (by omega))
                      · have h4z : ¬ ((mid : Int) - (a' : Int) < (b' : Int) - (mid : Int)) := by omega
                        have hc := IH.out (mid + 1) b' R.lim d4 w8 (by omega) H8.out.here (by omega) hb' (by omega) r5
                        rw [show ((mid + 1 : Nat) : Int) = (mid : Int) + 1 by omega] at hc
                        obtain ⟨q1, q2⟩ := r7 h4
                        have Q1 := Lib.hid q1
                        have Q2 := Lib.hid q2
                        clear r6 r7 q1 q2 r4 r5
                        go_wp2_with fail
                        refine hc.mono ?_
                        rintro e w9 ⟨rfl, h9⟩
                        have H9 := Lib.hid (H8.out.step h9)
                        clear h9 hc
                        go_wp2
                        go_roundg (mid - a')
                        case measure => omega
                        case rel =>
                          refine ⟨a', mid, R.lim, decide (b' - mid ≥ (b' - a') / 8), ap, _, rfl, rfl, rfl, ?_, rfl, by omega, by omega, Nat.le_refl _, by omega, by omega, Q1, H9, Lib.hid (by rw [← HE.out, Q2.out])⟩
                          exact congrArg Value.bool (eighth (by omega) (by omega))
                    | true =>
                      obtain ⟨mid, d4, hx⟩ : ∃ mid d4, partitionEqual ltInt R.pi.1 a' b' R.pivot = (mid, d4) := ⟨_, _, rfl⟩
                      obtain ⟨r1, r2, r4, r5⟩ := HR.out.eqE HP2.out h87 mid d4 hx
                      have hc := pareq_a blk off cap pre rest n a' b' R.pivot R.pi.1 w7 H6.out.here pv1 pv2 hb' hsz
                      rw [hx] at hc
                      have R4 := Lib.hid r4
                      have R5 := Lib.hid r5
                      clear hx h87 r4 r5
                      go_wp2_with fail
                      refine hc.mono ?_
                      rintro e w8 ⟨rfl, h8⟩
                      have H8 := Lib.hid (H6.out.step h8)
                      clear h8 hc
                      go_wp2
                      go_roundg (b' - mid)
                      case measure => omega
                      case rel => exact ⟨mid, b', R.lim, wb, wp, d4, rfl, rfl, rfl, rfl, rfl, r2, hb', Nat.le_refl _, by omega, by omega, R4, H8, Lib.hid (by rw [← HE.out, R5.out])⟩
end Go.Proofs.Ytlmkmbpikhagiaa
