/- Sorting addresses: partialInsertionSort and reverseRange.
 Conditions: those stated. -/
import Derived.Test.YtlmkmbpikhagiaaSoA
import Derived.Sort.WalkA6
import Derived.Deep.CutRange
import Derived.Deep.CutBlock
import Derived.Deep.LoopGhost
namespace Go.Proofs.Ytlmkmbpikhagiaa
open Go Go.RowKit Go.Sort
set_option linter.unusedVariables false
set_option linter.unusedSimpArgs false

set_option maxRecDepth 100000 in
set_option maxHeartbeats 4000000 in
theorem partins_a (blk off cap : Nat) (pre rest : List Value) (n : Nat) (a b : Nat) (d : Array Int) (w : World) (hS : Sr blk off pre rest n w d w) (hab : a < b) (hb : b ≤ n) (hsz : n < 4611686018427387904) :
    Calls Try.prog 70 #[.slice (some ⟨blk, off, none⟩) n cap, .int .i64 a, .int .i64 b] w fun e w' => e = .returned (.bool (partialInsertionSort ltInt d a b).2) ∧ Sr blk off pre rest n w (partialInsertionSort ltInt d a b).1 w' := by
  have H0 := Lib.hid hS
  clear hS
  go_enter Try.func70, Try.ntmps70
  go_wp2
  go_loopw [7, 8] (fun vi vs wr => ∃ (i s : Nat) (dk : Array Int), vi = .int .i64 i ∧ vs = .int .i64 s ∧ a < i ∧ i ≤ b ∧ s ≤ 5 ∧ Hid (Sr blk off pre rest n w dk wr) ∧ Hid (partialIns ltInt a b (5 - s) i dk = partialIns ltInt a b 5 (a + 1) d)) (fun _ vs _ => 5 - (intOf vs).toNat)
  case atStart => exact ⟨a + 1, 0, d, by go_num, rfl, by omega, by omega, by omega, H0, Lib.hid rfl⟩
  case round =>
    obtain ⟨i, s, dk, rfl, rfl, hai, hib, hs5, HS, HE⟩ := hrel
    obtain ⟨w2, rfl⟩ : ∃ v, v = wr := ⟨_, rfl⟩
    clear H0
    by_cases hs : s < 5
    · have hsz2 : (s : Int) < 5 := by omega
      go_upto_block 2 with fail
      go_cut [7] from 17 to 34 (fun sv wc => ∃ K : Nat, sv = .int .i64 K ∧ a < K ∧ K ≤ b ∧ Hid (scanSorted ltInt dk b i = K) ∧ Hid (Sr blk off pre rest n w dk wc))
      case first =>
        go_wp2
        go_loopw [7] (fun sv wr => ∃ v : Nat, sv = .int .i64 v ∧ a < v ∧ v ≤ b ∧ Hid (scanSorted ltInt dk b i = scanSorted ltInt dk b v) ∧ Hid (Sr blk off pre rest n w dk wr)) (fun sv _ => b - (intOf sv).toNat)
        case atStart => exact ⟨i, rfl, hai, hib, Lib.hid rfl, HS⟩
        case round =>
          obtain ⟨v, rfl, hb1, hb2, hsc, HL0⟩ := hrel
          obtain ⟨w5, rfl⟩ : ∃ v, v = wr := ⟨_, rfl⟩
          obtain ⟨G, hG⟩ : ∃ G : Nat → Int, ∀ t, G t = dk[t]! := ⟨fun t => dk[t]!, fun _ => rfl⟩
          have hcw : ∀ t, t < n → w5.cell? ⟨blk, off + t, none⟩ = some (.int .u32 (G t)) := fun t ht => by rw [hG]; exact HL0.out.cell t ht
          have hfw := HL0.out.free
          have HG : Hid (∀ t, G t = dk[t]!) := Lib.hid hG
          clear hG
          by_cases hle : v < b
          · have hlez : (v : Int) < (b : Int) := by omega
            have hled : decide ((v : Int) < (b : Int)) = true := decide_eq_true hlez
            cases hlv : ltInt (G v) (G (v - 1)) with
            | false =>
              have HL := Lib.hid (show ltInt dk[v]! dk[v - 1]! = false by rw [← HG.out, ← HG.out]; exact hlv)
              go_wp2
              go_quiet ((go_at_call 71; refine Calls.quiet_of_same (less_a _ _ _)))
              go_wp2
              go_roundw
              case rel => exact ⟨v + 1, by go_num, by omega, by omega, Lib.hid (hsc.out.trans (scanSorted_go ltInt dk b v hle HL.out)), Lib.hid (HL0.out.drewN _)⟩
              case measure => simp [intOf]; omega
            | true =>
              have HL := Lib.hid (show ltInt dk[v]! dk[v - 1]! = true by rw [← HG.out, ← HG.out]; exact hlv)
              go_wp2
              go_quiet ((go_at_call 71; refine Calls.quiet_of_same (less_a _ _ _)))
              go_wp2
              go_meet
              case rel => exact ⟨v, rfl, hb1, hb2, Lib.hid (hsc.out.trans (scanSorted_stop ltInt dk b v (Or.inr HL.out))), Lib.hid (HL0.out.drewN _)⟩
          · have hlez : ¬ (v : Int) < (b : Int) := by omega
            have hled : decide ((v : Int) < (b : Int)) = false := decide_eq_false hlez
            go_wp2
            go_quiet (fail)
            go_wp2
            go_meet
            case rel => exact ⟨v, rfl, hb1, hb2, Lib.hid (hsc.out.trans (scanSorted_stop ltInt dk b v (Or.inl hle))), Lib.hid (HL0.out.drewN _)⟩
      case rest =>
        obtain ⟨K, rfl, hK1, hK2, hsc, HS2⟩ := hcut
        clear HS
        by_cases hKb : K = b
        · have HP := Lib.hid (show partialInsertionSort ltInt d a b = (dk, true) by unfold partialInsertionSort; rw [← HE.out]; exact pi_true ltInt a b s i dk hs (hsc.out.trans hKb))
          have hkz : ((K : Int) == (b : Int)) = true := by simp [hKb]
          clear hKb
          go_wp2
          go_ret
          rw [HP.out]
          exact ⟨rfl, HS2.out⟩
        · have hkz : ((K : Int) == (b : Int)) = false := by simp; omega
          by_cases h50 : b - a < 50
          · have HP := Lib.hid (show partialInsertionSort ltInt d a b = (dk, false) by unfold partialInsertionSort; rw [← HE.out]; exact pi_short ltInt a b s i dk hs (fun e => hKb (hsc.out.symm.trans e)) h50)
            have h50z : (b : Int) - (a : Int) < 50 := by omega
            go_wp2
            go_ret
            rw [HP.out]
            exact ⟨rfl, HS2.out⟩
          · have h50z : ¬ (b : Int) - (a : Int) < 50 := by omega
            obtain ⟨D1, hD1⟩ : ∃ D1 : Array Int, D1 = swp dk K (K - 1) := ⟨_, rfl⟩
            have HD1 := Lib.hid hD1
            have HG0 := Lib.hid (show partialIns ltInt a b (5 - (s + 1)) K (fixUp ltInt b K (fixDown ltInt a K D1)) = partialIns ltInt a b 5 (a + 1) d by rw [← HE.out, pi_go ltInt a b s i K dk hs hsc.out hKb h50, hD1])
            clear hD1 HE hsc
            obtain ⟨G, hG⟩ : ∃ G : Nat → Int, ∀ t, G t = dk[t]! := ⟨fun t => dk[t]!, fun _ => rfl⟩
            have hcw : ∀ t, t < n → wc.cell? ⟨blk, off + t, none⟩ = some (.int .u32 (G t)) := fun t ht => by rw [hG]; exact HS2.out.cell t ht
            have hfw := HS2.out.free
            have HG : Hid (∀ t, G t = dk[t]!) := Lib.hid hG
            clear hG
            go_upto_region 11 with fail
            go_region
            obtain ⟨w7, hw7⟩ : ∃ v, v = ((wc.setCell ⟨blk, off + K, none⟩ (.int .u32 (G (K - 1)))).setCell ⟨blk, off + (K - 1), none⟩ (.int .u32 (G K))).drew := ⟨_, rfl⟩
            have H7 : Hid (Sr blk off pre rest n w D1 w7) := Lib.hid (by rw [hw7, HD1.out]; exact HS2.out.swap K (K - 1) (by omega) (by omega) _ _ (HG.out _) (HG.out _) rfl rfl rfl rfl)
            rw [← hw7]
            clear hw7 hcw hfw HG HS2
            go_upto_if 61 with fail
            go_cut [] from 58 to 95 (fun wc => Hid (Sr blk off pre rest n w (fixDown ltInt a K D1) wc))
            case first =>
              by_cases h2 : K - a ≥ 2
              · have h2z : (2 : Int) ≤ (K : Int) - (a : Int) := by omega
                have HFD := Lib.hid (show fixDown ltInt a K D1 = shiftDown ltInt (K - 1) D1 from if_pos h2)
                go_wp2
                go_loopw [9] (fun sv wr => ∃ (j : Nat) (dj : Array Int), sv = .int .i64 j ∧ j < K ∧ Hid (Sr blk off pre rest n w dj wr) ∧ Hid (shiftDown ltInt j dj = shiftDown ltInt (K - 1) D1)) (fun sv _ => (intOf sv).toNat)
                case atStart => exact ⟨K - 1, D1, by go_num, by omega, H7, Lib.hid rfl⟩
                case round =>
                  clear H7
                  obtain ⟨j, dj, rfl, hjK, HJ, HI⟩ := hrel
                  obtain ⟨w8, rfl⟩ : ∃ v, v = wr := ⟨_, rfl⟩
                  obtain ⟨G, hG⟩ : ∃ G : Nat → Int, ∀ t, G t = dj[t]! := ⟨fun t => dj[t]!, fun _ => rfl⟩
                  have hcw : ∀ t, t < n → w8.cell? ⟨blk, off + t, none⟩ = some (.int .u32 (G t)) := fun t ht => by rw [hG]; exact HJ.out.cell t ht
                  have hfw := HJ.out.free
                  have HG : Hid (∀ t, G t = dj[t]!) := Lib.hid hG
                  clear hG
                  by_cases hj : 1 ≤ j
                  · have hjz : (1 : Int) ≤ (j : Int) := by omega
                    cases hlv : ltInt (G j) (G (j - 1)) with
                    | true =>
                      have HL := Lib.hid (show ltInt dj[j]! dj[j - 1]! = true by rw [← HG.out, ← HG.out]; exact hlv)
                      go_wp2
                      go_quiet ((go_at_call 71; refine Calls.quiet_of_same (less_a _ _ _)))
                      go_wp2
                      go_region
                      all_goals go_wp2
                      go_roundw
                      case rel => exact ⟨j - 1, swp dj j (j - 1), by congr 1; omega, by omega, Lib.hid (HJ.out.swap j (j - 1) (by omega) (by omega) _ _ (HG.out _) (HG.out _) rfl rfl rfl rfl), Lib.hid (by rw [← HI.out, shiftDown_go ltInt j dj hj HL.out])⟩
                      case measure => simp [intOf]; omega
                    | false =>
                      have HL := Lib.hid (show ltInt dj[j]! dj[j - 1]! = false by rw [← HG.out, ← HG.out]; exact hlv)
                      go_wp2
                      go_quiet ((go_at_call 71; refine Calls.quiet_of_same (less_a _ _ _)))
                      go_wp2
                      go_meet
                      case rel => exact Lib.hid (by rw [HFD.out, ← HI.out, shiftDown_stop ltInt j dj (Or.inr HL.out)]; exact HJ.out.drewN _)
                  · have hjz : ¬ (1 : Int) ≤ (j : Int) := by omega
                    go_wp2
                    go_meet
                    case rel => exact Lib.hid (by rw [HFD.out, ← HI.out, shiftDown_stop ltInt j dj (Or.inl (by omega))]; exact HJ.out)
              · have h2z : ¬ (2 : Int) ≤ (K : Int) - (a : Int) := by omega
                have HFD := Lib.hid (show fixDown ltInt a K D1 = D1 from if_neg h2)
                go_wp2
                go_meet
                case rel => exact Lib.hid (by rw [HFD.out]; exact H7.out)
            case rest =>
              have H8 := hcut
              obtain ⟨D2, hD2⟩ : ∃ D2 : Array Int, D2 = fixDown ltInt a K D1 := ⟨_, rfl⟩
              rw [← hD2] at H8 HG0
              clear hcut H7 hD2
              by_cases h2 : b - K ≥ 2
              · have h2z : (2 : Int) ≤ (b : Int) - (K : Int) := by omega
                have HFD := Lib.hid (show fixUp ltInt b K D2 = shiftUp ltInt b (K + 1) D2 from if_pos h2)
                rw [HFD.out] at HG0
                go_wp2
                go_loopw [10] (fun sv wr => ∃ (j : Nat) (dj : Array Int), sv = .int .i64 j ∧ K < j ∧ j ≤ b ∧ Hid (Sr blk off pre rest n w dj wr) ∧ Hid (shiftUp ltInt b j dj = shiftUp ltInt b (K + 1) D2)) (fun sv _ => b - (intOf sv).toNat)
                case atStart => exact ⟨K + 1, D2, by go_num, by omega, by omega, H8, Lib.hid rfl⟩
                case round =>
                  clear H8
                  obtain ⟨j, dj, rfl, hjK, hjb, HJ, HI⟩ := hrel
                  obtain ⟨w8, rfl⟩ : ∃ v, v = wr := ⟨_, rfl⟩
                  obtain ⟨G, hG⟩ : ∃ G : Nat → Int, ∀ t, G t = dj[t]! := ⟨fun t => dj[t]!, fun _ => rfl⟩
                  have hcw : ∀ t, t < n → w8.cell? ⟨blk, off + t, none⟩ = some (.int .u32 (G t)) := fun t ht => by rw [hG]; exact HJ.out.cell t ht
                  have hfw := HJ.out.free
                  have HG : Hid (∀ t, G t = dj[t]!) := Lib.hid hG
                  clear hG
                  by_cases hj : j < b
                  · have hjz : (j : Int) < (b : Int) := by omega
                    cases hlv : ltInt (G j) (G (j - 1)) with
                    | true =>
                      have HL := Lib.hid (show ltInt dj[j]! dj[j - 1]! = true by rw [← HG.out, ← HG.out]; exact hlv)
                      go_wp2
                      go_quiet ((go_at_call 71; refine Calls.quiet_of_same (less_a _ _ _)))
                      go_wp2
                      go_region
                      all_goals go_wp2
                      go_roundw
                      case rel => exact ⟨j + 1, swp dj j (j - 1), by go_num, by omega, by omega, Lib.hid (HJ.out.swap j (j - 1) (by omega) (by omega) _ _ (HG.out _) (HG.out _) rfl rfl rfl rfl), Lib.hid (by rw [← HI.out, shiftUp_go ltInt b j dj hj HL.out])⟩
                      case measure => simp [intOf]; omega
                    | false =>
                      have HI2 := Lib.hid (show dj = shiftUp ltInt b (K + 1) D2 by rw [← HI.out, shiftUp_stop ltInt b j dj (Or.inr (by rw [← HG.out, ← HG.out]; exact hlv))])
                      have HL := Lib.hid (show ltInt dj[j]! dj[j - 1]! = false by rw [← HG.out, ← HG.out]; exact hlv)
                      go_wp2
                      go_quiet ((go_at_call 71; refine Calls.quiet_of_same (less_a _ _ _)))
                      go_wp2
                      go_roundw
                      case rel => exact ⟨K, s + 1, dj, rfl, by go_num, hK1, by omega, by omega, Lib.hid (HJ.out.drewN _), Lib.hid (by rw [HI2.out]; exact HG0.out)⟩
                      case measure => simp [intOf]; omega
                  · have hjz : ¬ (j : Int) < (b : Int) := by omega
                    have HI2 := Lib.hid (show dj = shiftUp ltInt b (K + 1) D2 by rw [← HI.out, shiftUp_stop ltInt b j dj (Or.inl hj)])
                    go_wp2
                    go_roundw
                    case rel => exact ⟨K, s + 1, dj, rfl, by go_num, hK1, by omega, by omega, HJ, Lib.hid (by rw [HI2.out]; exact HG0.out)⟩
                    case measure => simp [intOf]; omega
              · have h2z : ¬ (2 : Int) ≤ (b : Int) - (K : Int) := by omega
                have HFD := Lib.hid (show fixUp ltInt b K D2 = D2 from if_neg h2)
                rw [HFD.out] at HG0
                go_wp2
                go_roundw
                case rel => exact ⟨K, s + 1, D2, rfl, by go_num, hK1, by omega, by omega, H8, HG0⟩
                case measure => simp [intOf]; omega
    · have hsz2 : ¬ (s : Int) < 5 := by omega
      have e5 : s = 5 := by omega
      have HP := Lib.hid (show partialInsertionSort ltInt d a b = (dk, false) by unfold partialInsertionSort; rw [← HE.out, e5]; exact pi_end ltInt a b i dk)
      clear e5
      go_wp2
      go_ret
      rw [HP.out]
      exact ⟨rfl, HS.out⟩
set_option maxRecDepth 100000 in
set_option maxHeartbeats 4000000 in
theorem rev_a (blk off cap : Nat) (pre rest : List Value) (n : Nat) (a b : Nat) (d : Array Int) (w : World) (hS : Sr blk off pre rest n w d w) (hab : a ≤ b) (hb : b ≤ n) (hsz : n < 4611686018427387904) :
    Calls Try.prog 69 #[.slice (some ⟨blk, off, none⟩) n cap, .int .i64 a, .int .i64 b] w fun e w' => e = .returned (.tuple #[]) ∧ Sr blk off pre rest n w (reverseRange d a b) w' := by
  have H0 := Lib.hid hS
  clear hS
  go_enter Try.func69, Try.ntmps69
  go_wp2
  go_loopg [6, 7] (b - a) (fun kx s6 s7 wr => ∃ (i jn : Nat) (jz : Int) (dk : Array Int), s6 = .int .i64 i ∧ s7 = .int .i64 jz ∧ ((i : Int) < jz → jz = jn ∧ jn < n) ∧ (¬ (i : Int) < jz → ¬ i < jn) ∧ jn - i ≤ kx ∧ Hid (Sr blk off pre rest n w dk wr) ∧ Hid (reverseLoop i jn dk = reverseLoop a (b - 1) d))
  case atStart => exact ⟨a, b - 1, (b : Int) - 1, d, rfl, rfl, fun h => ⟨by omega, by omega⟩, fun h => by omega, by omega, H0, Lib.hid rfl⟩
  case round =>
    obtain ⟨i, jn, jz, dk, rfl, rfl, h1, h2, hk, HW, HE⟩ := hrel
    obtain ⟨w2, rfl⟩ : ∃ v, v = wr := ⟨_, rfl⟩
    clear H0
    by_cases hlt : (i : Int) < jz
    · obtain ⟨rfl, hjn⟩ := h1 hlt
      have hij : i < jn := by omega
      have HE2 := Lib.hid (show reverseLoop (i + 1) (jn - 1) (swp dk i jn) = reverseLoop a (b - 1) d by
        have e := HE.out
        rw [reverseLoop, if_pos hij] at e
        exact e)
      clear h1 h2
      obtain ⟨G, hG⟩ : ∃ G : Nat → Int, ∀ t, G t = dk[t]! := ⟨fun t => dk[t]!, fun _ => rfl⟩
      have hcw : ∀ t, t < n → w2.cell? ⟨blk, off + t, none⟩ = some (.int .u32 (G t)) := fun t ht => by rw [hG]; exact HW.out.cell t ht
      have hfw := HW.out.free
      have HG : Hid (∀ t, G t = dk[t]!) := Lib.hid hG
      clear hG
      go_wp2
      go_region
      go_wp2
      go_roundg (jn - 1 - (i + 1))
      case measure => omega
      case rel => exact ⟨i + 1, jn - 1, (jn : Int) - 1, swp dk i jn, by simp, rfl, fun h => ⟨by omega, by omega⟩, fun h => by omega, Nat.le_refl _, Lib.hid (HW.out.swap i jn (by omega) (by omega) _ _ (HG.out _) (HG.out _) rfl rfl rfl rfl), HE2⟩
    · have hnot := h2 hlt
      have HE2 := Lib.hid (show dk = reverseRange d a b by
        have e := HE.out
        rw [reverseLoop, if_neg hnot] at e
        rw [reverseRange, ← e])
      clear h1 h2
      go_wp2
      go_end0
      exact ⟨rfl, by rw [← HE2.out]; exact HW.out⟩
end Go.Proofs.Ytlmkmbpikhagiaa
