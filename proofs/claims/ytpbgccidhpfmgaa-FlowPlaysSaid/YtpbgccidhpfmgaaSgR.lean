/- Contract of sort.partialInsertionSort_func where 'less' may make blocks of its own. Conditions: as stated. -/
import Derived.Test.YtpbgccidhpfmgaaSgI
import Derived.Sort.WalkA6
import Derived.Deep.CutRange
import Derived.Deep.CutBlock
namespace Go.Proofs.Ytpbgccidhpfmgaa
open Go Go.RowKit Go.Sort
set_option linter.unusedVariables false
set_option linter.unusedSimpArgs false

variable {α : Type} [Inhabited α] {enc : α → List Value} {k : Nat} {lt : α → α → Bool} {g : Nat} {lb : Array Value} {sf : Nat} {sb : Array Value} {blk n : Nat} {w0 : World} {d0 : Array α}
set_option maxRecDepth 100000 in
set_option maxHeartbeats 4000000 in
theorem partins_g (S : Sgt enc k lt g lb sf sb blk n w0 d0) (a b : Nat) (d : Array α) (w : World) (hw : SWK enc k w0 blk 0 d w) (hl : d.size = n) (hab : a < b) (hb : b ≤ n) :
    Calls Try.prog 118 #[.agg #[.func (.func g) #[] lb, .func (.func sf) #[] sb], .int .i64 a, .int .i64 b] w fun e w' => e = .returned (.bool (partialInsertionSort lt d a b).2) ∧ Sgo enc k blk n w0 w (partialInsertionSort lt d a b).1 w' := by
  have hsz := S.sz
  have eg := S.eg
  have hne : w.heap.size ≠ blk := by have := hw.lt S.inb; omega
  have H0 := Lib.hid (Sgw.start (n := n) hw hl 154 (.func (.func g) #[] lb) (.func (.func sf) #[] sb))
  clear hw hl
  go_enter Try.func118, Try.ntmps118
  go_wp2
  go_loopw [7, 8] (fun vi vs wr => ∃ (i s : Nat) (dk : Array α), vi = .int .i64 i ∧ vs = .int .i64 s ∧ a < i ∧ i ≤ b ∧ s ≤ 5 ∧ Hid (Sgw enc k (.func (.func g) #[] lb) (.func (.func sf) #[] sb) blk n w0 w dk wr) ∧ Hid (partialIns lt a b (5 - s) i dk = partialIns lt a b 5 (a + 1) d)) (fun _ vs _ => 5 - (intOf vs).toNat)
  case atStart => exact ⟨a + 1, 0, d, by go_num, rfl, by omega, by omega, by omega, H0, Lib.hid rfl⟩
  case round =>
    obtain ⟨i, s, dk, rfl, rfl, hai, hib, hs5, HS, HE⟩ := hrel
    obtain ⟨w2, rfl⟩ : ∃ v, v = wr := ⟨_, rfl⟩
    clear H0
    by_cases hs : s < 5
    · have hsz2 : (s : Int) < 5 := by omega
      go_upto_block 2 with fail
      go_cut [7] from 17 to 30 (fun sv wc => ∃ K : Nat, sv = .int .i64 K ∧ a < K ∧ K ≤ b ∧ Hid (scanSorted lt dk b i = K) ∧ Hid (Sgw enc k (.func (.func g) #[] lb) (.func (.func sf) #[] sb) blk n w0 w dk wc))
      case first =>
        go_wp2
        go_loopw [7] (fun sv wr => ∃ v : Nat, sv = .int .i64 v ∧ a < v ∧ v ≤ b ∧ Hid (scanSorted lt dk b i = scanSorted lt dk b v) ∧ Hid (Sgw enc k (.func (.func g) #[] lb) (.func (.func sf) #[] sb) blk n w0 w dk wr)) (fun sv _ => b - (intOf sv).toNat)
        case atStart => exact ⟨i, rfl, hai, hib, Lib.hid rfl, HS⟩
        case round =>
          obtain ⟨v, rfl, hb1, hb2, hsc, HL⟩ := hrel
          obtain ⟨w5, rfl⟩ : ∃ v, v = wr := ⟨_, rfl⟩
          have c0 := HL.out.c0
          by_cases hle : v < b
          · have hlez : (v : Int) < (b : Int) := by omega
            have hl := S.less' HL.out.sw HL.out.len v (v - 1) (by omega) (by omega)
            rw [natsub v (by omega)] at hl
            cases hlv : lt dk[v]! dk[v - 1]! with
            | false =>
              rw [hlv] at hl
              go_wp2_with fail
              refine hl.mono ?_
              rintro e w6 ⟨rfl, hg6⟩
              have HL6 := Lib.hid (HL.out.grw hne hg6)
              clear hg6 hl c0
              go_wp2
              go_roundw
              case rel => exact ⟨v + 1, by go_num, by omega, by omega, Lib.hid (hsc.out.trans (scanSorted_go lt dk b v hle hlv)), HL6⟩
              case measure => simp [intOf]; omega
            | true =>
              rw [hlv] at hl
              go_wp2_with fail
              refine hl.mono ?_
              rintro e w6 ⟨rfl, hg6⟩
              have HL6 := Lib.hid (HL.out.grw hne hg6)
              clear hg6 hl c0
              go_wp2
              go_meet
              case rel => exact ⟨v, rfl, hb1, hb2, Lib.hid (hsc.out.trans (scanSorted_stop lt dk b v (Or.inr hlv))), HL6⟩
          · have hlez : ¬ (v : Int) < (b : Int) := by omega
            go_wp2
            go_meet
            case rel => exact ⟨v, rfl, hb1, hb2, Lib.hid (hsc.out.trans (scanSorted_stop lt dk b v (Or.inl hle))), HL⟩
      case rest =>
        obtain ⟨K, rfl, hK1, hK2, hsc, HS2⟩ := hcut
        clear HS
        by_cases hKb : K = b
        · have HP := Lib.hid (show partialInsertionSort lt d a b = (dk, true) by unfold partialInsertionSort; rw [← HE.out]; exact pi_true lt a b s i dk hs (hsc.out.trans hKb))
          have hkz : ((K : Int) == (b : Int)) = true := by simp [hKb]
          clear hKb
          go_wp2
          go_ret
          rw [HP.out]
          exact ⟨rfl, HS2.out.end_⟩
        · have hkz : ((K : Int) == (b : Int)) = false := by simp; omega
          by_cases h50 : b - a < 50
          · have HP := Lib.hid (show partialInsertionSort lt d a b = (dk, false) by unfold partialInsertionSort; rw [← HE.out]; exact pi_short lt a b s i dk hs (fun e => hKb (hsc.out.symm.trans e)) h50)
            have h50z : (b : Int) - (a : Int) < 50 := by omega
            go_wp2
            go_ret
            rw [HP.out]
            exact ⟨rfl, HS2.out.end_⟩
          · have h50z : ¬ (b : Int) - (a : Int) < 50 := by omega
            have c1 := HS2.out.c1
            obtain ⟨w7, hsr, hsw, hsl, hst⟩ := S.swap' HS2.out.sw HS2.out.len K (K - 1) (by omega) (by omega)
            rw [natsub K (by omega)] at hsr
            obtain ⟨D1, hD1⟩ : ∃ D1 : Array α, D1 = swp dk K (K - 1) := ⟨_, rfl⟩
            rw [← hD1] at hsw hsl
            have H7 := Lib.hid (HS2.out.step hne hsw hsl hst)
            have HG := Lib.hid (show partialIns lt a b (5 - (s + 1)) K (fixUp lt b K (fixDown lt a K D1)) = partialIns lt a b 5 (a + 1) d by rw [← HE.out, pi_go lt a b s i K dk hs hsc.out hKb h50, hD1])
            clear hsw hsl hst hD1 HS2 HE hsc
            go_upto_if 47 with fail
            clear hsr c1
            go_cut [] from 44 to 66 (fun wc => Hid (Sgw enc k (.func (.func g) #[] lb) (.func (.func sf) #[] sb) blk n w0 w (fixDown lt a K D1) wc))
            case first =>
              by_cases h2 : K - a ≥ 2
              · have h2z : (2 : Int) ≤ (K : Int) - (a : Int) := by omega
                have HFD := Lib.hid (show fixDown lt a K D1 = shiftDown lt (K - 1) D1 from if_pos h2)
                go_wp2
                go_loopw [9] (fun sv wr => ∃ (j : Nat) (dj : Array α), sv = .int .i64 j ∧ j < K ∧ Hid (Sgw enc k (.func (.func g) #[] lb) (.func (.func sf) #[] sb) blk n w0 w dj wr) ∧ Hid (shiftDown lt j dj = shiftDown lt (K - 1) D1)) (fun sv _ => (intOf sv).toNat)
                case atStart => exact ⟨K - 1, D1, by go_num, by omega, H7, Lib.hid rfl⟩
                case round =>
                  clear H7
                  obtain ⟨j, dj, rfl, hjK, HJ, HI⟩ := hrel
                  obtain ⟨w8, rfl⟩ : ∃ v, v = wr := ⟨_, rfl⟩
                  have c0 := HJ.out.c0
                  by_cases hj : 1 ≤ j
                  · have hjz : (1 : Int) ≤ (j : Int) := by omega
                    have hl := S.less' HJ.out.sw HJ.out.len j (j - 1) (by omega) (by omega)
                    rw [natsub j (by omega)] at hl
                    cases hlv : lt dj[j]! dj[j - 1]! with
                    | true =>
                      rw [hlv] at hl
                      go_wp2_with fail
                      refine hl.mono ?_
                      rintro e w3 ⟨rfl, hg⟩
                      have HG3 := Lib.hid (HJ.out.grw hne hg)
                      clear hg hl c0
                      have c1 := HG3.out.c1
                      obtain ⟨w4, hsr, hsw, hsl, hst⟩ := S.swap' HG3.out.sw HG3.out.len j (j - 1) (by omega) (by omega)
                      rw [natsub j (by omega)] at hsr
                      have H4 := Lib.hid (HG3.out.step hne hsw hsl hst)
                      clear hsw hsl hst
                      go_wp2
                      go_roundw
                      case rel => exact ⟨j - 1, _, by congr 1; omega, by omega, H4, Lib.hid (by rw [← HI.out, shiftDown_go lt j dj hj hlv])⟩
                      case measure => simp [intOf]; omega
                    | false =>
                      rw [hlv] at hl
                      go_wp2_with fail
                      refine hl.mono ?_
                      rintro e w3 ⟨rfl, hg⟩
                      have HG3 := Lib.hid (HJ.out.grw hne hg)
                      clear hg hl c0
                      go_wp2
                      go_meet
                      case rel => exact Lib.hid (by rw [HFD.out, ← HI.out, shiftDown_stop lt j dj (Or.inr hlv)]; exact HG3.out)
                  · have hjz : ¬ (1 : Int) ≤ (j : Int) := by omega
                    go_wp2
                    go_meet
                    case rel => exact Lib.hid (by rw [HFD.out, ← HI.out, shiftDown_stop lt j dj (Or.inl (by omega))]; exact HJ.out)
              · have h2z : ¬ (2 : Int) ≤ (K : Int) - (a : Int) := by omega
                have HFD := Lib.hid (show fixDown lt a K D1 = D1 from if_neg h2)
                go_wp2
                go_meet
                case rel => exact Lib.hid (by rw [HFD.out]; exact H7.out)
            case rest =>
              have H8 := hcut
              obtain ⟨D2, hD2⟩ : ∃ D2 : Array α, D2 = fixDown lt a K D1 := ⟨_, rfl⟩
              rw [← hD2] at H8 HG
              clear hcut H7 hD2
              by_cases h2 : b - K ≥ 2
              · have h2z : (2 : Int) ≤ (b : Int) - (K : Int) := by omega
                have HFD := Lib.hid (show fixUp lt b K D2 = shiftUp lt b (K + 1) D2 from if_pos h2)
                rw [HFD.out] at HG
                go_wp2
                go_loopw [10] (fun sv wr => ∃ (j : Nat) (dj : Array α), sv = .int .i64 j ∧ K < j ∧ j ≤ b ∧ Hid (Sgw enc k (.func (.func g) #[] lb) (.func (.func sf) #[] sb) blk n w0 w dj wr) ∧ Hid (shiftUp lt b j dj = shiftUp lt b (K + 1) D2)) (fun sv _ => b - (intOf sv).toNat)
                case atStart => exact ⟨K + 1, D2, by go_num, by omega, by omega, H8, Lib.hid rfl⟩
                case round =>
                  clear H8
                  obtain ⟨j, dj, rfl, hjK, hjb, HJ, HI⟩ := hrel
                  obtain ⟨w8, rfl⟩ : ∃ v, v = wr := ⟨_, rfl⟩
                  have c0 := HJ.out.c0
                  by_cases hj : j < b
                  · have hjz : (j : Int) < (b : Int) := by omega
                    have hl := S.less' HJ.out.sw HJ.out.len j (j - 1) (by omega) (by omega)
                    rw [natsub j (by omega)] at hl
                    cases hlv : lt dj[j]! dj[j - 1]! with
                    | true =>
                      rw [hlv] at hl
                      go_wp2_with fail
                      refine hl.mono ?_
                      rintro e w3 ⟨rfl, hg⟩
                      have HG3 := Lib.hid (HJ.out.grw hne hg)
                      clear hg hl c0
                      have c1 := HG3.out.c1
                      obtain ⟨w4, hsr, hsw, hsl, hst⟩ := S.swap' HG3.out.sw HG3.out.len j (j - 1) (by omega) (by omega)
                      rw [natsub j (by omega)] at hsr
                      have H4 := Lib.hid (HG3.out.step hne hsw hsl hst)
                      clear hsw hsl hst
                      go_wp2
                      go_roundw
                      case rel => exact ⟨j + 1, _, by go_num, by omega, by omega, H4, Lib.hid (by rw [← HI.out, shiftUp_go lt b j dj hj hlv])⟩
                      case measure => simp [intOf]; omega
                    | false =>
                      rw [hlv] at hl
                      go_wp2_with fail
                      refine hl.mono ?_
                      rintro e w3 ⟨rfl, hg⟩
                      have HG3 := Lib.hid (HJ.out.grw hne hg)
                      have HI2 := Lib.hid (show dj = shiftUp lt b (K + 1) D2 by rw [← HI.out, shiftUp_stop lt b j dj (Or.inr hlv)])
                      clear hg hl c0
                      go_wp2
                      go_roundw
                      case rel => exact ⟨K, s + 1, _, rfl, by go_num, hK1, by omega, by omega, HG3, Lib.hid (by rw [HI2.out]; exact HG.out)⟩
                      case measure => simp [intOf]; omega
                  · have hjz : ¬ (j : Int) < (b : Int) := by omega
                    have HI2 := Lib.hid (show dj = shiftUp lt b (K + 1) D2 by rw [← HI.out, shiftUp_stop lt b j dj (Or.inl hj)])
                    go_wp2
                    go_roundw
                    case rel => exact ⟨K, s + 1, _, rfl, by go_num, hK1, by omega, by omega, HJ, Lib.hid (by rw [HI2.out]; exact HG.out)⟩
                    case measure => simp [intOf]; omega
              · have h2z : ¬ (2 : Int) ≤ (b : Int) - (K : Int) := by omega
                have HFD := Lib.hid (show fixUp lt b K D2 = D2 from if_neg h2)
                rw [HFD.out] at HG
                go_wp2
                go_roundw
                case rel => exact ⟨K, s + 1, _, rfl, by go_num, hK1, by omega, by omega, H8, HG⟩
                case measure => simp [intOf]; omega
    · have hsz2 : ¬ (s : Int) < 5 := by omega
      have e5 : s = 5 := by omega
      have HP := Lib.hid (show partialInsertionSort lt d a b = (dk, false) by unfold partialInsertionSort; rw [← HE.out, e5]; exact pi_end lt a b i dk)
      clear e5
      go_wp2
      go_ret
      rw [HP.out]
      exact ⟨rfl, HS.out.end_⟩
end Go.Proofs.Ytpbgccidhpfmgaa
