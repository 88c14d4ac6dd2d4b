/- Contract of sort.insertionSort_func where 'less' may make blocks of its own. Conditions: as stated. -/
import Derived.Test.YtpbgccidhpfmgaaSgA
import Derived.Deep.LoopGhost
namespace Go.Proofs.Ytpbgccidhpfmgaa
open Go Go.RowKit Go.Sort
set_option linter.unusedVariables false
set_option linter.unusedSimpArgs false

variable {α : Type} [Inhabited α] {enc : α → List Value} {k : Nat} {lt : α → α → Bool} {g : Nat} {lb : Array Value} {sf : Nat} {sb : Array Value} {blk n : Nat} {w0 : World} {d0 : Array α}
theorem natsub (j : Nat) (h : 0 < j) : ((j - 1 : Nat) : Int) = (j : Int) - 1 := by omega
set_option maxRecDepth 100000 in
set_option maxHeartbeats 2000000 in
theorem ins_g (S : Sgt enc k lt g lb sf sb blk n w0 d0) (a b : Nat) (d : Array α) (w : World) (hw : SWK enc k w0 blk 0 d w) (hl : d.size = n) (hab : a ≤ b) (hb : b ≤ n) :
    Calls Try.prog 113 #[.agg #[.func (.func g) #[] lb, .func (.func sf) #[] sb], .int .i64 a, .int .i64 b] w fun e w' => e = .returned (.tuple #[]) ∧ Sgo enc k blk n w0 w (insertionSort lt d a b) w' := by
  have hsz := S.sz
  have eg := S.eg
  have hne : w.heap.size ≠ blk := by have := hw.lt S.inb; omega
  have H0 := Lib.hid (Sgw.start (n := n) hw hl 154 (.func (.func g) #[] lb) (.func (.func sf) #[] sb))
  clear hw hl
  go_enter Try.func113, Try.ntmps113
  go_wp2
  go_loopw [6] (fun vi wr => ∃ (i : Nat) (dk : Array α), vi = .int .i64 i ∧ a < i ∧ i ≤ b + 1 ∧ Hid (Sgw enc k (.func (.func g) #[] lb) (.func (.func sf) #[] sb) blk n w0 w dk wr) ∧ Hid (insOuter lt a b i dk = insOuter lt a b (a + 1) d)) (fun vi _ => b + 1 - (intOf vi).toNat)
  case atStart => exact ⟨a + 1, d, by go_num, by omega, by omega, H0, Lib.hid rfl⟩
  case round =>
    obtain ⟨i, dk, rfl, hai, hib, HW, HO⟩ := hrel
    obtain ⟨w1, rfl⟩ : ∃ v, v = wr := ⟨_, rfl⟩
    clear H0
    by_cases hlt : i < b
    · have hltz : (i : Int) < (b : Int) := by omega
      go_wp2
      go_loopw [7] (fun vj wr2 => ∃ (j : Nat) (dj : Array α), vj = .int .i64 j ∧ a ≤ j ∧ j ≤ i ∧ Hid (Sgw enc k (.func (.func g) #[] lb) (.func (.func sf) #[] sb) blk n w0 w dj wr2) ∧ Hid (insInner lt a j dj = insInner lt a i dk)) (fun vj _ => (intOf vj).toNat)
      case atStart => exact ⟨i, dk, rfl, by omega, Nat.le_refl _, HW, Lib.hid rfl⟩
      case round =>
        obtain ⟨j, dj, rfl, haj, hji, HJ, HI⟩ := hrel
        obtain ⟨w2, rfl⟩ : ∃ v, v = wr := ⟨_, rfl⟩
        clear HW
        have c0 := HJ.out.c0
        by_cases hja : a < j
        · have hjaz : (a : Int) < (j : Int) := by omega
          have hl := S.less' HJ.out.sw HJ.out.len j (j - 1) (by omega) (by omega)
          rw [natsub j (by omega)] at hl
          cases hlv : lt dj[j]! dj[j - 1]! with
          | true =>
            rw [hlv] at hl
            go_wp2_with fail
            refine hl.mono ?_
            rintro e w3 ⟨rfl, hg⟩
            have HG := Lib.hid (HJ.out.grw hne hg)
            clear hg hl c0
            have c1 := HG.out.c1
            obtain ⟨w4, hs, hsw, hsl, hst⟩ := S.swap' HG.out.sw HG.out.len j (j - 1) (by omega) (by omega)
            rw [natsub j (by omega)] at hs
            have H4 := Lib.hid (HG.out.step hne hsw hsl hst)
            clear hsw hsl hst
            go_wp2
            go_roundw
            case rel => exact ⟨j - 1, _, by congr 1; omega, by omega, by omega, H4, Lib.hid (by rw [← HI.out, insInner_go lt a j dj hja hlv])⟩
            case measure => simp [intOf]; omega
          | false =>
            rw [hlv] at hl
            go_wp2_with fail
            refine hl.mono ?_
            rintro e w3 ⟨rfl, hg⟩
            have HG := Lib.hid (HJ.out.grw hne hg)
            clear hg hl c0
            go_wp2
            go_roundw
            case rel => exact ⟨i + 1, dj, by go_num, by omega, by omega, HG, Lib.hid (by rw [← HO.out, insOuter_go _ _ _ _ _ hlt, ← HI.out, insInner_stop _ _ _ _ (Or.inr hlv)])⟩
            case measure => simp [intOf]; omega
        · have hjaz : ¬ (a : Int) < (j : Int) := by omega
          go_wp2
          go_roundw
          case rel => exact ⟨i + 1, dj, by go_num, by omega, by omega, HJ, Lib.hid (by rw [← HO.out, insOuter_go _ _ _ _ _ hlt, ← HI.out, insInner_stop _ _ _ _ (Or.inl (by omega))])⟩
          case measure => simp [intOf]; omega
    · have hltz : ¬ (i : Int) < (b : Int) := by omega
      go_wp2
      go_end0
      refine ⟨rfl, ?_⟩
      unfold insertionSort
      rw [← HO.out, insOuter_stop _ _ _ _ _ hlt]
      exact HW.out.end_
end Go.Proofs.Ytpbgccidhpfmgaa
