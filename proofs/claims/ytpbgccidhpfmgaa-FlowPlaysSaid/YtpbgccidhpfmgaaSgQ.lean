/- Contracts of sort.partitionEqual_func and sort.partition_func where 'less' may make blocks of its own. Conditions: as stated. -/
import Derived.Test.YtpbgccidhpfmgaaSgI
import Derived.Sort.WalkC4
import Derived.Deep.CutRange
import Derived.Deep.CutBlock
namespace Go.Proofs.Ytpbgccidhpfmgaa
open Go Go.RowKit Go.Sort
set_option linter.unusedVariables false
set_option linter.unusedSimpArgs false

variable {α : Type} [Inhabited α] {enc : α → List Value} {k : Nat} {lt : α → α → Bool} {g : Nat} {lb : Array Value} {sf : Nat} {sb : Array Value} {blk n : Nat} {w0 : World} {d0 : Array α}
set_option maxRecDepth 100000 in
set_option maxHeartbeats 4000000 in
theorem pareq_g (S : Sgt enc k lt g lb sf sb blk n w0 d0) (a b pivot : Nat) (d : Array α) (w : World) (hw : SWK enc k w0 blk 0 d w) (hl : d.size = n) (hap : a ≤ pivot) (hpb : pivot < b) (hb : b ≤ n) :
    Calls Try.prog 119 #[.agg #[.func (.func g) #[] lb, .func (.func sf) #[] sb], .int .i64 a, .int .i64 b, .int .i64 pivot] w fun e w' => e = .returned (.int .i64 (partitionEqual lt d a b pivot).1) ∧ Sgo enc k blk n w0 w (partitionEqual lt d a b pivot).2 w' := by
  have hsz := S.sz
  have eg := S.eg
  have hne : w.heap.size ≠ blk := by have := hw.lt S.inb; omega
  obtain ⟨W, hW⟩ : ∃ W, W = w.alloc (.cells #[(.func (.func g) #[] lb), (.func (.func sf) #[] sb)] 154) := ⟨_, rfl⟩
  have H0 : Sgw enc k (.func (.func g) #[] lb) (.func (.func sf) #[] sb) blk n w0 w d W := by rw [hW]; exact Sgw.start hw hl 154 (.func (.func g) #[] lb) (.func (.func sf) #[] sb)
  have c1 := H0.c1
  obtain ⟨w1, hs, hsw, hsl, hst⟩ := S.swap' H0.sw H0.len a pivot (by omega) (by omega)
  have H1 := Lib.hid (H0.step hne hsw hsl hst)
  have HW := Lib.hid hW
  clear hsw hsl hst H0 hw hl hW
  go_enter Try.func119, Try.ntmps119
  go_upto_region 1 with fail
  rw [← HW.out]
  go_wp2
  clear c1 hs
  go_loopw [9, 10] (fun vi vj wr => ∃ (i j : Nat) (dk : Array α), vi = .int .i64 i ∧ vj = .int .i64 j ∧ a < i ∧ i ≤ j + 1 ∧ j < b ∧ Hid (Sgw enc k (.func (.func g) #[] lb) (.func (.func sf) #[] sb) blk n w0 w dk wr) ∧ Hid (partEqLoop lt a i j dk = partEqLoop lt a (a + 1) (b - 1) (swp d a pivot))) (fun vi vj _ => (intOf vj).toNat + 1 - (intOf vi).toNat)
  case atStart => exact ⟨a + 1, b - 1, _, by go_num, by go_num, by omega, by omega, by omega, H1, Lib.hid rfl⟩
  case round =>
    obtain ⟨i, j, dk, rfl, rfl, hai, hij, hjb, HS, HE⟩ := hrel
    obtain ⟨w2, rfl⟩ : ∃ v, v = wr := ⟨_, rfl⟩
    clear H1
    go_upto_block 2 with fail
    go_cut [9] from 20 to 32 (fun sv wc => ∃ i2 : Nat, sv = .int .i64 i2 ∧ i ≤ i2 ∧ i2 ≤ j + 1 ∧ Hid (i2 = scanUp (fun x => !lt dk[a]! x) dk j i) ∧ Hid (Sgw enc k (.func (.func g) #[] lb) (.func (.func sf) #[] sb) blk n w0 w dk wc))
    case first =>
      go_wp2
      go_loopw [9] (fun sv wr => ∃ i' : Nat, sv = .int .i64 i' ∧ i ≤ i' ∧ i' ≤ j + 1 ∧ Hid (scanUp (fun x => !lt dk[a]! x) dk j i' = scanUp (fun x => !lt dk[a]! x) dk j i) ∧ Hid (Sgw enc k (.func (.func g) #[] lb) (.func (.func sf) #[] sb) blk n w0 w dk wr)) (fun sv _ => j + 1 - (intOf sv).toNat)
      case atStart => exact ⟨i, rfl, Nat.le_refl _, by omega, Lib.hid rfl, HS⟩
      case round =>
        obtain ⟨i', rfl, hb1, hb2, hsc, HL⟩ := hrel
        obtain ⟨w5, rfl⟩ : ∃ v, v = wr := ⟨_, rfl⟩
        have c0 := HL.out.c0
        by_cases hle : i' ≤ j
        · have hlez : (i' : Int) ≤ (j : Int) := by omega
          have hl := S.less' HL.out.sw HL.out.len (a) (i') (by omega) (by omega)
          cases hlv : lt dk[a]! dk[i']! with
          | false =>
            rw [hlv] at hl
            go_wp2_with fail
            refine hl.mono ?_
            rintro e w6 ⟨rfl, hg6⟩
            have HL6 := Lib.hid (HL.out.grw hne hg6)
            clear hg6 hl c0
            go_wp2
            go_roundw
            case rel => exact ⟨i' + 1, by go_num, by omega, by omega, Lib.hid ((scanUp_go (fun x => !lt dk[a]! x) dk j i' hle (by simp [hlv])).symm.trans hsc.out), HL6⟩
            case measure => simp [intOf]; omega
          | true =>
            rw [hlv] at hl
            go_wp2_with fail
            refine hl.mono ?_
            rintro e w6 ⟨rfl, hg6⟩
            have HL6 := Lib.hid (HL.out.grw hne hg6)
            clear hg6 hl c0
            go_wp2
            go_meet
            case rel => exact ⟨i', rfl, hb1, hb2, Lib.hid ((scanUp_end (fun x => !lt dk[a]! x) dk j i' (Or.inr (by simp [hlv]))).symm.trans hsc.out), HL6⟩
        · have hlez : ¬ ((i' : Int) ≤ (j : Int)) := by omega
          go_wp2
          go_meet
          case rel => exact ⟨i', rfl, hb1, hb2, Lib.hid ((scanUp_end (fun x => !lt dk[a]! x) dk j i' (Or.inl hle)).symm.trans hsc.out), HL⟩
    case rest =>
      obtain ⟨i2, rfl, hi1, hi2, hsi, HS2⟩ := hcut
      clear HS
      go_upto_block 4 with fail
      go_cut [10] from 33 to 44 (fun sv wc => ∃ j2 : Nat, sv = .int .i64 j2 ∧ j2 ≤ j ∧ i2 ≤ j2 + 1 ∧ Hid (j2 = scanDown (fun x => lt dk[a]! x) dk i2 j) ∧ Hid (Sgw enc k (.func (.func g) #[] lb) (.func (.func sf) #[] sb) blk n w0 w dk wc))
      case first =>
        go_wp2
        go_loopw [10] (fun sv wr => ∃ j' : Nat, sv = .int .i64 j' ∧ j' ≤ j ∧ i2 ≤ j' + 1 ∧ Hid (scanDown (fun x => lt dk[a]! x) dk i2 j' = scanDown (fun x => lt dk[a]! x) dk i2 j) ∧ Hid (Sgw enc k (.func (.func g) #[] lb) (.func (.func sf) #[] sb) blk n w0 w dk wr)) (fun sv _ => (intOf sv).toNat)
        case atStart => exact ⟨j, rfl, Nat.le_refl _, by omega, Lib.hid rfl, HS2⟩
        case round =>
          obtain ⟨j', rfl, hb1, hb2, hsc, HL⟩ := hrel
          obtain ⟨w5, rfl⟩ : ∃ v, v = wr := ⟨_, rfl⟩
          have c0 := HL.out.c0
          by_cases hle : i2 ≤ j'
          · have hlez : (i2 : Int) ≤ (j' : Int) := by omega
            have hl := S.less' HL.out.sw HL.out.len (a) (j') (by omega) (by omega)
            cases hlv : lt dk[a]! dk[j']! with
            | true =>
              rw [hlv] at hl
              go_wp2_with fail
              refine hl.mono ?_
              rintro e w6 ⟨rfl, hg6⟩
              have HL6 := Lib.hid (HL.out.grw hne hg6)
              clear hg6 hl c0
              go_wp2
              go_roundw
              case rel => exact ⟨j' - 1, by go_num, by omega, by omega, Lib.hid ((scanDown_go (fun x => lt dk[a]! x) dk i2 j' hle (by omega) (by simp [hlv])).symm.trans hsc.out), HL6⟩
              case measure => simp [intOf]; omega
            | false =>
              rw [hlv] at hl
              go_wp2_with fail
              refine hl.mono ?_
              rintro e w6 ⟨rfl, hg6⟩
              have HL6 := Lib.hid (HL.out.grw hne hg6)
              clear hg6 hl c0
              go_wp2
              go_meet
              case rel => exact ⟨j', rfl, hb1, hb2, Lib.hid ((scanDown_end (fun x => lt dk[a]! x) dk i2 j' (Or.inr (by simp [hlv]))).symm.trans hsc.out), HL6⟩
          · have hlez : ¬ ((i2 : Int) ≤ (j' : Int)) := by omega
            go_wp2
            go_meet
            case rel => exact ⟨j', rfl, hb1, hb2, Lib.hid ((scanDown_end (fun x => lt dk[a]! x) dk i2 j' (Or.inl hle)).symm.trans hsc.out), HL⟩
      case rest =>
        obtain ⟨j2, rfl, hj1, hj2, hsj, HS3⟩ := hcut
        clear HS2
        by_cases hle : i2 ≤ j2
        · have hlez : ¬ (j2 : Int) < (i2 : Int) := by omega
          have hlt3 := scans_lt lt a i j dk (by omega) hsi.out hsj.out hle
          have c1 := HS3.out.c1
          obtain ⟨w7, hs, hsw, hsl, hst⟩ := S.swap' HS3.out.sw HS3.out.len i2 j2 (by omega) (by omega)
          have H7 := Lib.hid (HS3.out.step hne hsw hsl hst)
          clear hsw hsl hst
          go_wp2
          go_roundw
          case rel => exact ⟨i2 + 1, j2 - 1, _, by go_num, by go_num, by omega, by omega, by omega, H7, Lib.hid (by rw [← HE.out, partEq_go lt a i j dk hsi.out hsj.out (by omega)])⟩
          case measure => simp [intOf]; omega
        · have hlez : (j2 : Int) < (i2 : Int) := by omega
          have e := partEq_break lt a i j dk hsi.out hsj.out (by omega)
          have HP := Lib.hid (show partitionEqual lt d a b pivot = (i2, dk) by unfold partitionEqual; rw [← HE.out, e])
          clear e
          go_wp2
          go_ret
          rw [HP.out]
          exact ⟨rfl, HS3.out.end_⟩
end Go.Proofs.Ytpbgccidhpfmgaa
