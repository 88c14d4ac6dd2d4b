/- Contract of sort.partition_func where 'less' may make blocks of its own. Conditions: as stated. -/
import Derived.Test.YtpbgccidhpfmgaaSgQ
import Derived.Sort.WalkC4
import Derived.Deep.CutRange
import Derived.Deep.CutBlock
namespace Go.Proofs.Ytpbgccidhpfmgaa
open Go Go.RowKit Go.Sort
set_option linter.unusedVariables false
set_option linter.unusedSimpArgs false

variable {α : Type} [Inhabited α] {enc : α → List Value} {k : Nat} {lt : α → α → Bool} {g : Nat} {lb : Array Value} {sf : Nat} {sb : Array Value} {blk n : Nat} {w0 : World} {d0 : Array α}
set_option maxRecDepth 100000 in
set_option maxHeartbeats 4000000 in
theorem part_g (S : Sgt enc k lt g lb sf sb blk n w0 d0) (a b pivot : Nat) (d : Array α) (w : World) (hw : SWK enc k w0 blk 0 d w) (hl : d.size = n) (hap : a ≤ pivot) (hpb : pivot < b) (hb : b ≤ n) :
    Calls Try.prog 120 #[.agg #[.func (.func g) #[] lb, .func (.func sf) #[] sb], .int .i64 a, .int .i64 b, .int .i64 pivot] w fun e w' => e = .returned (.tuple #[.int .i64 (partition lt d a b pivot).1, .bool (partition lt d a b pivot).2.1]) ∧ Sgo enc k blk n w0 w (partition lt d a b pivot).2.2 w' := by
  have hsz := S.sz
  have eg := S.eg
  have hne : w.heap.size ≠ blk := by have := hw.lt S.inb; omega
  obtain ⟨W, hW⟩ : ∃ W, W = w.alloc (.cells #[(.func (.func g) #[] lb), (.func (.func sf) #[] sb)] 154) := ⟨_, rfl⟩
  have H0 : Sgw enc k (.func (.func g) #[] lb) (.func (.func sf) #[] sb) blk n w0 w d W := by rw [hW]; exact Sgw.start hw hl 154 (.func (.func g) #[] lb) (.func (.func sf) #[] sb)
  have c1 := H0.c1
  obtain ⟨w1, hs, hsw, hsl, hst⟩ := S.swap' H0.sw H0.len a pivot (by omega) (by omega)
  have H1 := Lib.hid (H0.step hne hsw hsl hst)
  have HW := Lib.hid hW
  clear hsw hsl hst H0 hw hl hW
  obtain ⟨i, hi⟩ : ∃ i : Nat, i = a + 1 := ⟨_, rfl⟩
  obtain ⟨j, hj⟩ : ∃ j : Nat, j = b - 1 := ⟨_, rfl⟩
  obtain ⟨dk, hdk⟩ : ∃ dk : Array α, dk = swp d a pivot := ⟨_, rfl⟩
  rw [← hdk] at H1
  have hai : a < i := by omega
  have hij : i ≤ j + 1 := by omega
  have hjb : j < b := by omega
  have EI := Lib.hid (show ((a : Int) + 1) = (i : Int) by omega)
  have EJ := Lib.hid (show ((b : Int) - 1) = (j : Int) by omega)
  have Hi := Lib.hid hi
  have Hj := Lib.hid hj
  have Hdk := Lib.hid hdk
  clear hi hj hdk
  go_enter Try.func120, Try.ntmps120
  go_upto_region 1 with fail
  rw [← HW.out]
  go_upto_block 0 with fail
  rw [EI.out, EJ.out]
  clear c1 hs
  go_cut [10] from 21 to 32 (fun sv wc => ∃ i2 : Nat, sv = .int .i64 i2 ∧ i ≤ i2 ∧ i2 ≤ j + 1 ∧ Hid (i2 = scanUp (fun x => lt x dk[a]!) dk j i) ∧ Hid (Sgw enc k (.func (.func g) #[] lb) (.func (.func sf) #[] sb) blk n w0 w dk wc))
  case first =>
    go_wp2
    go_loopw [10] (fun sv wr => ∃ i' : Nat, sv = .int .i64 i' ∧ i ≤ i' ∧ i' ≤ j + 1 ∧ Hid (scanUp (fun x => lt x dk[a]!) dk j i' = scanUp (fun x => lt x dk[a]!) dk j i) ∧ Hid (Sgw enc k (.func (.func g) #[] lb) (.func (.func sf) #[] sb) blk n w0 w dk wr)) (fun sv _ => j + 1 - (intOf sv).toNat)
    case atStart => exact ⟨i, rfl, Nat.le_refl _, by omega, Lib.hid rfl, H1⟩
    case round =>
      obtain ⟨i', rfl, hb1, hb2, hsc, HL⟩ := hrel
      obtain ⟨w5, rfl⟩ : ∃ v, v = wr := ⟨_, rfl⟩
      have c0 := HL.out.c0
      by_cases hle : i' ≤ j
      · have hlez : (i' : Int) ≤ (j : Int) := by omega
        have hl := S.less' HL.out.sw HL.out.len (i') (a) (by omega) (by omega)
        cases hlv : lt dk[i']! dk[a]! with
        | true =>
          rw [hlv] at hl
          go_wp2_with fail
          refine hl.mono ?_
          rintro e w6 ⟨rfl, hg6⟩
          have HL6 := Lib.hid (HL.out.grw hne hg6)
          clear hg6 hl c0
          go_wp2
          go_roundw
          case rel => exact ⟨i' + 1, by go_num, by omega, by omega, Lib.hid ((scanUp_go (fun x => lt x dk[a]!) dk j i' hle (by simp [hlv])).symm.trans hsc.out), HL6⟩
          case measure => simp [intOf]; omega
        | false =>
          rw [hlv] at hl
          go_wp2_with fail
          refine hl.mono ?_
          rintro e w6 ⟨rfl, hg6⟩
          have HL6 := Lib.hid (HL.out.grw hne hg6)
          clear hg6 hl c0
          go_wp2
          go_meet
          case rel => exact ⟨i', rfl, hb1, hb2, Lib.hid ((scanUp_end (fun x => lt x dk[a]!) dk j i' (Or.inr (by simp [hlv]))).symm.trans hsc.out), HL6⟩
      · have hlez : ¬ ((i' : Int) ≤ (j : Int)) := by omega
        go_wp2
        go_meet
        case rel => exact ⟨i', rfl, hb1, hb2, Lib.hid ((scanUp_end (fun x => lt x dk[a]!) dk j i' (Or.inl hle)).symm.trans hsc.out), HL⟩
  case rest =>
    obtain ⟨i2, rfl, hi1, hi2, hsi, HS2⟩ := hcut
    clear H1
    go_upto_block 2 with fail
    go_cut [11] from 33 to 45 (fun sv wc => ∃ j2 : Nat, sv = .int .i64 j2 ∧ j2 ≤ j ∧ i2 ≤ j2 + 1 ∧ Hid (j2 = scanDown (fun x => !lt x dk[a]!) dk i2 j) ∧ Hid (Sgw enc k (.func (.func g) #[] lb) (.func (.func sf) #[] sb) blk n w0 w dk wc))
    case first =>
      go_wp2
      go_loopw [11] (fun sv wr => ∃ j' : Nat, sv = .int .i64 j' ∧ j' ≤ j ∧ i2 ≤ j' + 1 ∧ Hid (scanDown (fun x => !lt x dk[a]!) dk i2 j' = scanDown (fun x => !lt x dk[a]!) dk i2 j) ∧ Hid (Sgw enc k (.func (.func g) #[] lb) (.func (.func sf) #[] sb) blk n w0 w dk wr)) (fun sv _ => (intOf sv).toNat)
      case atStart => exact ⟨j, rfl, Nat.le_refl _, by omega, Lib.hid rfl, HS2⟩
      case round =>
        obtain ⟨j', rfl, hb1, hb2, hsc, HL⟩ := hrel
        obtain ⟨w5, rfl⟩ : ∃ v, v = wr := ⟨_, rfl⟩
        have c0 := HL.out.c0
        by_cases hle : i2 ≤ j'
        · have hlez : (i2 : Int) ≤ (j' : Int) := by omega
          have hl := S.less' HL.out.sw HL.out.len (j') (a) (by omega) (by omega)
          cases hlv : lt dk[j']! dk[a]! with
          | false =>
            rw [hlv] at hl
            go_wp2_with fail
            refine hl.mono ?_
            rintro e w6 ⟨rfl, hg6⟩
            have HL6 := Lib.hid (HL.out.grw hne hg6)
            clear hg6 hl c0
            go_wp2
            go_roundw
            case rel => exact ⟨j' - 1, by go_num, by omega, by omega, Lib.hid ((scanDown_go (fun x => !lt x dk[a]!) dk i2 j' hle (by omega) (by simp [hlv])).symm.trans hsc.out), HL6⟩
            case measure => simp [intOf]; omega
          | true =>
            rw [hlv] at hl
            go_wp2_with fail
            refine hl.mono ?_
            rintro e w6 ⟨rfl, hg6⟩
            have HL6 := Lib.hid (HL.out.grw hne hg6)
            clear hg6 hl c0
            go_wp2
            go_meet
            case rel => exact ⟨j', rfl, hb1, hb2, Lib.hid ((scanDown_end (fun x => !lt x dk[a]!) dk i2 j' (Or.inr (by simp [hlv]))).symm.trans hsc.out), HL6⟩
        · have hlez : ¬ ((i2 : Int) ≤ (j' : Int)) := by omega
          go_wp2
          go_meet
          case rel => exact ⟨j', rfl, hb1, hb2, Lib.hid ((scanDown_end (fun x => !lt x dk[a]!) dk i2 j' (Or.inl hle)).symm.trans hsc.out), HL⟩
    case rest =>
      obtain ⟨j2, rfl, hj1, hj2, hsj, HS3⟩ := hcut
      clear HS2
      have c1 := HS3.out.c1
      by_cases hle : i2 ≤ j2
      · have hlez : ¬ (j2 : Int) < (i2 : Int) := by omega
        have hlt3 := part_scans_lt lt a i j dk (by omega) hsi.out hsj.out hle
        obtain ⟨w7, hs, hsw, hsl, hst⟩ := S.swap' HS3.out.sw HS3.out.len i2 j2 (by omega) (by omega)
        obtain ⟨D0, hD0⟩ : ∃ D0 : Array α, D0 = swp dk i2 j2 := ⟨_, rfl⟩
        rw [← hD0] at hsw hsl
        have H7 := Lib.hid (HS3.out.step hne hsw hsl hst)
        have PF := Lib.hid (show partition lt d a b pivot = ((partLoop lt a (i2 + 1) (j2 - 1) D0).1, false, swp (partLoop lt a (i2 + 1) (j2 - 1) D0).2 (partLoop lt a (i2 + 1) (j2 - 1) D0).1 a) by rw [hD0]; exact part_first_go lt d a b pivot Hi.out Hj.out Hdk.out hsi.out hsj.out (by omega))
        clear hsw hsl hst hD0 HS3
        go_wp2
        clear hs c1
        go_loopw [10, 11] (fun vi vj wr => ∃ (i j : Nat) (dk : Array α), vi = .int .i64 i ∧ vj = .int .i64 j ∧ a < i ∧ i ≤ j + 1 ∧ j < b ∧ Hid (Sgw enc k (.func (.func g) #[] lb) (.func (.func sf) #[] sb) blk n w0 w dk wr) ∧ Hid (partLoop lt a i j dk = partLoop lt a (i2 + 1) (j2 - 1) D0)) (fun vi vj _ => (intOf vj).toNat + 1 - (intOf vi).toNat)
        case atStart => exact ⟨i2 + 1, j2 - 1, _, by go_num, by go_num, by omega, by omega, by omega, H7, Lib.hid rfl⟩
        case round =>
          obtain ⟨i3, j3, d3, rfl, rfl, hai3, hij3, hjb3, HS, HE⟩ := hrel
          obtain ⟨w2, rfl⟩ : ∃ v, v = wr := ⟨_, rfl⟩
          clear H7 hsi hsj hlt3 hi1 hi2 hj1 hj2 hle hlez
          go_upto_block 6 with fail
          go_cut [10] from 64 to 75 (fun sv wc => ∃ i4 : Nat, sv = .int .i64 i4 ∧ i3 ≤ i4 ∧ i4 ≤ j3 + 1 ∧ Hid (i4 = scanUp (fun x => lt x d3[a]!) d3 j3 i3) ∧ Hid (Sgw enc k (.func (.func g) #[] lb) (.func (.func sf) #[] sb) blk n w0 w d3 wc))
          case first =>
            go_wp2
            go_loopw [10] (fun sv wr => ∃ i' : Nat, sv = .int .i64 i' ∧ i3 ≤ i' ∧ i' ≤ j3 + 1 ∧ Hid (scanUp (fun x => lt x d3[a]!) d3 j3 i' = scanUp (fun x => lt x d3[a]!) d3 j3 i3) ∧ Hid (Sgw enc k (.func (.func g) #[] lb) (.func (.func sf) #[] sb) blk n w0 w d3 wr)) (fun sv _ => j3 + 1 - (intOf sv).toNat)
            case atStart => exact ⟨i3, rfl, Nat.le_refl _, by omega, Lib.hid rfl, HS⟩
            case round =>
              obtain ⟨i', rfl, hb1, hb2, hsc, HL⟩ := hrel
              obtain ⟨w5, rfl⟩ : ∃ v, v = wr := ⟨_, rfl⟩
              have c0 := HL.out.c0
              by_cases hle : i' ≤ j3
              · have hlez : (i' : Int) ≤ (j3 : Int) := by omega
                have hl := S.less' HL.out.sw HL.out.len (i') (a) (by omega) (by omega)
                cases hlv : lt d3[i']! d3[a]! with
                | true =>
                  rw [hlv] at hl
                  go_wp2_with fail
                  refine hl.mono ?_
                  rintro e w6 ⟨rfl, hg6⟩
                  have HL6 := Lib.hid (HL.out.grw hne hg6)
                  clear hg6 hl c0
                  go_wp2
                  go_roundw
                  case rel => exact ⟨i' + 1, by go_num, by omega, by omega, Lib.hid ((scanUp_go (fun x => lt x d3[a]!) d3 j3 i' hle (by simp [hlv])).symm.trans hsc.out), HL6⟩
                  case measure => simp [intOf]; omega
                | false =>
                  rw [hlv] at hl
                  go_wp2_with fail
                  refine hl.mono ?_
                  rintro e w6 ⟨rfl, hg6⟩
                  have HL6 := Lib.hid (HL.out.grw hne hg6)
                  clear hg6 hl c0
                  go_wp2
                  go_meet
                  case rel => exact ⟨i', rfl, hb1, hb2, Lib.hid ((scanUp_end (fun x => lt x d3[a]!) d3 j3 i' (Or.inr (by simp [hlv]))).symm.trans hsc.out), HL6⟩
              · have hlez : ¬ ((i' : Int) ≤ (j3 : Int)) := by omega
                go_wp2
                go_meet
                case rel => exact ⟨i', rfl, hb1, hb2, Lib.hid ((scanUp_end (fun x => lt x d3[a]!) d3 j3 i' (Or.inl hle)).symm.trans hsc.out), HL⟩
          case rest =>
            obtain ⟨i4, rfl, hi1, hi2, hsi, HS2⟩ := hcut
            clear HS
            go_upto_block 8 with fail
            go_cut [11] from 76 to 88 (fun sv wc => ∃ j4 : Nat, sv = .int .i64 j4 ∧ j4 ≤ j3 ∧ i4 ≤ j4 + 1 ∧ Hid (j4 = scanDown (fun x => !lt x d3[a]!) d3 i4 j3) ∧ Hid (Sgw enc k (.func (.func g) #[] lb) (.func (.func sf) #[] sb) blk n w0 w d3 wc))
            case first =>
              go_wp2
              go_loopw [11] (fun sv wr => ∃ j' : Nat, sv = .int .i64 j' ∧ j' ≤ j3 ∧ i4 ≤ j' + 1 ∧ Hid (scanDown (fun x => !lt x d3[a]!) d3 i4 j' = scanDown (fun x => !lt x d3[a]!) d3 i4 j3) ∧ Hid (Sgw enc k (.func (.func g) #[] lb) (.func (.func sf) #[] sb) blk n w0 w d3 wr)) (fun sv _ => (intOf sv).toNat)
              case atStart => exact ⟨j3, rfl, Nat.le_refl _, by omega, Lib.hid rfl, HS2⟩
              case round =>
                obtain ⟨j', rfl, hb1, hb2, hsc, HL⟩ := hrel
                obtain ⟨w5, rfl⟩ : ∃ v, v = wr := ⟨_, rfl⟩
                have c0 := HL.out.c0
                by_cases hle : i4 ≤ j'
                · have hlez : (i4 : Int) ≤ (j' : Int) := by omega
                  have hl := S.less' HL.out.sw HL.out.len (j') (a) (by omega) (by omega)
                  cases hlv : lt d3[j']! d3[a]! with
                  | false =>
                    rw [hlv] at hl
                    go_wp2_with fail
                    refine hl.mono ?_
                    rintro e w6 ⟨rfl, hg6⟩
                    have HL6 := Lib.hid (HL.out.grw hne hg6)
                    clear hg6 hl c0
                    go_wp2
                    go_roundw
                    case rel => exact ⟨j' - 1, by go_num, by omega, by omega, Lib.hid ((scanDown_go (fun x => !lt x d3[a]!) d3 i4 j' hle (by omega) (by simp [hlv])).symm.trans hsc.out), HL6⟩
                    case measure => simp [intOf]; omega
                  | true =>
                    rw [hlv] at hl
                    go_wp2_with fail
                    refine hl.mono ?_
                    rintro e w6 ⟨rfl, hg6⟩
                    have HL6 := Lib.hid (HL.out.grw hne hg6)
                    clear hg6 hl c0
                    go_wp2
                    go_meet
                    case rel => exact ⟨j', rfl, hb1, hb2, Lib.hid ((scanDown_end (fun x => !lt x d3[a]!) d3 i4 j' (Or.inr (by simp [hlv]))).symm.trans hsc.out), HL6⟩
                · have hlez : ¬ ((i4 : Int) ≤ (j' : Int)) := by omega
                  go_wp2
                  go_meet
                  case rel => exact ⟨j', rfl, hb1, hb2, Lib.hid ((scanDown_end (fun x => !lt x d3[a]!) d3 i4 j' (Or.inl hle)).symm.trans hsc.out), HL⟩
            case rest =>
              obtain ⟨j4, rfl, hj1, hj2, hsj, HS3⟩ := hcut
              clear HS2
              have c1 := HS3.out.c1
              by_cases hle : i4 ≤ j4
              · have hlez : ¬ (j4 : Int) < (i4 : Int) := by omega
                have hlt3 := part_scans_lt lt a i3 j3 d3 (by omega) hsi.out hsj.out hle
                obtain ⟨w7, hs, hsw, hsl, hst⟩ := S.swap' HS3.out.sw HS3.out.len i4 j4 (by omega) (by omega)
                have H7 := Lib.hid (HS3.out.step hne hsw hsl hst)
                clear hsw hsl hst
                go_wp2
                go_roundw
                case rel => exact ⟨i4 + 1, j4 - 1, _, by go_num, by go_num, by omega, by omega, by omega, H7, Lib.hid (by rw [← HE.out, part_go lt a i3 j3 d3 hsi.out hsj.out (by omega)])⟩
                case measure => simp [intOf]; omega
              · have hlez : (j4 : Int) < (i4 : Int) := by omega
                have e := part_break lt a i3 j3 d3 hsi.out hsj.out (by omega)
                have HP := Lib.hid (show partition lt d a b pivot = (j4, false, swp d3 j4 a) by rw [PF.out, ← HE.out, e])
                clear e
                obtain ⟨w7, hs, hsw, hsl, hst⟩ := S.swap' HS3.out.sw HS3.out.len j4 a (by omega) (by omega)
                have H7 := Lib.hid (HS3.out.step hne hsw hsl hst)
                clear hsw hsl hst
                go_wp2
                go_ret2
                rw [HP.out]
                exact ⟨rfl, H7.out.end_⟩
      · have hlez : (j2 : Int) < (i2 : Int) := by omega
        have HP := Lib.hid (part_first_break lt d a b pivot Hi.out Hj.out Hdk.out hsi.out hsj.out (by omega))
        obtain ⟨w7, hs, hsw, hsl, hst⟩ := S.swap' HS3.out.sw HS3.out.len j2 a (by omega) (by omega)
        have H7 := Lib.hid (HS3.out.step hne hsw hsl hst)
        clear hsw hsl hst
        go_wp2
        go_ret2
        rw [HP.out]
        exact ⟨rfl, H7.out.end_⟩
end Go.Proofs.Ytpbgccidhpfmgaa
