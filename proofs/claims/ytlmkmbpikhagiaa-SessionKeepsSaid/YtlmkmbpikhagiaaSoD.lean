/- Sorting addresses: partitionEqual and partition.
 Conditions: those stated. -/
import Derived.Test.YtlmkmbpikhagiaaSoA
import Derived.Sort.WalkC4
import Derived.Deep.CutRange
import Derived.Deep.CutBlock
namespace Go.Proofs.Ytlmkmbpikhagiaa
open Go Go.RowKit Go.Sort
set_option linter.unusedVariables false
set_option linter.unusedSimpArgs false

set_option maxRecDepth 100000 in
set_option maxHeartbeats 4000000 in
theorem pareq_a (blk off cap : Nat) (pre rest : List Value) (n : Nat) (a b pivot : Nat) (d : Array Int) (w : World) (hS : Sr blk off pre rest n w d w) (hap : a ≤ pivot) (hpb : pivot < b) (hb : b ≤ n) (hsz : n < 4611686018427387904) :
    Calls Try.prog 72 #[.slice (some ⟨blk, off, none⟩) n cap, .int .i64 a, .int .i64 b, .int .i64 pivot] w fun e w' => e = .returned (.int .i64 (partitionEqual ltInt d a b pivot).1) ∧ Sr blk off pre rest n w (partitionEqual ltInt d a b pivot).2 w' := by
  have H0 := Lib.hid hS
  clear hS
  go_enter Try.func72, Try.ntmps72
  go_upto_region 1 with fail
  go_cut [] from 11 to 25 (fun wc => Hid (Sr blk off pre rest n w (swp d a pivot) wc))
  case first =>
    obtain ⟨G, hG⟩ : ∃ G : Nat → Int, ∀ t, G t = d[t]! := ⟨fun t => d[t]!, fun _ => rfl⟩
    have hcw : ∀ t, t < n → w.cell? ⟨blk, off + t, none⟩ = some (.int .u32 (G t)) := fun t ht => by rw [hG]; exact H0.out.cell t ht
    have hfw := H0.out.free
    have HG : Hid (∀ t, G t = d[t]!) := Lib.hid hG
    clear hG
    by_cases hq : a = pivot
    all_goals
      go_region
      all_goals go_wp2
      go_meet
      case rel => exact Lib.hid (H0.out.swap (a) (pivot) (by omega) (by omega) _ _ (HG.out _) (HG.out _) (by first | rfl | (simp only [hq]; done) | (simp only [hq]; rfl) | (simp only [← hq]; rfl)) rfl rfl rfl)
  case rest =>
    have H1 := hcut
    clear hcut H0
    go_wp2
    go_loopw [9, 10] (fun vi vj wr => ∃ (i j : Nat) (dk : Array Int), vi = .int .i64 i ∧ vj = .int .i64 j ∧ a < i ∧ i ≤ j + 1 ∧ j < b ∧ Hid (Sr blk off pre rest n w dk wr) ∧ Hid (partEqLoop ltInt a i j dk = partEqLoop ltInt a (a + 1) (b - 1) (swp d a pivot))) (fun vi vj _ => (intOf vj).toNat + 1 - (intOf vi).toNat)
    case atStart => exact ⟨a + 1, b - 1, _, by go_num, by go_num, by omega, by omega, by omega, H1, Lib.hid rfl⟩
    case round =>
      obtain ⟨i, j, dk, rfl, rfl, hai, hij, hjb, HS, HE⟩ := hrel
      obtain ⟨w2, rfl⟩ : ∃ v, v = wr := ⟨_, rfl⟩
      clear H1
      go_upto_block 2 with fail
      go_cut [9] from 29 to 45 (fun sv wc => ∃ i2 : Nat, sv = .int .i64 i2 ∧ i ≤ i2 ∧ i2 ≤ j + 1 ∧ Hid (i2 = scanUp (fun x => !ltInt dk[a]! x) dk j i) ∧ Hid (Sr blk off pre rest n w dk wc))
      case first =>
        go_wp2
        go_loopw [9] (fun sv wr => ∃ i' : Nat, sv = .int .i64 i' ∧ i ≤ i' ∧ i' ≤ j + 1 ∧ Hid (scanUp (fun x => !ltInt dk[a]! x) dk j i' = scanUp (fun x => !ltInt dk[a]! x) dk j i) ∧ Hid (Sr blk off pre rest n w dk wr)) (fun sv _ => j + 1 - (intOf sv).toNat)
        case atStart => exact ⟨i, rfl, Nat.le_refl _, by omega, Lib.hid rfl, HS⟩
        case round =>
          obtain ⟨i', rfl, hb1, hb2, hsc, HL0⟩ := hrel
          obtain ⟨w5, rfl⟩ : ∃ v, v = wr := ⟨_, rfl⟩
          obtain ⟨G, hG⟩ : ∃ G : Nat → Int, ∀ t, G t = dk[t]! := ⟨fun t => dk[t]!, fun _ => rfl⟩
          have hcw : ∀ t, t < n → w5.cell? ⟨blk, off + t, none⟩ = some (.int .u32 (G t)) := fun t ht => by rw [hG]; exact HL0.out.cell t ht
          have hfw := HL0.out.free
          have HG : Hid (∀ t, G t = dk[t]!) := Lib.hid hG
          clear hG
          by_cases hle : i' ≤ j
          · have hlez : (i' : Int) ≤ (j : Int) := by omega
            have hled : decide ((i' : Int) ≤ (j : Int)) = true := decide_eq_true hlez
            cases hlv : ltInt (G (a)) (G (i')) with
            | true =>
              have HL := Lib.hid (show ltInt dk[a]! dk[i']! = true by rw [← HG.out, ← HG.out]; exact hlv)
              go_wp2
              go_quiet ((go_at_call 71; refine Calls.quiet_of_same (less_a _ _ _)))
              go_wp2
              go_meet
              case rel => exact ⟨i', rfl, hb1, hb2, Lib.hid ((scanUp_end (fun x => !ltInt dk[a]! x) dk j i' (Or.inr (by simp [HL.out]))).symm.trans hsc.out), Lib.hid (HL0.out.drewN _)⟩
            | false =>
              have HL := Lib.hid (show ltInt dk[a]! dk[i']! = false by rw [← HG.out, ← HG.out]; exact hlv)
              go_wp2
              go_quiet ((go_at_call 71; refine Calls.quiet_of_same (less_a _ _ _)))
              go_wp2
              go_roundw
              case rel => exact ⟨i' + 1, by go_num, by omega, by omega, Lib.hid ((scanUp_go (fun x => !ltInt dk[a]! x) dk j i' hle (by simp [HL.out])).symm.trans hsc.out), Lib.hid (HL0.out.drewN _)⟩
              case measure => simp [intOf]; omega
          · have hlez : ¬ ((i' : Int) ≤ (j : Int)) := by omega
            have hled : decide ((i' : Int) ≤ (j : Int)) = false := decide_eq_false hlez
            go_wp2
            go_quiet (fail)
            go_wp2
            go_meet
            case rel => exact ⟨i', rfl, hb1, hb2, Lib.hid ((scanUp_end (fun x => !ltInt dk[a]! x) dk j i' (Or.inl hle)).symm.trans hsc.out), Lib.hid (HL0.out.drewN _)⟩
      case rest =>
        obtain ⟨i2, rfl, hi1, hi2, hsi, HS2⟩ := hcut
        clear HS
        go_upto_block 4 with fail
        go_cut [10] from 46 to 61 (fun sv wc => ∃ j2 : Nat, sv = .int .i64 j2 ∧ j2 ≤ j ∧ i2 ≤ j2 + 1 ∧ Hid (j2 = scanDown (fun x => ltInt dk[a]! x) dk i2 j) ∧ Hid (Sr blk off pre rest n w dk wc))
        case first =>
          go_wp2
          go_loopw [10] (fun sv wr => ∃ j' : Nat, sv = .int .i64 j' ∧ j' ≤ j ∧ i2 ≤ j' + 1 ∧ Hid (scanDown (fun x => ltInt dk[a]! x) dk i2 j' = scanDown (fun x => ltInt dk[a]! x) dk i2 j) ∧ Hid (Sr blk off pre rest n w dk wr)) (fun sv _ => (intOf sv).toNat)
          case atStart => exact ⟨j, rfl, Nat.le_refl _, by omega, Lib.hid rfl, HS2⟩
          case round =>
            obtain ⟨j', rfl, hb1, hb2, hsc, HL0⟩ := hrel
            obtain ⟨w5, rfl⟩ : ∃ v, v = wr := ⟨_, rfl⟩
            obtain ⟨G, hG⟩ : ∃ G : Nat → Int, ∀ t, G t = dk[t]! := ⟨fun t => dk[t]!, fun _ => rfl⟩
            have hcw : ∀ t, t < n → w5.cell? ⟨blk, off + t, none⟩ = some (.int .u32 (G t)) := fun t ht => by rw [hG]; exact HL0.out.cell t ht
            have hfw := HL0.out.free
            have HG : Hid (∀ t, G t = dk[t]!) := Lib.hid hG
            clear hG
            by_cases hle : i2 ≤ j'
            · have hlez : (i2 : Int) ≤ (j' : Int) := by omega
              have hled : decide ((i2 : Int) ≤ (j' : Int)) = true := decide_eq_true hlez
              cases hlv : ltInt (G (a)) (G (j')) with
              | true =>
                have HL := Lib.hid (show ltInt dk[a]! dk[j']! = true by rw [← HG.out, ← HG.out]; exact hlv)
                go_wp2
                go_quiet ((go_at_call 71; refine Calls.quiet_of_same (less_a _ _ _)))
                go_wp2
                go_roundw
                case rel => exact ⟨j' - 1, by go_num, by omega, by omega, Lib.hid ((scanDown_go (fun x => ltInt dk[a]! x) dk i2 j' hle (by omega) (by simp [HL.out])).symm.trans hsc.out), Lib.hid (HL0.out.drewN _)⟩
                case measure => simp [intOf]; omega
              | false =>
                have HL := Lib.hid (show ltInt dk[a]! dk[j']! = false by rw [← HG.out, ← HG.out]; exact hlv)
                go_wp2
                go_quiet ((go_at_call 71; refine Calls.quiet_of_same (less_a _ _ _)))
                go_wp2
                go_meet
                case rel => exact ⟨j', rfl, hb1, hb2, Lib.hid ((scanDown_end (fun x => ltInt dk[a]! x) dk i2 j' (Or.inr (by simp [HL.out]))).symm.trans hsc.out), Lib.hid (HL0.out.drewN _)⟩
            · have hlez : ¬ ((i2 : Int) ≤ (j' : Int)) := by omega
              have hled : decide ((i2 : Int) ≤ (j' : Int)) = false := decide_eq_false hlez
              go_wp2
              go_quiet (fail)
              go_wp2
              go_meet
              case rel => exact ⟨j', rfl, hb1, hb2, Lib.hid ((scanDown_end (fun x => ltInt dk[a]! x) dk i2 j' (Or.inl hle)).symm.trans hsc.out), Lib.hid (HL0.out.drewN _)⟩
        case rest =>
          obtain ⟨j2, rfl, hj1, hj2, hsj, HS3⟩ := hcut
          clear HS2
          by_cases hle : i2 ≤ j2
          · have hlez : ¬ (j2 : Int) < (i2 : Int) := by omega
            have hlt3 := scans_lt ltInt a i j dk (by omega) hsi.out hsj.out hle
            obtain ⟨G, hG⟩ : ∃ G : Nat → Int, ∀ t, G t = dk[t]! := ⟨fun t => dk[t]!, fun _ => rfl⟩
            have hcw : ∀ t, t < n → wc.cell? ⟨blk, off + t, none⟩ = some (.int .u32 (G t)) := fun t ht => by rw [hG]; exact HS3.out.cell t ht
            have hfw := HS3.out.free
            have HG : Hid (∀ t, G t = dk[t]!) := Lib.hid hG
            clear hG
            go_wp2
            go_region
            all_goals go_wp2
            go_roundw
            case rel => exact ⟨i2 + 1, j2 - 1, swp dk i2 j2, by go_num, by go_num, by omega, by omega, by omega, Lib.hid (HS3.out.swap i2 j2 (by omega) (by omega) _ _ (HG.out _) (HG.out _) rfl rfl rfl rfl), Lib.hid (by rw [← HE.out, partEq_go ltInt a i j dk hsi.out hsj.out (by omega)])⟩
            case measure => simp [intOf]; omega
          · have hlez : (j2 : Int) < (i2 : Int) := by omega
            have e := partEq_break ltInt a i j dk hsi.out hsj.out (by omega)
            have HP := Lib.hid (show partitionEqual ltInt d a b pivot = (i2, dk) by unfold partitionEqual; rw [← HE.out, e])
            clear e
            go_wp2
            go_ret
            rw [HP.out]
            exact ⟨rfl, HS3.out⟩
set_option maxRecDepth 100000 in
set_option maxHeartbeats 4000000 in
theorem part_a (blk off cap : Nat) (pre rest : List Value) (n : Nat) (a b pivot : Nat) (d : Array Int) (w : World) (hS : Sr blk off pre rest n w d w) (hap : a ≤ pivot) (hpb : pivot < b) (hb : b ≤ n) (hsz : n < 4611686018427387904) :
    Calls Try.prog 73 #[.slice (some ⟨blk, off, none⟩) n cap, .int .i64 a, .int .i64 b, .int .i64 pivot] w fun e w' => e = .returned (.tuple #[.int .i64 (partition ltInt d a b pivot).1, .bool (partition ltInt d a b pivot).2.1]) ∧ Sr blk off pre rest n w (partition ltInt d a b pivot).2.2 w' := by
  have H0 := Lib.hid hS
  clear hS
  obtain ⟨i, hi⟩ : ∃ i : Nat, i = a + 1 := ⟨_, rfl⟩
  obtain ⟨j, hj⟩ : ∃ j : Nat, j = b - 1 := ⟨_, rfl⟩
  obtain ⟨dk, hdk⟩ : ∃ dk : Array Int, dk = swp d a pivot := ⟨_, rfl⟩
  have hai : a < i := by omega
  have hij : i ≤ j + 1 := by omega
  have hjb : j < b := by omega
  have EI := Lib.hid (show ((a : Int) + 1) = (i : Int) by omega)
  have EJ := Lib.hid (show ((b : Int) - 1) = (j : Int) by omega)
  have Hi := Lib.hid hi
  have Hj := Lib.hid hj
  have Hdk := Lib.hid hdk
  clear hi hj hdk
  go_enter Try.func73, Try.ntmps73
  go_upto_region 1 with fail
  go_cut [] from 12 to 26 (fun wc => Hid (Sr blk off pre rest n w (swp d a pivot) wc))
  case first =>
    obtain ⟨G, hG⟩ : ∃ G : Nat → Int, ∀ t, G t = d[t]! := ⟨fun t => d[t]!, fun _ => rfl⟩
    have hcw : ∀ t, t < n → w.cell? ⟨blk, off + t, none⟩ = some (.int .u32 (G t)) := fun t ht => by rw [hG]; exact H0.out.cell t ht
    have hfw := H0.out.free
    have HG : Hid (∀ t, G t = d[t]!) := Lib.hid hG
    clear hG
    by_cases hq : a = pivot
    all_goals
      go_region
      all_goals go_wp2
      go_meet
      case rel => exact Lib.hid (H0.out.swap (a) (pivot) (by omega) (by omega) _ _ (HG.out _) (HG.out _) (by first | rfl | (simp only [hq]; done) | (simp only [hq]; rfl) | (simp only [← hq]; rfl)) rfl rfl rfl)
  case rest =>
    have H1 := hcut
    rw [← Hdk.out] at H1
    clear hcut H0
    go_upto_block 0 with fail
    rw [EI.out, EJ.out]
    go_cut [10] from 30 to 45 (fun sv wc => ∃ i2 : Nat, sv = .int .i64 i2 ∧ i ≤ i2 ∧ i2 ≤ j + 1 ∧ Hid (i2 = scanUp (fun x => ltInt x dk[a]!) dk j i) ∧ Hid (Sr blk off pre rest n w dk wc))
    case first =>
      go_wp2
      go_loopw [10] (fun sv wr => ∃ i' : Nat, sv = .int .i64 i' ∧ i ≤ i' ∧ i' ≤ j + 1 ∧ Hid (scanUp (fun x => ltInt x dk[a]!) dk j i' = scanUp (fun x => ltInt x dk[a]!) dk j i) ∧ Hid (Sr blk off pre rest n w dk wr)) (fun sv _ => j + 1 - (intOf sv).toNat)
      case atStart => exact ⟨i, rfl, Nat.le_refl _, by omega, Lib.hid rfl, H1⟩
      case round =>
        obtain ⟨i', rfl, hb1, hb2, hsc, HL0⟩ := hrel
        obtain ⟨w5, rfl⟩ : ∃ v, v = wr := ⟨_, rfl⟩
        obtain ⟨G, hG⟩ : ∃ G : Nat → Int, ∀ t, G t = dk[t]! := ⟨fun t => dk[t]!, fun _ => rfl⟩
        have hcw : ∀ t, t < n → w5.cell? ⟨blk, off + t, none⟩ = some (.int .u32 (G t)) := fun t ht => by rw [hG]; exact HL0.out.cell t ht
        have hfw := HL0.out.free
        have HG : Hid (∀ t, G t = dk[t]!) := Lib.hid hG
        clear hG
        by_cases hle : i' ≤ j
        · have hlez : (i' : Int) ≤ (j : Int) := by omega
          have hled : decide ((i' : Int) ≤ (j : Int)) = true := decide_eq_true hlez
          cases hlv : ltInt (G (i')) (G (a)) with
          | true =>
            have HL := Lib.hid (show ltInt dk[i']! dk[a]! = true by rw [← HG.out, ← HG.out]; exact hlv)
            go_wp2
            go_quiet ((go_at_call 71; refine Calls.quiet_of_same (less_a _ _ _)))
            go_wp2
            go_roundw
            case rel => exact ⟨i' + 1, by go_num, by omega, by omega, Lib.hid ((scanUp_go (fun x => ltInt x dk[a]!) dk j i' hle (by simp [HL.out])).symm.trans hsc.out), Lib.hid (HL0.out.drewN _)⟩
            case measure => simp [intOf]; omega
          | false =>
            have HL := Lib.hid (show ltInt dk[i']! dk[a]! = false by rw [← HG.out, ← HG.out]; exact hlv)
            go_wp2
            go_quiet ((go_at_call 71; refine Calls.quiet_of_same (less_a _ _ _)))
            go_wp2
            go_meet
            case rel => exact ⟨i', rfl, hb1, hb2, Lib.hid ((scanUp_end (fun x => ltInt x dk[a]!) dk j i' (Or.inr (by simp [HL.out]))).symm.trans hsc.out), Lib.hid (HL0.out.drewN _)⟩
        · have hlez : ¬ ((i' : Int) ≤ (j : Int)) := by omega
          have hled : decide ((i' : Int) ≤ (j : Int)) = false := decide_eq_false hlez
          go_wp2
          go_quiet (fail)
          go_wp2
          go_meet
          case rel => exact ⟨i', rfl, hb1, hb2, Lib.hid ((scanUp_end (fun x => ltInt x dk[a]!) dk j i' (Or.inl hle)).symm.trans hsc.out), Lib.hid (HL0.out.drewN _)⟩
    case rest =>
      obtain ⟨i2, rfl, hi1, hi2, hsi, HS2⟩ := hcut
      clear H1
      go_upto_block 2 with fail
      go_cut [11] from 46 to 62 (fun sv wc => ∃ j2 : Nat, sv = .int .i64 j2 ∧ j2 ≤ j ∧ i2 ≤ j2 + 1 ∧ Hid (j2 = scanDown (fun x => !ltInt x dk[a]!) dk i2 j) ∧ Hid (Sr blk off pre rest n w dk wc))
      case first =>
        go_wp2
        go_loopw [11] (fun sv wr => ∃ j' : Nat, sv = .int .i64 j' ∧ j' ≤ j ∧ i2 ≤ j' + 1 ∧ Hid (scanDown (fun x => !ltInt x dk[a]!) dk i2 j' = scanDown (fun x => !ltInt x dk[a]!) dk i2 j) ∧ Hid (Sr blk off pre rest n w dk wr)) (fun sv _ => (intOf sv).toNat)
        case atStart => exact ⟨j, rfl, Nat.le_refl _, by omega, Lib.hid rfl, HS2⟩
        case round =>
          obtain ⟨j', rfl, hb1, hb2, hsc, HL0⟩ := hrel
          obtain ⟨w5, rfl⟩ : ∃ v, v = wr := ⟨_, rfl⟩
          obtain ⟨G, hG⟩ : ∃ G : Nat → Int, ∀ t, G t = dk[t]! := ⟨fun t => dk[t]!, fun _ => rfl⟩
          have hcw : ∀ t, t < n → w5.cell? ⟨blk, off + t, none⟩ = some (.int .u32 (G t)) := fun t ht => by rw [hG]; exact HL0.out.cell t ht
          have hfw := HL0.out.free
          have HG : Hid (∀ t, G t = dk[t]!) := Lib.hid hG
          clear hG
          by_cases hle : i2 ≤ j'
          · have hlez : (i2 : Int) ≤ (j' : Int) := by omega
            have hled : decide ((i2 : Int) ≤ (j' : Int)) = true := decide_eq_true hlez
            cases hlv : ltInt (G (j')) (G (a)) with
            | true =>
              have HL := Lib.hid (show ltInt dk[j']! dk[a]! = true by rw [← HG.out, ← HG.out]; exact hlv)
              go_wp2
              go_quiet ((go_at_call 71; refine Calls.quiet_of_same (less_a _ _ _)))
              go_wp2
              go_meet
              case rel => exact ⟨j', rfl, hb1, hb2, Lib.hid ((scanDown_end (fun x => !ltInt x dk[a]!) dk i2 j' (Or.inr (by simp [HL.out]))).symm.trans hsc.out), Lib.hid (HL0.out.drewN _)⟩
            | false =>
              have HL := Lib.hid (show ltInt dk[j']! dk[a]! = false by rw [← HG.out, ← HG.out]; exact hlv)
              go_wp2
              go_quiet ((go_at_call 71; refine Calls.quiet_of_same (less_a _ _ _)))
              go_wp2
              go_roundw
              case rel => exact ⟨j' - 1, by go_num, by omega, by omega, Lib.hid ((scanDown_go (fun x => !ltInt x dk[a]!) dk i2 j' hle (by omega) (by simp [HL.out])).symm.trans hsc.out), Lib.hid (HL0.out.drewN _)⟩
              case measure => simp [intOf]; omega
          · have hlez : ¬ ((i2 : Int) ≤ (j' : Int)) := by omega
            have hled : decide ((i2 : Int) ≤ (j' : Int)) = false := decide_eq_false hlez
            go_wp2
            go_quiet (fail)
            go_wp2
            go_meet
            case rel => exact ⟨j', rfl, hb1, hb2, Lib.hid ((scanDown_end (fun x => !ltInt x dk[a]!) dk i2 j' (Or.inl hle)).symm.trans hsc.out), Lib.hid (HL0.out.drewN _)⟩
      case rest =>
        obtain ⟨j2, rfl, hj1, hj2, hsj, HS3⟩ := hcut
        clear HS2
        by_cases hle : i2 ≤ j2
        · have hlez : ¬ (j2 : Int) < (i2 : Int) := by omega
          have hlt3 := part_scans_lt ltInt a i j dk (by omega) hsi.out hsj.out hle
          obtain ⟨D0, hD0⟩ : ∃ D0 : Array Int, D0 = swp dk i2 j2 := ⟨_, rfl⟩
          have HD0 := Lib.hid hD0
          have PF := Lib.hid (show partition ltInt d a b pivot = ((partLoop ltInt a (i2 + 1) (j2 - 1) D0).1, false, swp (partLoop ltInt a (i2 + 1) (j2 - 1) D0).2 (partLoop ltInt a (i2 + 1) (j2 - 1) D0).1 a) by rw [hD0]; exact part_first_go ltInt d a b pivot Hi.out Hj.out Hdk.out hsi.out hsj.out (by omega))
          clear hD0
          obtain ⟨G, hG⟩ : ∃ G : Nat → Int, ∀ t, G t = dk[t]! := ⟨fun t => dk[t]!, fun _ => rfl⟩
          have hcw : ∀ t, t < n → wc.cell? ⟨blk, off + t, none⟩ = some (.int .u32 (G t)) := fun t ht => by rw [hG]; exact HS3.out.cell t ht
          have hfw := HS3.out.free
          have HG : Hid (∀ t, G t = dk[t]!) := Lib.hid hG
          clear hG
          go_wp2
          go_region
          obtain ⟨w7, hw7⟩ : ∃ v, v = ((wc.setCell ⟨blk, off + i2, none⟩ (.int .u32 (G j2))).setCell ⟨blk, off + j2, none⟩ (.int .u32 (G i2))).drew := ⟨_, rfl⟩
          have H7 : Hid (Sr blk off pre rest n w D0 w7) := Lib.hid (by rw [hw7, HD0.out]; exact HS3.out.swap i2 j2 (by omega) (by omega) _ _ (HG.out _) (HG.out _) rfl rfl rfl rfl)
          rw [← hw7]
          clear hw7 hcw hfw HG HS3
          go_wp2
          go_loopw [10, 11] (fun vi vj wr => ∃ (i j : Nat) (dk : Array Int), vi = .int .i64 i ∧ vj = .int .i64 j ∧ a < i ∧ i ≤ j + 1 ∧ j < b ∧ Hid (Sr blk off pre rest n w dk wr) ∧ Hid (partLoop ltInt a i j dk = partLoop ltInt a (i2 + 1) (j2 - 1) D0)) (fun vi vj _ => (intOf vj).toNat + 1 - (intOf vi).toNat)
          case atStart => exact ⟨i2 + 1, j2 - 1, _, by go_num, by go_num, by omega, by omega, by omega, H7, Lib.hid rfl⟩
          case round =>
            obtain ⟨i3, j3, d3, rfl, rfl, hai3, hij3, hjb3, HS, HE⟩ := hrel
            obtain ⟨w2, rfl⟩ : ∃ v, v = wr := ⟨_, rfl⟩
            clear H7 hsi hsj hlt3 hi1 hi2 hj1 hj2 hle hlez
            go_upto_block 6 with fail
            go_cut [10] from 99 to 114 (fun sv wc => ∃ i4 : Nat, sv = .int .i64 i4 ∧ i3 ≤ i4 ∧ i4 ≤ j3 + 1 ∧ Hid (i4 = scanUp (fun x => ltInt x d3[a]!) d3 j3 i3) ∧ Hid (Sr blk off pre rest n w d3 wc))
            case first =>
              go_wp2
              go_loopw [10] (fun sv wr => ∃ i' : Nat, sv = .int .i64 i' ∧ i3 ≤ i' ∧ i' ≤ j3 + 1 ∧ Hid (scanUp (fun x => ltInt x d3[a]!) d3 j3 i' = scanUp (fun x => ltInt x d3[a]!) d3 j3 i3) ∧ Hid (Sr blk off pre rest n w d3 wr)) (fun sv _ => j3 + 1 - (intOf sv).toNat)
              case atStart => exact ⟨i3, rfl, Nat.le_refl _, by omega, Lib.hid rfl, HS⟩
              case round =>
                obtain ⟨i', rfl, hb1, hb2, hsc, HL0⟩ := hrel
                obtain ⟨w5, rfl⟩ : ∃ v, v = wr := ⟨_, rfl⟩
                obtain ⟨G, hG⟩ : ∃ G : Nat → Int, ∀ t, G t = d3[t]! := ⟨fun t => d3[t]!, fun _ => rfl⟩
                have hcw : ∀ t, t < n → w5.cell? ⟨blk, off + t, none⟩ = some (.int .u32 (G t)) := fun t ht => by rw [hG]; exact HL0.out.cell t ht
                have hfw := HL0.out.free
                have HG : Hid (∀ t, G t = d3[t]!) := Lib.hid hG
                clear hG
                by_cases hle : i' ≤ j3
                · have hlez : (i' : Int) ≤ (j3 : Int) := by omega
                  have hled : decide ((i' : Int) ≤ (j3 : Int)) = true := decide_eq_true hlez
                  cases hlv : ltInt (G (i')) (G (a)) with
                  | true =>
                    have HL := Lib.hid (show ltInt d3[i']! d3[a]! = true by rw [← HG.out, ← HG.out]; exact hlv)
                    go_wp2
                    go_quiet ((go_at_call 71; refine Calls.quiet_of_same (less_a _ _ _)))
                    go_wp2
                    go_roundw
                    case rel => exact ⟨i' + 1, by go_num, by omega, by omega, Lib.hid ((scanUp_go (fun x => ltInt x d3[a]!) d3 j3 i' hle (by simp [HL.out])).symm.trans hsc.out), Lib.hid (HL0.out.drewN _)⟩
                    case measure => simp [intOf]; omega
                  | false =>
                    have HL := Lib.hid (show ltInt d3[i']! d3[a]! = false by rw [← HG.out, ← HG.out]; exact hlv)
                    go_wp2
                    go_quiet ((go_at_call 71; refine Calls.quiet_of_same (less_a _ _ _)))
                    go_wp2
                    go_meet
                    case rel => exact ⟨i', rfl, hb1, hb2, Lib.hid ((scanUp_end (fun x => ltInt x d3[a]!) d3 j3 i' (Or.inr (by simp [HL.out]))).symm.trans hsc.out), Lib.hid (HL0.out.drewN _)⟩
                · have hlez : ¬ ((i' : Int) ≤ (j3 : Int)) := by omega
                  have hled : decide ((i' : Int) ≤ (j3 : Int)) = false := decide_eq_false hlez
                  go_wp2
                  go_quiet (fail)
                  go_wp2
                  go_meet
                  case rel => exact ⟨i', rfl, hb1, hb2, Lib.hid ((scanUp_end (fun x => ltInt x d3[a]!) d3 j3 i' (Or.inl hle)).symm.trans hsc.out), Lib.hid (HL0.out.drewN _)⟩
            case rest =>
              obtain ⟨i4, rfl, hi1, hi2, hsi, HS2⟩ := hcut
              clear HS
              go_upto_block 8 with fail
              go_cut [11] from 115 to 131 (fun sv wc => ∃ j4 : Nat, sv = .int .i64 j4 ∧ j4 ≤ j3 ∧ i4 ≤ j4 + 1 ∧ Hid (j4 = scanDown (fun x => !ltInt x d3[a]!) d3 i4 j3) ∧ Hid (Sr blk off pre rest n w d3 wc))
              case first =>
                go_wp2
                go_loopw [11] (fun sv wr => ∃ j' : Nat, sv = .int .i64 j' ∧ j' ≤ j3 ∧ i4 ≤ j' + 1 ∧ Hid (scanDown (fun x => !ltInt x d3[a]!) d3 i4 j' = scanDown (fun x => !ltInt x d3[a]!) d3 i4 j3) ∧ Hid (Sr blk off pre rest n w d3 wr)) (fun sv _ => (intOf sv).toNat)
                case atStart => exact ⟨j3, rfl, Nat.le_refl _, by omega, Lib.hid rfl, HS2⟩
                case round =>
                  obtain ⟨j', rfl, hb1, hb2, hsc, HL0⟩ := hrel
                  obtain ⟨w5, rfl⟩ : ∃ v, v = wr := ⟨_, rfl⟩
                  obtain ⟨G, hG⟩ : ∃ G : Nat → Int, ∀ t, G t = d3[t]! := ⟨fun t => d3[t]!, fun _ => rfl⟩
                  have hcw : ∀ t, t < n → w5.cell? ⟨blk, off + t, none⟩ = some (.int .u32 (G t)) := fun t ht => by rw [hG]; exact HL0.out.cell t ht
                  have hfw := HL0.out.free
                  have HG : Hid (∀ t, G t = d3[t]!) := Lib.hid hG
                  clear hG
                  by_cases hle : i4 ≤ j'
                  · have hlez : (i4 : Int) ≤ (j' : Int) := by omega
                    have hled : decide ((i4 : Int) ≤ (j' : Int)) = true := decide_eq_true hlez
                    cases hlv : ltInt (G (j')) (G (a)) with
                    | true =>
                      have HL := Lib.hid (show ltInt d3[j']! d3[a]! = true by rw [← HG.out, ← HG.out]; exact hlv)
                      go_wp2
                      go_quiet ((go_at_call 71; refine Calls.quiet_of_same (less_a _ _ _)))
                      go_wp2
                      go_meet
                      case rel => exact ⟨j', rfl, hb1, hb2, Lib.hid ((scanDown_end (fun x => !ltInt x d3[a]!) d3 i4 j' (Or.inr (by simp [HL.out]))).symm.trans hsc.out), Lib.hid (HL0.out.drewN _)⟩
                    | false =>
                      have HL := Lib.hid (show ltInt d3[j']! d3[a]! = false by rw [← HG.out, ← HG.out]; exact hlv)
                      go_wp2
                      go_quiet ((go_at_call 71; refine Calls.quiet_of_same (less_a _ _ _)))
                      go_wp2
                      go_roundw
                      case rel => exact ⟨j' - 1, by go_num, by omega, by omega, Lib.hid ((scanDown_go (fun x => !ltInt x d3[a]!) d3 i4 j' hle (by omega) (by simp [HL.out])).symm.trans hsc.out), Lib.hid (HL0.out.drewN _)⟩
                      case measure => simp [intOf]; omega
                  · have hlez : ¬ ((i4 : Int) ≤ (j' : Int)) := by omega
                    have hled : decide ((i4 : Int) ≤ (j' : Int)) = false := decide_eq_false hlez
                    go_wp2
                    go_quiet (fail)
                    go_wp2
                    go_meet
                    case rel => exact ⟨j', rfl, hb1, hb2, Lib.hid ((scanDown_end (fun x => !ltInt x d3[a]!) d3 i4 j' (Or.inl hle)).symm.trans hsc.out), Lib.hid (HL0.out.drewN _)⟩
              case rest =>
                obtain ⟨j4, rfl, hj1, hj2, hsj, HS3⟩ := hcut
                clear HS2
                by_cases hle : i4 ≤ j4
                · have hlez : ¬ (j4 : Int) < (i4 : Int) := by omega
                  have hlt3 := part_scans_lt ltInt a i3 j3 d3 (by omega) hsi.out hsj.out hle
                  obtain ⟨G, hG⟩ : ∃ G : Nat → Int, ∀ t, G t = d3[t]! := ⟨fun t => d3[t]!, fun _ => rfl⟩
                  have hcw : ∀ t, t < n → wc.cell? ⟨blk, off + t, none⟩ = some (.int .u32 (G t)) := fun t ht => by rw [hG]; exact HS3.out.cell t ht
                  have hfw := HS3.out.free
                  have HG : Hid (∀ t, G t = d3[t]!) := Lib.hid hG
                  clear hG
                  go_wp2
                  go_region
                  all_goals go_wp2
                  go_roundw
                  case rel => exact ⟨i4 + 1, j4 - 1, swp d3 i4 j4, by go_num, by go_num, by omega, by omega, by omega, Lib.hid (HS3.out.swap i4 j4 (by omega) (by omega) _ _ (HG.out _) (HG.out _) rfl rfl rfl rfl), Lib.hid (by rw [← HE.out, part_go ltInt a i3 j3 d3 hsi.out hsj.out (by omega)])⟩
                  case measure => simp [intOf]; omega
                · have hlez : (j4 : Int) < (i4 : Int) := by omega
                  have e := part_break ltInt a i3 j3 d3 hsi.out hsj.out (by omega)
                  have HP := Lib.hid (show partition ltInt d a b pivot = (j4, false, swp d3 j4 a) by rw [PF.out, ← HE.out, e])
                  clear e
                  obtain ⟨G, hG⟩ : ∃ G : Nat → Int, ∀ t, G t = d3[t]! := ⟨fun t => d3[t]!, fun _ => rfl⟩
                  have hcw : ∀ t, t < n → wc.cell? ⟨blk, off + t, none⟩ = some (.int .u32 (G t)) := fun t ht => by rw [hG]; exact HS3.out.cell t ht
                  have hfw := HS3.out.free
                  have HG : Hid (∀ t, G t = d3[t]!) := Lib.hid hG
                  clear hG
                  by_cases hq : j4 = a
                  all_goals
                    go_upto_region 21 with fail
                    go_region
                    go_wp2
                    go_ret2
                    rw [HP.out]
                    exact ⟨rfl, HS3.out.swap j4 a (by omega) (by omega) _ _ (HG.out _) (HG.out _) (by first | rfl | (simp only [hq]; done) | (simp only [hq]; rfl) | (simp only [← hq]; rfl)) rfl rfl rfl⟩
        · have hlez : (j2 : Int) < (i2 : Int) := by omega
          have HP := Lib.hid (part_first_break ltInt d a b pivot Hi.out Hj.out Hdk.out hsi.out hsj.out (by omega))
          obtain ⟨G, hG⟩ : ∃ G : Nat → Int, ∀ t, G t = dk[t]! := ⟨fun t => dk[t]!, fun _ => rfl⟩
          have hcw : ∀ t, t < n → wc.cell? ⟨blk, off + t, none⟩ = some (.int .u32 (G t)) := fun t ht => by rw [hG]; exact HS3.out.cell t ht
          have hfw := HS3.out.free
          have HG : Hid (∀ t, G t = dk[t]!) := Lib.hid hG
          clear hG
          by_cases hq : j2 = a
          all_goals
            go_upto_region 8 with fail
            go_region
            go_wp2
            go_ret2
            rw [HP.out]
            exact ⟨rfl, HS3.out.swap j2 a (by omega) (by omega) _ _ (HG.out _) (HG.out _) (by first | rfl | (simp only [hq]; done) | (simp only [hq]; rfl) | (simp only [← hq]; rfl)) rfl rfl rfl⟩
end Go.Proofs.Ytlmkmbpikhagiaa
