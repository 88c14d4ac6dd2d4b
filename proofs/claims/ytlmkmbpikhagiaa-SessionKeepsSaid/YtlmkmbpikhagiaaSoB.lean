/- Sorting addresses: sift down and heap sort.
 Conditions: those stated. -/
import Derived.Test.YtlmkmbpikhagiaaSoA
import Derived.Sort.WalkB3
import Derived.Deep.LoopGhost
import Derived.Deep.CutRange
import Derived.Deep.CutBlock
namespace Go.Proofs.Ytlmkmbpikhagiaa
open Go Go.RowKit Go.Sort
set_option linter.unusedVariables false
set_option linter.unusedSimpArgs false

set_option maxRecDepth 100000 in
set_option maxHeartbeats 4000000 in
theorem sift_a (blk off cap : Nat) (pre rest : List Value) (n : Nat) (lo hi first : Nat) (d : Array Int) (w : World) (hS : Sr blk off pre rest n w d w) (hlo : lo ≤ hi) (hb : first + hi ≤ n) (hsz : n < 4611686018427387904) :
    Calls Try.prog 85 #[.slice (some ⟨blk, off, none⟩) n cap, .int .i64 lo, .int .i64 hi, .int .i64 first] w fun e w' => e = .returned (.tuple #[]) ∧ Sr blk off pre rest n w (siftDown ltInt hi first lo d) w' := by
  have H0 := Lib.hid hS
  clear hS
  go_enter Try.func85, Try.ntmps85
  go_wp2
  go_loopg [8] (hi - lo) (fun kx s8 wr => ∃ (root : Nat) (dk : Array Int), s8 = .int .i64 root ∧ root ≤ hi ∧ hi - root ≤ kx ∧ Hid (Sr blk off pre rest n w dk wr) ∧ Hid (siftDown ltInt hi first root dk = siftDown ltInt hi first lo d))
  case atStart => exact ⟨lo, d, rfl, hlo, Nat.le_refl _, H0, Lib.hid rfl⟩
  case round =>
    obtain ⟨root, dk, rfl, hr, hkx, HW, HE⟩ := hrel
    obtain ⟨w2, rfl⟩ : ∃ v, v = wr := ⟨_, rfl⟩
    clear H0
    by_cases h0 : hi ≤ 2 * root + 1
    · have h0z : (hi : Int) ≤ 2 * (root : Int) + 1 := by omega
      go_wp2
      go_end0
      refine ⟨rfl, ?_⟩
      rw [← HE.out, sd_end ltInt dk h0]
      exact HW.out
    · have h0z : ¬ ((hi : Int) ≤ 2 * (root : Int) + 1) := by omega
      obtain ⟨G, hG⟩ : ∃ G : Nat → Int, ∀ t, G t = dk[t]! := ⟨fun t => dk[t]!, fun _ => rfl⟩
      have hcw : ∀ t, t < n → w2.cell? ⟨blk, off + t, none⟩ = some (.int .u32 (G t)) := fun t ht => by rw [hG]; exact HW.out.cell t ht
      have hfw := HW.out.free
      have HG : Hid (∀ t, G t = dk[t]!) := Lib.hid hG
      clear hG
      by_cases h1 : 2 * root + 2 < hi
      · have h1z : 2 * (root : Int) + 1 + 1 < (hi : Int) := by omega
        cases hL : ltInt (G (first + 2 * root + 1)) (G (first + 2 * root + 2)) with
        | true =>
          have HL1 := Lib.hid (show ltInt dk[first + (2 * root + 1)]! dk[first + (2 * root + 2)]! = true by have := hL; simp only [HG.out, Nat.add_assoc] at this ⊢; exact this)
          go_wp2
          go_quiet ((go_at_call 71; refine Calls.quiet_of_same (less_a _ _ _)))
          go_wp2
          obtain ⟨w4, hw4⟩ : ∃ v, v = w2.drewN nq := ⟨_, rfl⟩
          rw [← hw4]
          have H4 : Hid (Sr blk off pre rest n w dk w4) := Lib.hid (by rw [hw4]; exact HW.out.drewN _)
          clear hw4 hcw hfw
          have hcw : ∀ t, t < n → w4.cell? ⟨blk, off + t, none⟩ = some (.int .u32 (G t)) := fun t ht => by rw [HG.out]; exact H4.out.cell t ht
          have hfw := H4.out.free
          cases hG2 : ltInt (G (first + root)) (G (first + 2 * root + 2)) with
          | true =>
            have HL2 := Lib.hid (show ltInt dk[first + root]! dk[first + (2 * root + 2)]! = true by have := hG2; simp only [HG.out, Nat.add_assoc] at this ⊢; exact this)
            go_quiet ((go_at_call 71; refine Calls.quiet_of_same (less_a _ _ _)))
            go_wp2
            go_region
            all_goals go_wp2
            go_roundg (hi - (2 * root + 2))
            case measure => omega
            case rel => exact ⟨2 * root + 2, swp dk (first + root) (first + (2 * root + 2)), by go_num, by omega, Nat.le_refl _, Lib.hid (H4.out.swap (first + root) (first + (2 * root + 2)) (by omega) (by omega) _ _ (HG.out _) (HG.out _) (by first | rfl | (simp only [Nat.add_assoc]; rfl)) rfl rfl rfl), Lib.hid (by rw [← HE.out, sd_right_go ltInt dk h1 HL1.out HL2.out])⟩
          | false =>
            have HL2 := Lib.hid (show ltInt dk[first + root]! dk[first + (2 * root + 2)]! = false by have := hG2; simp only [HG.out, Nat.add_assoc] at this ⊢; exact this)
            go_quiet ((go_at_call 71; refine Calls.quiet_of_same (less_a _ _ _)))
            go_wp2
            (try simp only [Exit.inBlock, Exit.then]); refine bodyPost_ret (results_none rfl _ _ _) rfl ?_
            refine ⟨rfl, ?_⟩
            rw [← HE.out, sd_right_stop ltInt dk h1 HL1.out HL2.out]
            exact H4.out.drewN _
        | false =>
          have HL1 := Lib.hid (show ltInt dk[first + (2 * root + 1)]! dk[first + (2 * root + 2)]! = false by have := hL; simp only [HG.out, Nat.add_assoc] at this ⊢; exact this)
          go_wp2
          go_quiet ((go_at_call 71; refine Calls.quiet_of_same (less_a _ _ _)))
          go_wp2
          obtain ⟨w4, hw4⟩ : ∃ v, v = w2.drewN nq := ⟨_, rfl⟩
          rw [← hw4]
          have H4 : Hid (Sr blk off pre rest n w dk w4) := Lib.hid (by rw [hw4]; exact HW.out.drewN _)
          clear hw4 hcw hfw
          have hcw : ∀ t, t < n → w4.cell? ⟨blk, off + t, none⟩ = some (.int .u32 (G t)) := fun t ht => by rw [HG.out]; exact H4.out.cell t ht
          have hfw := H4.out.free
          cases hG2 : ltInt (G (first + root)) (G (first + 2 * root + 1)) with
          | true =>
            have HL2 := Lib.hid (show ltInt dk[first + root]! dk[first + (2 * root + 1)]! = true by have := hG2; simp only [HG.out, Nat.add_assoc] at this ⊢; exact this)
            go_quiet ((go_at_call 71; refine Calls.quiet_of_same (less_a _ _ _)))
            go_wp2
            go_region
            all_goals go_wp2
            go_roundg (hi - (2 * root + 1))
            case measure => omega
            case rel => exact ⟨2 * root + 1, swp dk (first + root) (first + (2 * root + 1)), by go_num, by omega, Nat.le_refl _, Lib.hid (H4.out.swap (first + root) (first + (2 * root + 1)) (by omega) (by omega) _ _ (HG.out _) (HG.out _) (by first | rfl | (simp only [Nat.add_assoc]; rfl)) rfl rfl rfl), Lib.hid (by rw [← HE.out, sd_left_go ltInt dk (by omega) (fun _ => HL1.out) HL2.out])⟩
          | false =>
            have HL2 := Lib.hid (show ltInt dk[first + root]! dk[first + (2 * root + 1)]! = false by have := hG2; simp only [HG.out, Nat.add_assoc] at this ⊢; exact this)
            go_quiet ((go_at_call 71; refine Calls.quiet_of_same (less_a _ _ _)))
            go_wp2
            (try simp only [Exit.inBlock, Exit.then]); refine bodyPost_ret (results_none rfl _ _ _) rfl ?_
            refine ⟨rfl, ?_⟩
            rw [← HE.out, sd_left_stop ltInt dk (by omega) (fun _ => HL1.out) HL2.out]
            exact H4.out.drewN _
      · have h1z : ¬ (2 * (root : Int) + 1 + 1 < (hi : Int)) := by omega
        have h1d : decide (2 * (root : Int) + 1 + 1 < (hi : Int)) = false := decide_eq_false h1z
        go_wp2
        go_quiet (fail)
        go_wp2
        obtain ⟨w4, hw4⟩ : ∃ v, v = w2.drewN nq := ⟨_, rfl⟩
        rw [← hw4]
        have H4 : Hid (Sr blk off pre rest n w dk w4) := Lib.hid (by rw [hw4]; exact HW.out.drewN _)
        clear hw4 hcw hfw
        have hcw : ∀ t, t < n → w4.cell? ⟨blk, off + t, none⟩ = some (.int .u32 (G t)) := fun t ht => by rw [HG.out]; exact H4.out.cell t ht
        have hfw := H4.out.free
        cases hG2 : ltInt (G (first + root)) (G (first + 2 * root + 1)) with
        | true =>
          have HL2 := Lib.hid (show ltInt dk[first + root]! dk[first + (2 * root + 1)]! = true by have := hG2; simp only [HG.out, Nat.add_assoc] at this ⊢; exact this)
          go_quiet ((go_at_call 71; refine Calls.quiet_of_same (less_a _ _ _)))
          go_wp2
          go_region
          all_goals go_wp2
          go_roundg (hi - (2 * root + 1))
          case measure => omega
          case rel => exact ⟨2 * root + 1, swp dk (first + root) (first + (2 * root + 1)), by go_num, by omega, Nat.le_refl _, Lib.hid (H4.out.swap (first + root) (first + (2 * root + 1)) (by omega) (by omega) _ _ (HG.out _) (HG.out _) (by first | rfl | (simp only [Nat.add_assoc]; rfl)) rfl rfl rfl), Lib.hid (by rw [← HE.out, sd_left_go ltInt dk (by omega) (fun h => absurd h h1) HL2.out])⟩
        | false =>
          have HL2 := Lib.hid (show ltInt dk[first + root]! dk[first + (2 * root + 1)]! = false by have := hG2; simp only [HG.out, Nat.add_assoc] at this ⊢; exact this)
          go_quiet ((go_at_call 71; refine Calls.quiet_of_same (less_a _ _ _)))
          go_wp2
          (try simp only [Exit.inBlock, Exit.then]); refine bodyPost_ret (results_none rfl _ _ _) rfl ?_
          refine ⟨rfl, ?_⟩
          rw [← HE.out, sd_left_stop ltInt dk (by omega) (fun h => absurd h h1) HL2.out]
          exact H4.out.drewN _
set_option maxRecDepth 100000 in
set_option maxHeartbeats 4000000 in
theorem heap_a (blk off cap : Nat) (pre rest : List Value) (n : Nat) (a b : Nat) (d : Array Int) (w : World) (hS : Sr blk off pre rest n w d w) (hab : a ≤ b) (hb : b ≤ n) (hsz : n < 4611686018427387904) :
    Calls Try.prog 66 #[.slice (some ⟨blk, off, none⟩) n cap, .int .i64 a, .int .i64 b] w fun e w' => e = .returned (.tuple #[]) ∧ Sr blk off pre rest n w (heapSort ltInt d a b) w' := by
  have ecast : ((b - a : Nat) : Int) = (b : Int) - (a : Int) := by omega
  have H0 := Lib.hid hS
  clear hS
  go_enter Try.func66, Try.ntmps66
  go_wp2
  go_loopg [9] ((b - a - 1) / 2 + 1) (fun kx s9 wr => s9 = .int .i64 ((kx : Int) - 1) ∧ kx ≤ (b - a - 1) / 2 + 1 ∧ ∃ (dk : Array Int), Hid (Sr blk off pre rest n w dk wr) ∧ Hid (heapBuild ltInt (b - a) a kx dk = heapBuild ltInt (b - a) a ((b - a - 1) / 2 + 1) d))
  case atStart => exact ⟨by rw [half_start hab], Nat.le_refl _, d, H0, Lib.hid rfl⟩
  case round =>
    obtain ⟨rfl, hkk, dk, HW, HE⟩ := hrel
    obtain ⟨w2, rfl⟩ : ∃ v, v = wr := ⟨_, rfl⟩
    clear H0
    cases gk with
    | zero =>
      have hB : Hid (dk = heapBuild ltInt (b - a) a ((b - a - 1) / 2 + 1) d) := Lib.hid HE.out
      clear HE hkk
      go_wp2
      go_loopg [10] (b - a) (fun kx s10 wr2 => s10 = .int .i64 ((kx : Int) - 1) ∧ kx ≤ b - a ∧ ∃ (dj : Array Int), Hid (Sr blk off pre rest n w dj wr2) ∧ Hid (heapPop ltInt a kx dj = heapPop ltInt a (b - a) dk))
      case atStart => exact ⟨by rw [ecast], Nat.le_refl _, dk, HW, Lib.hid rfl⟩
      case round =>
        clear HW
        obtain ⟨rfl, hkk, dj, HW, HE2⟩ := hrel
        obtain ⟨w3, rfl⟩ : ∃ v, v = wr := ⟨_, rfl⟩
        cases gk with
        | zero =>
          go_wp2
          go_end0
          have e : dj = heapSort ltInt d a b := by rw [heapSort, ← hB.out, ← HE2.out]; rfl
          rw [← e]
          exact ⟨rfl, HW.out⟩
        | succ kx =>
          obtain ⟨G, hG⟩ : ∃ G : Nat → Int, ∀ t, G t = dj[t]! := ⟨fun t => dj[t]!, fun _ => rfl⟩
          have hcw : ∀ t, t < n → w3.cell? ⟨blk, off + t, none⟩ = some (.int .u32 (G t)) := fun t ht => by rw [hG]; exact HW.out.cell t ht
          have hfw := HW.out.free
          have HG : Hid (∀ t, G t = dj[t]!) := Lib.hid hG
          clear hG
          go_upto_region 11 with fail
          by_cases hk0 : kx = 0
          · subst hk0
            go_region
            obtain ⟨w4, hw4⟩ : ∃ v, v = ((w3.setCell ⟨blk, off + a, none⟩ (.int .u32 (G a))).setCell ⟨blk, off + a, none⟩ (.int .u32 (G a))).drew := ⟨_, rfl⟩
            have H4 : Hid (Sr blk off pre rest n w (swp dj a (a + 0)) w4) := Lib.hid (by rw [hw4]; exact HW.out.swap a (a + 0) (by omega) (by omega) _ _ (HG.out _) (HG.out _) rfl rfl rfl rfl)
            rw [← hw4]
            clear hw4 hcw hfw HW HG
            have hcall := sift_a blk off cap pre rest n 0 0 a (swp dj a (a + 0)) w4 H4.out.here (Nat.zero_le _) (by omega) hsz
            go_wp2_with fail
            refine hcall.mono ?_
            rintro e w5 ⟨rfl, h5⟩
            have H5 := Lib.hid (H4.out.step h5)
            clear h5 hcall
            go_wp2
            go_roundg 0
            case measure => omega
            case rel => exact ⟨by simp, by omega, _, H5, HE2⟩
          · have hne : a ≠ a + kx := by omega
            go_region
            obtain ⟨w4, hw4⟩ : ∃ v, v = ((w3.setCell ⟨blk, off + a, none⟩ (.int .u32 (G (a + kx)))).setCell ⟨blk, off + (a + kx), none⟩ (.int .u32 (G a))).drew := ⟨_, rfl⟩
            have H4 : Hid (Sr blk off pre rest n w (swp dj a (a + kx)) w4) := Lib.hid (by rw [hw4]; exact HW.out.swap a (a + kx) (by omega) (by omega) _ _ (HG.out _) (HG.out _) rfl rfl rfl rfl)
            rw [← hw4]
            clear hw4 hcw hfw HW HG
            have hcall := sift_a blk off cap pre rest n 0 kx a (swp dj a (a + kx)) w4 H4.out.here (Nat.zero_le _) (by omega) hsz
            go_wp2_with fail
            refine hcall.mono ?_
            rintro e w5 ⟨rfl, h5⟩
            have H5 := Lib.hid (H4.out.step h5)
            clear h5 hcall
            go_wp2
            go_roundg kx
            case measure => omega
            case rel => exact ⟨by simp, by omega, _, H5, HE2⟩
    | succ kx =>
      have hcall := sift_a blk off cap pre rest n kx (b - a) a dk w2 HW.out.here (by omega) (by omega) hsz
      rw [ecast] at hcall
      go_wp2_with fail
      refine hcall.mono ?_
      rintro e w5 ⟨rfl, h5⟩
      have H5 := Lib.hid (HW.out.step h5)
      clear h5 hcall
      go_wp2
      go_roundg kx
      case measure => omega
      case rel => exact ⟨by simp, by omega, _, H5, HE⟩
end Go.Proofs.Ytlmkmbpikhagiaa
