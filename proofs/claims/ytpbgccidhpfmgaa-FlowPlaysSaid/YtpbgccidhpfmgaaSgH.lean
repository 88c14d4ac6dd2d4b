/- Contracts of sort.siftDown_func and sort.heapSort_func where 'less' may make blocks of its own. Conditions: as stated. -/
import Derived.Test.YtpbgccidhpfmgaaSgI
import Derived.Sort.WalkB3
namespace Go.Proofs.Ytpbgccidhpfmgaa
open Go Go.RowKit Go.Sort
set_option linter.unusedVariables false
set_option linter.unusedSimpArgs false

variable {α : Type} [Inhabited α] {enc : α → List Value} {k : Nat} {lt : α → α → Bool} {g : Nat} {lb : Array Value} {sf : Nat} {sb : Array Value} {blk n : Nat} {w0 : World} {d0 : Array α}
set_option maxRecDepth 100000 in
set_option maxHeartbeats 4000000 in
theorem sift_g (S : Sgt enc k lt g lb sf sb blk n w0 d0) (lo hi first : Nat) (d : Array α) (w : World) (hw : SWK enc k w0 blk 0 d w) (hl : d.size = n) (hlo : lo ≤ hi) (hb : first + hi ≤ n) :
    Calls Try.prog 125 #[.agg #[.func (.func g) #[] lb, .func (.func sf) #[] sb], .int .i64 lo, .int .i64 hi, .int .i64 first] w fun e w' => e = .returned (.tuple #[]) ∧ Sgo enc k blk n w0 w (siftDown lt hi first lo d) w' := by
  have hsz := S.sz
  have eg := S.eg
  have hne : w.heap.size ≠ blk := by have := hw.lt S.inb; omega
  have H0 := Lib.hid (Sgw.start (n := n) hw hl 154 (.func (.func g) #[] lb) (.func (.func sf) #[] sb))
  clear hw hl
  go_enter Try.func125, Try.ntmps125
  go_wp2
  go_loopg [8] (hi - lo) (fun kx s8 wr => ∃ (root : Nat) (dk : Array α), s8 = .int .i64 root ∧ root ≤ hi ∧ hi - root ≤ kx ∧ Hid (Sgw enc k (.func (.func g) #[] lb) (.func (.func sf) #[] sb) blk n w0 w dk wr) ∧ Hid (siftDown lt hi first root dk = siftDown lt hi first lo d))
  case atStart => exact ⟨lo, d, rfl, hlo, Nat.le_refl _, H0, Lib.hid rfl⟩
  case round =>
    obtain ⟨root, dk, rfl, hr, hkx, HW, HE⟩ := hrel
    obtain ⟨w2, rfl⟩ : ∃ v, v = wr := ⟨_, rfl⟩
    clear H0
    have c0 := HW.out.c0
    by_cases h0 : hi ≤ 2 * root + 1
    · have h0z : (hi : Int) ≤ 2 * (root : Int) + 1 := by omega
      go_wp2
      go_end0
      refine ⟨rfl, ?_⟩
      rw [← HE.out, sd_end lt dk h0]
      exact HW.out.end_
    · have h0z : ¬ ((hi : Int) ≤ 2 * (root : Int) + 1) := by omega
      by_cases h1 : 2 * root + 2 < hi
      · have h1z : 2 * (root : Int) + 1 + 1 < (hi : Int) := by omega
        have hl1 := S.less' HW.out.sw HW.out.len (first + (2 * root + 1)) (first + (2 * root + 2)) (by omega) (by omega)
        rw [show ((first + (2 * root + 1) : Nat) : Int) = (first : Int) + (2 * (root : Int) + 1) by omega] at hl1
        rw [show ((first + (2 * root + 2) : Nat) : Int) = (first : Int) + (2 * (root : Int) + 1) + 1 by omega] at hl1
        cases hL : lt dk[first + (2 * root + 1)]! dk[first + (2 * root + 2)]! with
        | true =>
          rw [hL] at hl1
          go_wp2_with fail
          refine hl1.mono ?_
          rintro e w4 ⟨rfl, hg4⟩
          have H4 := Lib.hid (HW.out.grw hne hg4)
          clear hg4 hl1 c0
          have c0 := H4.out.c0
          have hl2 := S.less' H4.out.sw H4.out.len (first + root) (first + (2 * root + 2)) (by omega) (by omega)
          rw [show ((first + root : Nat) : Int) = (first : Int) + (root : Int) by omega] at hl2
          rw [show ((first + (2 * root + 2) : Nat) : Int) = (first : Int) + (2 * (root : Int) + 1 + 1) by omega] at hl2
          cases hG : lt dk[first + root]! dk[first + (2 * root + 2)]! with
          | true =>
            rw [hG] at hl2
            go_wp2_with fail
            refine hl2.mono ?_
            rintro e w5 ⟨rfl, hg5⟩
            have H5 := Lib.hid (H4.out.grw hne hg5)
            clear hg5 hl2
            have c1 := H5.out.c1
            obtain ⟨w6, hs, hsw, hsl, hst⟩ := S.swap' H5.out.sw H5.out.len (first + root) (first + (2 * root + 2)) (by omega) (by omega)
            rw [show ((first + root : Nat) : Int) = (first : Int) + (root : Int) by omega, show ((first + (2 * root + 2) : Nat) : Int) = (first : Int) + (2 * (root : Int) + 1 + 1) by omega] at hs
            have H6 := Lib.hid (H5.out.step hne hsw hsl hst)
            clear hsw hsl hst
            go_wp2
            go_roundg (hi - (2 * root + 2))
            case measure => omega
            case rel => exact ⟨2 * root + 2, _, by go_num, by omega, Nat.le_refl _, H6, Lib.hid (by rw [← HE.out, sd_right_go lt dk h1 hL hG])⟩
          | false =>
            rw [hG] at hl2
            go_wp2_with fail
            refine hl2.mono ?_
            rintro e w5 ⟨rfl, hg5⟩
            have H5 := Lib.hid (H4.out.grw hne hg5)
            clear hg5 hl2
            go_wp2
            (try simp only [Exit.inBlock, Exit.then]); refine bodyPost_ret (results_none rfl _ _ _) rfl ?_
            refine ⟨rfl, ?_⟩
            rw [← HE.out, sd_right_stop lt dk h1 hL hG]
            exact H5.out.end_
        | false =>
          rw [hL] at hl1
          go_wp2_with fail
          refine hl1.mono ?_
          rintro e w4 ⟨rfl, hg4⟩
          have H4 := Lib.hid (HW.out.grw hne hg4)
          clear hg4 hl1 c0
          have c0 := H4.out.c0
          have hl2 := S.less' H4.out.sw H4.out.len (first + root) (first + (2 * root + 1)) (by omega) (by omega)
          rw [show ((first + root : Nat) : Int) = (first : Int) + (root : Int) by omega] at hl2
          rw [show ((first + (2 * root + 1) : Nat) : Int) = (first : Int) + (2 * (root : Int) + 1) by omega] at hl2
          cases hG : lt dk[first + root]! dk[first + (2 * root + 1)]! with
          | true =>
            rw [hG] at hl2
            go_wp2_with fail
            refine hl2.mono ?_
            rintro e w5 ⟨rfl, hg5⟩
            have H5 := Lib.hid (H4.out.grw hne hg5)
            clear hg5 hl2
            have c1 := H5.out.c1
            obtain ⟨w6, hs, hsw, hsl, hst⟩ := S.swap' H5.out.sw H5.out.len (first + root) (first + (2 * root + 1)) (by omega) (by omega)
            rw [show ((first + root : Nat) : Int) = (first : Int) + (root : Int) by omega, show ((first + (2 * root + 1) : Nat) : Int) = (first : Int) + (2 * (root : Int) + 1) by omega] at hs
            have H6 := Lib.hid (H5.out.step hne hsw hsl hst)
            clear hsw hsl hst
            go_wp2
            go_roundg (hi - (2 * root + 1))
            case measure => omega
            case rel => exact ⟨2 * root + 1, _, by go_num, by omega, Nat.le_refl _, H6, Lib.hid (by rw [← HE.out, sd_left_go lt dk (by omega) (fun _ => hL) hG])⟩
          | false =>
            rw [hG] at hl2
            go_wp2_with fail
            refine hl2.mono ?_
            rintro e w5 ⟨rfl, hg5⟩
            have H5 := Lib.hid (H4.out.grw hne hg5)
            clear hg5 hl2
            go_wp2
            (try simp only [Exit.inBlock, Exit.then]); refine bodyPost_ret (results_none rfl _ _ _) rfl ?_
            refine ⟨rfl, ?_⟩
            rw [← HE.out, sd_left_stop lt dk (by omega) (fun _ => hL) hG]
            exact H5.out.end_
      · have h1z : ¬ (2 * (root : Int) + 1 + 1 < (hi : Int)) := by omega
        have hl2 := S.less' HW.out.sw HW.out.len (first + root) (first + (2 * root + 1)) (by omega) (by omega)
        rw [show ((first + root : Nat) : Int) = (first : Int) + (root : Int) by omega] at hl2
        rw [show ((first + (2 * root + 1) : Nat) : Int) = (first : Int) + (2 * (root : Int) + 1) by omega] at hl2
        cases hG : lt dk[first + root]! dk[first + (2 * root + 1)]! with
        | true =>
          rw [hG] at hl2
          go_wp2_with fail
          refine hl2.mono ?_
          rintro e w5 ⟨rfl, hg5⟩
          have H5 := Lib.hid (HW.out.grw hne hg5)
          clear hg5 hl2
          have c1 := H5.out.c1
          obtain ⟨w6, hs, hsw, hsl, hst⟩ := S.swap' H5.out.sw H5.out.len (first + root) (first + (2 * root + 1)) (by omega) (by omega)
          rw [show ((first + root : Nat) : Int) = (first : Int) + (root : Int) by omega, show ((first + (2 * root + 1) : Nat) : Int) = (first : Int) + (2 * (root : Int) + 1) by omega] at hs
          have H6 := Lib.hid (H5.out.step hne hsw hsl hst)
          clear hsw hsl hst
          go_wp2
          go_roundg (hi - (2 * root + 1))
          case measure => omega
          case rel => exact ⟨2 * root + 1, _, by go_num, by omega, Nat.le_refl _, H6, Lib.hid (by rw [← HE.out, sd_left_go lt dk (by omega) (fun h => absurd h h1) hG])⟩
        | false =>
          rw [hG] at hl2
          go_wp2_with fail
          refine hl2.mono ?_
          rintro e w5 ⟨rfl, hg5⟩
          have H5 := Lib.hid (HW.out.grw hne hg5)
          clear hg5 hl2
          go_wp2
          (try simp only [Exit.inBlock, Exit.then]); refine bodyPost_ret (results_none rfl _ _ _) rfl ?_
          refine ⟨rfl, ?_⟩
          rw [← HE.out, sd_left_stop lt dk (by omega) (fun h => absurd h h1) hG]
          exact H5.out.end_
set_option maxRecDepth 100000 in
set_option maxHeartbeats 4000000 in
theorem heap_g (S : Sgt enc k lt g lb sf sb blk n w0 d0) (a b : Nat) (d : Array α) (w : World) (hw : SWK enc k w0 blk 0 d w) (hl : d.size = n) (hab : a ≤ b) (hb : b ≤ n) :
    Calls Try.prog 114 #[.agg #[.func (.func g) #[] lb, .func (.func sf) #[] sb], .int .i64 a, .int .i64 b] w fun e w' => e = .returned (.tuple #[]) ∧ Sgo enc k blk n w0 w (heapSort lt d a b) w' := by
  have hsz := S.sz
  have ecast : ((b - a : Nat) : Int) = (b : Int) - (a : Int) := by omega
  have hne : w.heap.size ≠ blk := by have := hw.lt S.inb; omega
  have H0 := Lib.hid (Sgw.start (n := n) hw hl 154 (.func (.func g) #[] lb) (.func (.func sf) #[] sb))
  clear hw hl
  go_enter Try.func114, Try.ntmps114
  go_wp2
  go_loopg [9] ((b - a - 1) / 2 + 1) (fun kx s9 wr => s9 = .int .i64 ((kx : Int) - 1) ∧ kx ≤ (b - a - 1) / 2 + 1 ∧ ∃ (dk : Array α), Hid (Sgw enc k (.func (.func g) #[] lb) (.func (.func sf) #[] sb) blk n w0 w dk wr) ∧ Hid (heapBuild lt (b - a) a kx dk = heapBuild lt (b - a) a ((b - a - 1) / 2 + 1) d))
  case atStart => exact ⟨by rw [half_start hab], Nat.le_refl _, d, H0, Lib.hid rfl⟩
  case round =>
    obtain ⟨rfl, hkk, dk, HW, HE⟩ := hrel
    obtain ⟨w2, rfl⟩ : ∃ v, v = wr := ⟨_, rfl⟩
    clear H0
    cases gk with
    | zero =>
      have hB : Hid (dk = heapBuild lt (b - a) a ((b - a - 1) / 2 + 1) d) := Lib.hid HE.out
      clear HE hkk
      go_wp2
      go_loopg [10] (b - a) (fun kx s10 wr2 => s10 = .int .i64 ((kx : Int) - 1) ∧ kx ≤ b - a ∧ ∃ (dj : Array α), Hid (Sgw enc k (.func (.func g) #[] lb) (.func (.func sf) #[] sb) blk n w0 w dj wr2) ∧ Hid (heapPop lt a kx dj = heapPop lt a (b - a) dk))
      case atStart => exact ⟨by rw [ecast], Nat.le_refl _, dk, HW, Lib.hid rfl⟩
      case round =>
        clear HW
        obtain ⟨rfl, hkk, dj, HW, HE2⟩ := hrel
        obtain ⟨w3, rfl⟩ : ∃ v, v = wr := ⟨_, rfl⟩
        cases gk with
        | zero =>
          go_wp2
          go_end0
          have e : dj = heapSort lt d a b := by rw [heapSort, ← hB.out, ← HE2.out]; rfl
          rw [← e]
          exact ⟨rfl, HW.out.end_⟩
        | succ kx =>
          have c1 := HW.out.c1
          obtain ⟨w4, hs, hsw, hsl, hst⟩ := S.swap' HW.out.sw HW.out.len a (a + kx) (by omega) (by omega)
          rw [show ((a + kx : Nat) : Int) = (a : Int) + (kx : Int) by omega] at hs
          have H4 := Lib.hid (HW.out.step hne hsw hsl hst)
          clear hsw hsl hst
          have c40 := H4.out.c0
          have c41 := H4.out.c1
          have hcall := sift_g S 0 kx a (swp dj a (a + kx)) w4 H4.out.sw H4.out.len (Nat.zero_le _) (by omega)
          go_wp2_with fail
          refine hcall.mono ?_
          rintro e w5 ⟨rfl, h5⟩
          have H5 := Lib.hid (H4.out.step hne h5.1 h5.2.1 h5.2.2)
          clear h5 hcall
          go_wp2
          go_roundg kx
          case measure => omega
          case rel => exact ⟨by simp, by omega, _, H5, HE2⟩
    | succ kx =>
      have c0 := HW.out.c0
      have c1 := HW.out.c1
      have hcall := sift_g S kx (b - a) a dk w2 HW.out.sw HW.out.len (by omega) (by omega)
      rw [ecast] at hcall
      go_wp2_with fail
      refine hcall.mono ?_
      rintro e w5 ⟨rfl, h5⟩
      have H5 := Lib.hid (HW.out.step hne h5.1 h5.2.1 h5.2.2)
      clear h5 hcall
      go_wp2
      go_roundg kx
      case measure => omega
      case rel => exact ⟨by simp, by omega, _, H5, HE⟩
end Go.Proofs.Ytpbgccidhpfmgaa
