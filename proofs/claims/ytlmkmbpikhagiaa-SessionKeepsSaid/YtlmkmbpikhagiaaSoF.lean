/- Sorting addresses: the generator, the widths. Conditions: those stated. -/
import Derived.Test.YtlmkmbpikhagiaaShf
import Derived.Test.YtlmkmbpikhagiaaSoA
import Derived.Sort.Walk7
import Derived.Sort.EveryDepth
import Derived.Deep.CutRange
import Derived.Deep.CutBlock
namespace Go.Proofs.Ytlmkmbpikhagiaa
open Go Go.RowKit Go.Sort Go.Shelf
set_option linter.unusedVariables false
set_option linter.unusedSimpArgs false

theorem xor_c (rb ro X : Nat) (hX : X < 18446744073709551616) (w : World) (hc : w.cell? ⟨rb, ro, none⟩ = some (.int .u64 X)) (hf : w.frozen? ⟨rb, ro, none⟩ = false) :
    Calls Try.prog 87 #[.pointer (some ⟨rb, ro, none⟩)] w fun e w' => e = .returned (.int .u64 (xorNextN X : Nat)) ∧ w' = (w.setCell ⟨rb, ro, none⟩ (.int .u64 (xorNextN X : Nat))).drewN 3 :=
  calls_of_every_depth fun D => AnyS.xorshift_NextIn (P := Try.prog) (ρ := Try.lays189_ren) { Try.lays189 with } D rb ro X hX w hc hf
theorem pow_c (n : Nat) (hn : n < 4611686018427387904) (w : World) :
    Calls Try.prog 86 #[.int .i64 n] w fun e w' => e = .returned (.int .u64 ((1 <<< bitsLen n : Nat) : Int)) ∧ w' = w :=
  calls_of_every_depth fun D => AnyS.nextPowerOfTwoIn (P := Try.prog) (ρ := Try.lays189_ren) { Try.lays189 with } D n hn w
theorem Sr.aside {blk off : Nat} {pre rest : List Value} {n : Nat} {w W : World} {d : Array Int} (h : Sr blk off pre rest n w d W) {q : Nat} (hq : w.heap.size ≤ q) (hne : q ≠ blk) (v : Value) : Sr blk off pre rest n w d (W.setCell ⟨q, 0, none⟩ v) :=
  ⟨h.len, (tch_set W ⟨q, 0, none⟩ v).at h.row (fun e => hne e.symm), h.off, h.tch.trans' (tch_set W ⟨q, 0, none⟩ v) (fun k hk e => by simp at e; omega)⟩
theorem kept_swap {w : World} {q blk o1 o2 : Nat} {v1 v2 x : Value} (hne : q ≠ blk) (hc : w.cell? ⟨q, 0, none⟩ = some x ∧ w.frozen? ⟨q, 0, none⟩ = false) : ((w.setCell ⟨blk, o1, none⟩ v1).setCell ⟨blk, o2, none⟩ v2).cell? ⟨q, 0, none⟩ = some x ∧ ((w.setCell ⟨blk, o1, none⟩ v1).setCell ⟨blk, o2, none⟩ v2).frozen? ⟨q, 0, none⟩ = false := by
  refine ⟨?_, by rw [World.frozen?_setCell, World.frozen?_setCell]; exact hc.2⟩
  have h := ((tch_set w ⟨blk, o1, none⟩ v1).trans (tch_set (w.setCell ⟨blk, o1, none⟩ v1) ⟨blk, o2, none⟩ v2)).cell hc.1
  exact h (fun e => hne e)
set_option maxRecDepth 100000 in
set_option maxHeartbeats 4000000 in
theorem brk8_a (blk off cap : Nat) (pre rest : List Value) (n : Nat) (a L : Nat) (d : Array Int) (w : World) (hS : Sr blk off pre rest n w d w) (h8 : 8 ≤ L) (hb : a + L ≤ n) (hsz : n < 4611686018427387904) :
    Calls Try.prog 67 #[.slice (some ⟨blk, off, none⟩) n cap, .int .i64 a, .int .i64 ((a + L : Nat) : Int)] w fun e w' => e = .returned (.tuple #[]) ∧ Sr blk off pre rest n w (breakPatterns d a (a + L)) w' := by
  rw [breakPatterns_eq d a L h8]
  obtain ⟨M, hM⟩ : ∃ M : Nat, M = 1 <<< bitsLen L := ⟨_, rfl⟩
  have hM1 : 1 ≤ M := by rw [hM, Nat.one_shiftLeft]; exact Nat.two_pow_pos _
  have hM2 : M ≤ 2 * L := by rw [hM, Nat.one_shiftLeft]; exact two_pow_bitsLen_le (by omega)
  have hNP : ∀ w, Calls Try.prog 86 #[.int .i64 (L : Int)] w fun e w' => e = .returned (.int .u64 (M : Int)) ∧ w' = w := by rw [hM]; exact fun w => pow_c L (by omega) w
  rw [← hM]
  clear hM
  obtain ⟨q, hq⟩ : ∃ q, q = w.heap.size := ⟨_, rfl⟩
  have HQ := Lib.hid hq
  have hqb : q ≠ blk := by have := hS.lt; omega
  obtain ⟨W, hW⟩ : ∃ W, W = w.alloc (Obj.cells #[.int .u64 (L : Int)] 129) := ⟨_, rfl⟩
  have H0 : Hid (Sr blk off pre rest n w d W) := Lib.hid (hS.more (by rw [hW]; exact tch_new ((Below.refl _ _).alloc (Nat.le_refl _) _)))
  have hh : W.heap[q]? = some (.cells #[.int .u64 (L : Int)] 129 (0, 0)) := by rw [hW, hq]; exact heap_alloc_new _ _
  have HC0 : Hid (W.cell? ⟨q, 0, none⟩ = some (.int .u64 ((UInt64.ofNat L).toNat : Int)) ∧ W.frozen? ⟨q, 0, none⟩ = false) := Lib.hid ⟨by rw [cell_of_row W _ 0 _ _ _ hh, show (UInt64.ofNat L).toNat = L from by simp; omega]; rfl, frozen_of_row W _ 0 _ _ hh⟩
  have HW := Lib.hid hW
  clear hh hW hS hq
  go_enter Try.func67, Try.ntmps67
  have eL := Lib.hid (show ((a : Int) + (L : Int) - (a : Int)) = (L : Int) by omega)
  go_upto_region 3 with fail
  rw [eL.out, ← HW.out, ← HQ.out]
  clear HW
  go_wp2_with (first | (go_at_call 86; refine (hNP _).mono ?_; rintro e w' ⟨rfl, rfl⟩))
  go_loopw [9] (fun vi wr => ∃ (t : Nat) (r : UInt64) (dk : Array Int), vi = .int .i64 ((a + L / 4 * 2 - 1 + t : Nat) : Int) ∧ t ≤ 3 ∧ Hid (Sr blk off pre rest n w dk wr) ∧ Hid (wr.cell? ⟨q, 0, none⟩ = some (.int .u64 (r.toNat : Int)) ∧ wr.frozen? ⟨q, 0, none⟩ = false) ∧
      Hid (bpRest a L M (a + L / 4 * 2 - 1) (3 - t) t (r, dk) = bpRest a L M (a + L / 4 * 2 - 1) 3 0 (UInt64.ofNat L, d))) (fun vi _ => a + L / 4 * 2 + 3 - (intOf vi).toNat)
  case atStart => exact ⟨0, UInt64.ofNat L, d, by congr 1; omega, by omega, H0, HC0, Lib.hid rfl⟩
  case round =>
    obtain ⟨t, r, dk, rfl, ht, HW, HC, HR⟩ := hrel
    obtain ⟨w2, rfl⟩ : ∃ v, v = wr := ⟨_, rfl⟩
    clear H0 HC0
    by_cases ht3 : t < 3
    · obtain ⟨R, hRr⟩ : ∃ R : Nat, R = r.toNat := ⟨_, rfl⟩
      have lR : R < 18446744073709551616 := by rw [hRr]; exact r.toNat_lt
      obtain ⟨R', hR'⟩ : ∃ R' : Nat, R' = xorNextN R := ⟨_, rfl⟩
      have lR' : R' < 18446744073709551616 := by rw [hR']; exact xorNextN_lt R lR
      obtain ⟨O, hO⟩ : ∃ O : Nat, O = R' &&& (M - 1) := ⟨_, rfl⟩
      have lO : O ≤ M - 1 := by rw [hO]; exact Nat.and_le_right
      have eAnd : bits .and .u64 (R' : Int) ((M : Int) - 1) = (O : Int) := by
        rw [show ((M : Int) - 1) = ((M - 1 : Nat) : Int) by omega, bits_and_u64_nat _ _ lR' (by omega), hO]
      have HN : Hid (R' = (xorNext r).toNat ∧ O = (xorNext r).toNat &&& (M - 1)) := by
        have e : R' = (xorNext r).toNat := by rw [hR', hRr, xorNext_toNat]
        exact ⟨e, by rw [hO, e]⟩
      obtain ⟨w3, hw3⟩ : ∃ v, v = (w2.setCell ⟨q, 0, none⟩ (.int .u64 (R' : Int))).drewN 3 := ⟨_, rfl⟩
      have H3 : Hid (Sr blk off pre rest n w dk w3) := Lib.hid (by rw [hw3]; exact (HW.out.aside (Nat.le_of_eq HQ.out.symm) hqb _).drewN _)
      have hq2 : w2.cell? ⟨q, 0, none⟩ = some (.int .u64 (r.toNat : Int)) := HC.out.1
      have HC3 : Hid (w3.cell? ⟨q, 0, none⟩ = some (.int .u64 ((xorNext r).toNat : Int)) ∧ w3.frozen? ⟨q, 0, none⟩ = false) := Lib.hid (by
        rw [hw3]
        refine ⟨?_, ?_⟩
        · have := World.cell?_setCell_same' w2 ⟨q, 0, none⟩ (.int .u64 (R' : Int)) (by rw [hq2]; rfl)
          rw [← HN.out.1]
          exact this
        · show (w2.setCell ⟨q, 0, none⟩ (.int .u64 (R' : Int))).frozen? ⟨q, 0, none⟩ = false
          rw [World.frozen?_setCell]
          exact HC.out.2)
      have hNext : Calls Try.prog 87 #[.pointer (some ⟨q, 0, none⟩)] w2 fun e w' => e = .returned (.int .u64 (R' : Int)) ∧ w3 = w' := by
        rw [hw3, hR']; exact (xor_c _ _ R lR w2 (by rw [hRr]; exact hq2) HC.out.2).mono (fun e w' h => ⟨h.1, h.2.symm⟩)
      have H3n := Lib.hid hNext
      clear hRr hR' hO hw3 hNext hq2 HW HC
      have hlz : ((a + L / 4 * 2 - 1 + t : Nat) : Int) ≤ (a : Int) + (L : Int) / 4 * 2 + 1 := by omega
      go_wp2_with (first | (go_at_call 87; refine H3n.out.mono ?_; rintro e w' ⟨rfl, rfl⟩))
      · have hLO : L ≤ O := by omega
        obtain ⟨G, hG⟩ : ∃ G : Nat → Int, ∀ t, G t = dk[t]! := ⟨fun t => dk[t]!, fun _ => rfl⟩
        have hcw : ∀ t, t < n → w3.cell? ⟨blk, off + t, none⟩ = some (.int .u32 (G t)) := fun t ht => by rw [hG]; exact H3.out.cell t ht
        have hfw := H3.out.free
        have HG : Hid (∀ t, G t = dk[t]!) := Lib.hid hG
        clear hG
        by_cases hEq : a + L / 4 * 2 - 1 + t = a + (O - L)
        all_goals
          go_region
          all_goals go_wp2
          go_roundw
          case rel =>
            refine ⟨t + 1, xorNext r, swp dk (a + L / 4 * 2 - 1 + t) (a + (O - L)), by first | rfl | (congr 1 <;> omega), by omega, Lib.hid (H3.out.swap (a + L / 4 * 2 - 1 + t) (a + (O - L)) (by omega) (by omega) _ _ (HG.out _) (HG.out _) ?hh rfl rfl rfl), Lib.hid ?hc, Lib.hid ?hr⟩
            case hh => first | rfl | (simp only [hEq]; done) | (simp only [hEq]; rfl) | (simp only [← hEq]; rfl)
            case hc => exact kept_swap hqb HC3.out
            case hr => rw [← HR.out, bp_step a L M _ t r dk (O - L) (by omega) (by rw [← HN.out.2, if_pos (by omega)])]
          case measure => simp [intOf]; omega
      · have hLO : ¬ L ≤ O := by omega
        obtain ⟨G, hG⟩ : ∃ G : Nat → Int, ∀ t, G t = dk[t]! := ⟨fun t => dk[t]!, fun _ => rfl⟩
        have hcw : ∀ t, t < n → w3.cell? ⟨blk, off + t, none⟩ = some (.int .u32 (G t)) := fun t ht => by rw [hG]; exact H3.out.cell t ht
        have hfw := H3.out.free
        have HG : Hid (∀ t, G t = dk[t]!) := Lib.hid hG
        clear hG
        by_cases hEq : a + L / 4 * 2 - 1 + t = a + O
        all_goals
          go_region
          all_goals go_wp2
          go_roundw
          case rel =>
            refine ⟨t + 1, xorNext r, swp dk (a + L / 4 * 2 - 1 + t) (a + O), by first | rfl | (congr 1 <;> omega), by omega, Lib.hid (H3.out.swap (a + L / 4 * 2 - 1 + t) (a + O) (by omega) (by omega) _ _ (HG.out _) (HG.out _) ?hh rfl rfl rfl), Lib.hid ?hc, Lib.hid ?hr⟩
            case hh => first | rfl | (simp only [hEq]; done) | (simp only [hEq]; rfl) | (simp only [← hEq]; rfl)
            case hc => exact kept_swap hqb HC3.out
            case hr => rw [← HR.out, bp_step a L M _ t r dk (O) (by omega) (by rw [← HN.out.2, if_neg (by omega)])]
          case measure => simp [intOf]; omega
    · have e3 : t = 3 := by omega
      subst e3
      have HE := Lib.hid (show dk = bpRest a L M (a + L / 4 * 2 - 1) 3 0 (UInt64.ofNat L, d) by rw [← HR.out]; rfl)
      go_wp2
      go_end0
      exact ⟨rfl, by rw [← HE.out]; exact HW.out⟩
theorem brk_a (blk off cap : Nat) (pre rest : List Value) (n : Nat) (a b : Nat) (d : Array Int) (w : World) (hS : Sr blk off pre rest n w d w) (hab : a ≤ b) (hb : b ≤ n) (hsz : n < 4611686018427387904) :
    Calls Try.prog 67 #[.slice (some ⟨blk, off, none⟩) n cap, .int .i64 a, .int .i64 b] w fun e w' => e = .returned (.tuple #[]) ∧ Sr blk off pre rest n w (breakPatterns d a b) w' := by
  obtain ⟨L, rfl⟩ : ∃ L, b = a + L := ⟨b - a, by omega⟩
  by_cases h8 : 8 ≤ L
  · exact brk8_a blk off cap pre rest n a L d w hS h8 hb hsz
  · have hv : breakPatterns d a (a + L) = d := by unfold breakPatterns; simp only [Nat.add_sub_cancel_left]; rw [if_neg h8]
    rw [hv]
    have H0 := Lib.hid hS
    clear hS
    have h8z : ¬ (8 : Int) ≤ (a : Int) + (L : Int) - (a : Int) := by omega
    go_enter Try.func67, Try.ntmps67
    go_wp2
    go_end0
    exact ⟨rfl, H0.out⟩
end Go.Proofs.Ytlmkmbpikhagiaa
