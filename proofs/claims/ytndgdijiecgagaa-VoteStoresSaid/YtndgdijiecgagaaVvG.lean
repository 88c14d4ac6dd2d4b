/- VoteStores: does a row begin with a ballot that may be asked? Conditions: those stated. -/
import Derived.Test.YtndgdijiecgagaaVvA
import Derived.Test.YtndgdijiecgagaaVgP
import Derived.BigQuiet
namespace Go.Proofs.Ytndgdijiecgagaa
open Go Go.RowKit
set_option linter.unusedVariables false
set_option linter.unusedSimpArgs false

theorem or_u64 {u x : Int} (h0 : 0 ≤ u) (h1 : u < 18446744073709551616) (h2 : u % 256 = 0) (x0 : 0 ≤ x) (x1 : x < 256) : bits .or .u64 u x = u + x := by
  obtain ⟨U, rfl⟩ := Int.eq_ofNat_of_zero_le h0
  obtain ⟨X, rfl⟩ := Int.eq_ofNat_of_zero_le x0
  have e1 : (BitVec.ofInt 64 (U : Int)).toNat = U := by
    rw [BitVec.toNat_ofInt]
    omega
  have e2 : (BitVec.ofInt 64 (X : Int)).toNat = X := by
    rw [BitVec.toNat_ofInt]
    omega
  show IntKind.u64.wrap ((BitVec.ofInt 64 (U : Int) ||| BitVec.ofInt 64 (X : Int)).toNat : Int) = _
  rw [BitVec.toNat_or, e1, e2]
  have e3 : U ||| X = U + X := nat_join 8 U X (by omega) (by omega)
  rw [e3, IntKind.wrap_u64]
  omega
theorem okB_len {b : List Int} (h : OkB (rdB b)) : 16 ≤ b.length := by
  rcases Nat.lt_or_ge b.length 16 with hl | hl
  · exfalso
    have h1 := h.1
    have h2 := h.2.2
    unfold rdB at h1 h2
    rcases Nat.lt_or_ge b.length 8 with h8 | h8
    · have e : rd b = 0 := if_pos h8
      rw [e] at h1
      exact absurd (show (1 : Int) ≤ 0 from h1) (by decide)
    · have e : rest b = b.drop 8 := if_neg (by omega)
      have e2 : rd (rest b) = 0 := by
        rw [e]
        exact if_pos (by rw [List.length_drop]; omega)
      rw [e2] at h2
      exact absurd (show IsMgr 0 from h2) (by decide)
  · exact hl
theorem rests2 {b : List Int} (h : 16 ≤ b.length) : rests 2 b = b.drop 16 := by
  have e : rest b = b.drop 8 := if_neg (by omega)
  have e2 : rest (rest b) = b.drop 16 := by
    rw [e]
    have : rest (b.drop 8) = (b.drop 8).drop 8 := if_neg (by rw [List.length_drop]; omega)
    rw [this, List.drop_drop]
  exact e2
theorem rdB_is {b : List Int} (h : 16 ≤ b.length) : rdB b = ⟨sg (n8 b 0), sg (n8 b 8)⟩ := by
  have e : rest b = b.drop 8 := if_neg (by omega)
  have e1 : rd b = num b := if_neg (by omega)
  have e2 : rd (rest b) = num (b.drop 8) := by rw [e]; exact if_neg (by rw [List.length_drop]; omega)
  unfold rdB
  rw [e1, e2]
  show (⟨sg (n8 b 0), sg (n8 (b.drop 8) 0)⟩ : Bl) = _
  have e3 : n8 (b.drop 8) 0 = n8 b 8 := by
    unfold n8
    simp only [drop_get]
  rw [e3]
set_option maxRecDepth 100000 in
set_option maxHeartbeats 8000000 in
theorem goodS_c (b : List Int) (a : Option Addr) (n c : Nat) (w : World) (hI : In w a n c b) (hn : n ≤ 65536) (h16 : 16 ≤ n) :
    Calls Try.prog 93 #[.slice a n c] w fun e w' => e = .returned (.bool (decide (OkB (rdB b)))) ∧ Below w.heap.size w w' := by
  have hroom := hI.room
  have HI := Lib.hid hI
  have HF := Lib.hid hI.fit
  have HRB := Lib.hid (rdB_is (b := b) (by rw [hI.len]; exact h16))
  obtain ⟨bb, oo, rfl⟩ := in_block hI (by omega)
  clear hI
  go_enter Try.func93, Try.ntmps93
  go_wp2
  go_loopw [3, 4, 5] (fun xv yv iv wr => ∃ (k : Nat) (X Y : Int), k ≤ 8 ∧ iv = .int .i64 k ∧ xv = .int .u64 X ∧ yv = .int .u64 Y ∧ Hid (X = uB b 0 k) ∧ Hid (Y = uB b 8 k) ∧ Hid (Below w.heap.size w wr)) (fun _ _ iv _ => 8 - (intOf iv).toNat)
  case atStart => exact ⟨0, 0, 0, by omega, rfl, rfl, rfl, Lib.hid rfl, Lib.hid rfl, Lib.hid (Below.refl _ _)⟩
  case round =>
    obtain ⟨k, X, Y, hk, rfl, rfl, rfl, HX, HY, HB⟩ := hrel
    obtain ⟨w3, rfl⟩ : ∃ v, v = wr := ⟨_, rfl⟩
    by_cases hlt : k < 8
    · have kk : (k : Int) < 8 := by omega
      have hI3 := HI.out.below HB.out
      have c0 := in_cell hI3 k (by omega)
      have c1 := in_cell hI3 (8 + k) (by omega)
      obtain ⟨y0, hy0⟩ : ∃ y, y = b.getD k 0 := ⟨_, rfl⟩
      obtain ⟨y1, hy1⟩ : ∃ y, y = b.getD (8 + k) 0 := ⟨_, rfl⟩
      rw [← hy0] at c0
      rw [← hy1] at c1
      have b0 := getD_fit HF.out k
      have b1 := getD_fit HF.out (8 + k)
      rw [← hy0] at b0
      rw [← hy1] at b1
      have hxs := uB_small HF.out 0 hlt
      have hys := uB_small HF.out 8 hlt
      rw [← HX.out] at hxs
      rw [← HY.out] at hys
      obtain ⟨X2, hX2⟩ : ∃ X2, X2 = X * 256 := ⟨_, rfl⟩
      obtain ⟨Y2, hY2⟩ : ∃ Y2, Y2 = Y * 256 := ⟨_, rfl⟩
      obtain ⟨X3, hX3⟩ : ∃ X3, X3 = X2 + y0 := ⟨_, rfl⟩
      obtain ⟨Y3, hY3⟩ : ∃ Y3, Y3 = Y2 + y1 := ⟨_, rfl⟩
      have m1 : X * 256 % 18446744073709551616 = X2 := by omega
      have m2 : Y * 256 % 18446744073709551616 = Y2 := by omega
      have m3 : ∀ [Inhabited Nat], IntKind.u64.wrap y0 = y0 := by intro _; exact IntWalk.u64_in _ (by omega)
      have m4 : ∀ [Inhabited Nat], IntKind.u64.wrap y1 = y1 := by intro _; exact IntWalk.u64_in _ (by omega)
      have m5 : bits .or .u64 X2 y0 = X3 := by rw [or_u64 (by omega) (by omega) (by omega) b0.1 b0.2]; exact hX3.symm
      have m6 : bits .or .u64 Y2 y1 = Y3 := by rw [or_u64 (by omega) (by omega) (by omega) b1.1 b1.2]; exact hY3.symm
      have HX3 : Hid (X3 = uB b 0 (k + 1)) := Lib.hid (by rw [hX3, hX2, HX.out, hy0]; show _ = uB b 0 k * 256 + b.getD (0 + k) 0; rw [Nat.zero_add])
      have HY3 : Hid (Y3 = uB b 8 (k + 1)) := Lib.hid (by rw [hY3, hY2, HY.out, hy1]; rfl)
      have k0 : (0 : Int) ≤ (k : Int) := by omega
      have kn : (k : Int) < (n : Int) := by omega
      have kc : (k : Int) ≤ (c : Int) := by omega
      have v8 : ∀ [Inhabited Nat], IntKind.i64.wrap (8 + (k : Int)) = 8 + (k : Int) := by intro _; exact IntWalk.i64_in _ (by omega)
      have p8 : (0 : Int) ≤ 8 + (k : Int) := by omega
      have t8 : (8 + (k : Int)).toNat = 8 + k := by omega
      have q8 : 8 + (k : Int) < (n : Int) := by omega
      have r8 : 8 + (k : Int) ≤ (c : Int) := by omega
      have s1 : ∀ [Inhabited Nat], IntKind.u64.wrap (X * 256) = X2 := by intro _; rw [IntKind.wrap_u64]; exact m1
      have s2 : ∀ [Inhabited Nat], IntKind.u64.wrap (Y * 256) = Y2 := by intro _; rw [IntKind.wrap_u64]; exact m2
      clear hI3 hy0 hy1 hX2 hY2 hX3 hY3 HX HY
      go_wp2
      go_quiet (fail)
      go_wp2
      go_roundw
      case rel => exact ⟨k + 1, X3, Y3, by omega, by go_num, rfl, rfl, HX3, HY3, Lib.hid (bl_dn HB.out _)⟩
      case measure => simp [intOf]; omega
    · have kk : ¬ (k : Int) < 8 := by omega
      obtain rfl : k = 8 := by omega
      have hxb : 0 ≤ X ∧ X < 18446744073709551616 := by
        have h1 := uB_bound HF.out 0 8
        rw [← HX.out] at h1
        have : (256 : Int) ^ 8 = 18446744073709551616 := by decide
        omega
      have hyb : 0 ≤ Y ∧ Y < 18446744073709551616 := by
        have h1 := uB_bound HF.out 8 8
        rw [← HY.out] at h1
        have : (256 : Int) ^ 8 = 18446744073709551616 := by decide
        omega
      obtain ⟨P, hP⟩ : ∃ P, P = sg X := ⟨_, rfl⟩
      obtain ⟨Q, hQ⟩ : ∃ Q, Q = sg Y := ⟨_, rfl⟩
      have m1 : ∀ [Inhabited Nat], IntKind.i64.wrap X = P := by intro _; rw [hP]; exact i64_sg hxb
      have m2 : ∀ [Inhabited Nat], IntKind.i64.wrap Y = Q := by intro _; rw [hQ]; exact i64_sg hyb
      have HPQ : Hid (rdB b = ⟨P, Q⟩) := Lib.hid (by rw [HRB.out, hP, hQ, HX.out, HY.out, uB_eight, uB_eight])
      have CG := Lib.hid (fun W => goodBallotR_c ⟨P, Q⟩ (by
        have h1 := sg_bound hxb
        have h2 := sg_bound hyb
        rw [← hP] at h1
        rw [← hQ] at h2
        exact ⟨⟨h1.1, Int.le_sub_one_of_lt h1.2⟩, ⟨h2.1, Int.le_sub_one_of_lt h2.2⟩⟩) W)
      clear hP hQ HX HY hxb hyb
      go_wp2_with fail
      refine (CG.out _).mono ?_
      rintro e w4 ⟨rfl, hb4⟩
      have HB4 := Lib.hid (bl_tr HB.out hb4)
      rw [← HPQ.out]
      clear hb4 CG
      go_wp2
      go_ret
      exact ⟨rfl, HB4.out⟩
end Go.Proofs.Ytndgdijiecgagaa
