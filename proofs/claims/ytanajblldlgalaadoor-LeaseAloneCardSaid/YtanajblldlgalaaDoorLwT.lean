/- math/bits.TrailingZeros64, the first block that isn't lent. Condition: the library's table lies as its text lays it. -/
import Derived.Test.YtanajblldlgalaaDoorLwP
import Derived.Test.YtanajblldlgalaaDoorLdF
import Derived.Laws.Bits64b
import Derived.Laws.Rows
import Derived.Laws.Tables
import Derived.Deep.WholeRow
namespace Go.Proofs.YtanajblldlgalaaDoor
open Go Go.RowKit
set_option linter.unusedVariables false
set_option linter.unusedSimpArgs false

/-- The table lies in its variable. -/
def Good (w : World) : Prop := ∀ j, j < Lib.deBruijn64tab.length → w.cell? ⟨0, j, none⟩ = some (.int .u8 (Lib.deBruijn64tab.getD j 0))
theorem Good.later {w w' : World} (h : Good w) (hb : Below w.heap.size w w') : Good w' := fun j hj => (hb.cell (p := ⟨0, j, none⟩) (block_lt_of_cell (h j hj))).trans (h j hj)
theorem Good.drewN {w : World} (h : Good w) (n : Nat) : Good (w.drewN n) := h
set_option maxHeartbeats 1000000 in
theorem tz_core (x k idx : Nat) (w : World) (hx0 : ((x : Int) == 0) = false)
    (key : IntKind.u64.wrap (bits BinOp.and IntKind.u64 (x : Int) (IntKind.u64.wrap (-(x : Int))) * 285870213051353865) / 288230376151711744 = (idx : Int))
    (hi : idx < 64) (hk : k < 64) (hcell : w.cell? ⟨0, idx, none⟩ = some (.int .u8 k)) :
    Calls Tryd.prog 54 #[.int .u64 x] w fun e w' => e = .returned (.int .i64 k) ∧ w = w' := by
  go_enter Tryd.func54, Tryd.ntmps54
  go_wp2_with (simp only [key])
  go_ret
  exact ⟨rfl, rfl⟩
theorem tz_zero (w : World) : Calls Tryd.prog 54 #[.int .u64 0] w fun e w' => e = .returned (.int .i64 64) ∧ w = w' := by
  go_enter Tryd.func54, Tryd.ntmps54
  go_wp2
  go_ret
  exact ⟨rfl, rfl⟩
theorem tz_key (x a : Nat) (hx : x < 18446744073709551616) (hx0 : x ≠ 0) (hlow : x &&& (18446744073709551616 - x) = a) :
    IntKind.u64.wrap (bits BinOp.and IntKind.u64 (x : Int) (IntKind.u64.wrap (-(x : Int))) * 285870213051353865) / 288230376151711744 = ((a * 285870213051353865 % 18446744073709551616 / 288230376151711744 : Nat) : Int) := by
  have e1 : IntKind.u64.wrap (-(x : Int)) = ((18446744073709551616 - x : Nat) : Int) := by rw [IntKind.wrap_u64]; omega
  rw [e1, bits_and_u64_nat x _ hx (by omega), hlow, IntKind.wrap_u64]
  omega
theorem tz_c (x : Nat) (hx : x < 18446744073709551616) (w : World) (hg : Good w) :
    Calls Tryd.prog 54 #[.int .u64 x] w fun e w' => e = .returned (.int .i64 (Lib.ctz 64 x)) ∧ w = w' := by
  by_cases hx0 : x = 0
  · subst hx0
    exact tz_zero w
  · obtain ⟨hlow, hk⟩ := Lib.lowest_bit 64 x hx0 hx
    obtain ⟨hi, htab⟩ := Lib.deBruijn64_at _ hk
    have hcell := hg _ hi
    rw [htab] at hcell
    exact tz_core x _ _ w (by simp; omega) (tz_key x _ hx hx0 hlow) hi hk hcell
theorem index_arr (C : Array Value) (i : Nat) (v : Value) (w : World) (hC : C.size = 126) (hi : i < 126) (hv : C[i]? = some v) : (Instr.index 62 (.agg C) (.int .i64 i)).run Tryd.prog w = .ok v w := by
  have h0 : (0 : Int) ≤ (i : Int) := by omega
  have h1 : (i : Int) < 126 := by omega
  simp [Instr.index, run_underlying Tryd.underlying62, asIntOf, h1, hi, hv, go_sem]
def frR (o : Option Nat) : Value := .tuple #[.int .i64 (match o with | some k => 1024 + 8 * (k : Int) | none => 0), .bool o.isSome]
theorem flip64 (n : Nat) (h : n < 18446744073709551616) : bits .xor .u64 IntKind.u64.max (n : Int) = ((18446744073709551615 - n : Nat) : Int) := by
  rw [show IntKind.u64.max = ((18446744073709551615 : Nat) : Int) from by decide, bits_xor_u64_nat _ _ (by decide) h]
  congr 1
  exact xor_ones 64 n h
theorem infoA : (Tryd.prog.info? 62).map (·.size) = some 126 := by kernel_rfl
set_option maxRecDepth 100000 in
set_option maxHeartbeats 4000000 in
theorem free_c (W : List Nat) (w : World) (hW : FitW W) (hg : Good w) :
    Calls Tryd.prog 31 #[.agg (u64N W).toArray] w fun e w' => e = .returned (frR (freeW W)) ∧ Below w.heap.size w w' := by
  have hAs : (u64N W).toArray.size = 126 := by rw [List.size_toArray, u64N_len, hW.1]
  have hAt : ∀ j, j < 126 → (u64N W).toArray[j]? = some (.int .u64 (W.getD j 0 : Nat)) := fun j hj => by rw [List.getElem?_toArray]; exact u64N_at (by rw [hW.1]; exact hj)
  obtain ⟨A, hA⟩ : ∃ A, A = (u64N W).toArray := ⟨_, rfl⟩
  rw [← hA] at hAs hAt ⊢
  have HAT := Lib.hid hAt
  have HAS := Lib.hid hAs
  have HF := Lib.hid hW
  have hbg := heap_alloc_new w (.cells A 62)
  obtain ⟨w1, hw1⟩ : ∃ w1, w1 = w.alloc (.cells A 62) := ⟨_, rfl⟩
  have HB1 : Hid (Below w.heap.size w w1) := Lib.hid (by rw [hw1]; exact bl_al (Below.refl _ _) _)
  have HG1 : Hid (Good w1) := Lib.hid (hg.later HB1.out)
  rw [← hw1] at hbg
  have HBG := Lib.hid hbg
  have HW1 := Lib.hid hw1
  have P0 : Hid (∀ k, k < 64 * 0 → lentW W k = true) := Lib.hid (fun k hk => absurd hk (Nat.not_lt_zero _))
  have HIA := Lib.hid infoA
  clear hW hg hAt hA hw1 hbg hAs
  go_enter Tryd.func31, Tryd.ntmps31
  go_upto_region 1 with fail
  rw [← HW1.out]
  go_wp2_with (first | (refine wpList_load_row rfl 62 _ rfl w.heap.size rfl 62 A (0, 0) _ HBG.out Tryd.underlying62 rfl (by rw [HAS.out]; exact HIA.out) ?_) | fail)
  go_loopw [8] (fun iv wr => ∃ i : Nat, i ≤ 126 ∧ iv = .int .i64 i ∧ Hid (∀ k, k < 64 * i → lentW W k = true) ∧ wr = w1) (fun iv _ => 126 - (intOf iv).toNat)
  case atStart => exact ⟨0, by omega, rfl, P0, rfl⟩
  case round =>
    obtain ⟨i, hi, rfl, HP, rfl⟩ := hrel
    clear P0
    by_cases hlt : i < 126
    · have ii : (i : Int) < 126 := by omega
      have i0 : (0 : Int) ≤ (i : Int) := by omega
      have hx := HF.out.at hlt
      have hidx := fun W2 => index_arr A i _ W2 HAS.out hlt (HAT.out i hlt)
      have H1 := Lib.hid (freeW_some HF.out hlt HP.out)
      have H2 := Lib.hid (freeW_more HF.out hlt HP.out)
      obtain ⟨n, hn⟩ : ∃ n, n = W.getD i 0 := ⟨_, rfl⟩
      rw [← hn] at hx hidx H1 H2
      have hnx := flip64 n hx
      obtain ⟨y, hy⟩ : ∃ y, y = 18446744073709551615 - n := ⟨_, rfl⟩
      rw [← hy] at hnx H1 H2
      have CZ := Lib.hid (tz_c y (by omega) wr HG1.out)
      clear hn hy hx
      go_wp2_with fail
      refine CZ.out.mono ?_
      rintro e w9 ⟨rfl, rfl⟩
      clear CZ hidx hnx
      by_cases y0 : y = 0
      · have HP2 := Lib.hid (H2.out y0)
        have ec : Lib.ctz 64 y = 64 := by rw [y0]; rfl
        rw [ec]
        clear ec y0 H1 H2 HP
        go_wp2
        go_roundw
        case rel => exact ⟨i + 1, by omega, by go_num, HP2, trivial⟩
        case measure => simp [intOf]; omega
      · obtain ⟨h1, h2⟩ := H1.out y0
        obtain ⟨c, hc⟩ : ∃ c, c = Lib.ctz 64 y := ⟨_, rfl⟩
        rw [← hc] at h1 h2 ⊢
        have HE := Lib.hid h2
        have c0 : (0 : Int) ≤ (c : Int) := by omega
        have c1 : (c : Int) < 64 := by omega
        clear h2 hc y0 H1 H2 HP
        go_wp2
        go_ret2
        refine ⟨?_, HB1.out⟩
        rw [HE.out]
        have e2 : (1024 : Int) + ((i : Int) * 64 + (c : Int)) * 8 = 1024 + 8 * ((i * 64 + c : Nat) : Int) := by omega
        show Ending.returned (.tuple #[.int .i64 ((1024 : Int) + ((i : Int) * 64 + (c : Int)) * 8), .bool true]) = _
        rw [e2]
        rfl
    · have ii : ¬ (i : Int) < 126 := by omega
      obtain rfl : i = 126 := by omega
      have HE := Lib.hid (freeW_none HP.out)
      go_wp2
      go_ret2
      exact ⟨by rw [HE.out]; rfl, HB1.out⟩
end Go.Proofs.YtanajblldlgalaaDoor
