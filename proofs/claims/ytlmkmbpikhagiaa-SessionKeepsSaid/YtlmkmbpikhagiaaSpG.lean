/- session.read, and what a speaker receives.
 Conditions: those stated. -/
import Derived.Test.YtlmkmbpikhagiaaSpF
namespace Go.Proofs.Ytlmkmbpikhagiaa
open Go Go.RowKit Go.Lib
set_option linter.unusedVariables false
set_option linter.unusedSimpArgs false

/-- A word in form. -/
def OkR (m : Mg) : Prop := 0 < m.nums.length ∧ (m.nums.length ≤ 1 ∨ m.kind = 12) ∧ IsTm (m.nums.getD 0 0) ∧ VipsN (m.nums.drop 1)
instance (m : Mg) : Decidable (OkR m) := by unfold OkR; infer_instance
/-- What read answers. -/
def RdO (w : World) (m : Mg) (e : Ending) (w' : World) : Prop :=
  Below w.heap.size w w' ∧ ((OkR m ∧ ∃ a c, e = .returned (.tuple #[.int .i64 (m.nums.getD 0 0), .slice a (m.nums.drop 1).length c, .bool true]) ∧ w'.ownsRow w.heap.size 44 1 (.slice a (m.nums.drop 1).length c) (m.nums.drop 1).length (a32s (m.nums.drop 1))) ∨ (¬ OkR m ∧ e = .returned (.tuple #[.int .i64 0, .slice none 0 0, .bool false])))
theorem inI_tail {w : World} {b off n c : Nat} {l : List Int} (h : InI w (some ⟨b, off, none⟩) n c l) (hn : 1 ≤ n) (hc : c ≠ 1) : InI w (some ⟨b, off + 1, none⟩) (n - 1) (c - 1) (l.drop 1) :=
  ⟨by rw [List.length_drop, h.len], by have := h.room; omega, (fun e => by cases e), (by
    have := h.here.sub h.len 1 n hn (Nat.le_refl _) (n - 1) (c - 1) (off + 1) rfl rfl
    rwa [List.take_of_length_le (by rw [List.length_drop, h.len]; omega)] at this), fun x hx => h.fit x (List.mem_of_mem_drop hx)⟩
theorem inI_tail1 {w : World} {b off n c : Nat} {l : List Int} (h : InI w (some ⟨b, off, none⟩) n c l) (hn : 1 ≤ n) (hc : c = 1) : InI w (some ⟨b, off, none⟩) (n - 1) (c - 1) (l.drop 1) := by
  have h1 : n = 1 := by have := h.room; omega
  have h2 : l.drop 1 = [] := List.drop_eq_nil_of_le (by rw [h.len]; omega)
  rw [h2, h1, hc]
  exact ⟨rfl, Nat.le_refl _, (fun e => by cases e), AtI.nil _ _ _, fun x hx => by cases hx⟩
set_option maxRecDepth 100000 in
set_option maxHeartbeats 2000000 in
theorem read_c (m : Mg) (a : Option Addr) (n c : Nat) (b : Option Addr) (k d : Nat) (w : World) (hI : InI w a n c m.nums) (hn : n ≤ 4611686018427387904) :
    Calls Try.prog 40 #[mval m.kind a n c b k d] w (RdO w m) := by
  obtain ⟨W, hW⟩ : ∃ W, w.alloc (mobj m.kind a n c b k d) = W := ⟨_, rfl⟩
  have hat : MAt W w.heap.size m.kind a n c b k d := by rw [← hW]; exact MAt.new _ _ _ _ _ _ _ _
  have HBW := Lib.hid (show Below w.heap.size w W by rw [← hW]; exact bl_al (Below.refl _ _) _)
  have HI := Lib.hid (hI.below HBW.out)
  have HLEN := Lib.hid hI.len
  obtain ⟨q, hq⟩ : ∃ q, q = w.heap.size := ⟨_, rfl⟩
  rw [← hq] at hat
  obtain ⟨e0, e1, e2⟩ := hat
  have HW := Lib.hid hW
  have HQ := Lib.hid hq
  obtain ⟨kind, hkk⟩ : ∃ x, x = m.kind := ⟨_, rfl⟩
  have HK := Lib.hid hkk
  rw [← hkk] at e0 HW ⊢
  clear hW hq hI hkk
  by_cases hn0 : n = 0
  · have hnz : ((n : Int) == 0) = true := by simp [hn0]
    have HF := Lib.hid (show ¬ OkR m from fun h => by have := h.1; rw [HLEN.out] at this; omega)
    clear hn0
    go_enter Try.func40, Try.ntmps40
    go_upto_region 1 with fail
    rw [HW.out, ← HQ.out]
    go_wp2
    go_ret3
    exact ⟨HBW.out, .inr ⟨HF.out, rfl⟩⟩
  · have hnz : ((n : Int) == 0) = false := by simp; omega
    obtain ⟨b1, o1, rfl⟩ := in_blockI HI.out (by omega)
    have c0 := in_cellI HI.out 0 (by omega)
    obtain ⟨x, hx⟩ : ∃ x, x = m.nums.getD 0 0 := ⟨_, rfl⟩
    rw [← hx, Nat.add_zero] at c0
    have HX := Lib.hid hx
    have CT := Lib.hid (time_c x)
    have hnn : 0 < n := by omega
    have hni : (0 : Int) < (n : Int) := by omega
    clear hx hn0
    by_cases hc1 : c = 1
    · subst hc1
      obtain rfl : n = 1 := by have := HI.out.room; omega
      clear hnz hnn hni
      have HCOND := Lib.hid (show m.nums.length ≤ 1 ∨ m.kind = 12 from .inl (Nat.le_of_eq HLEN.out))
      by_cases ht : IsTm x
      · rw [decide_eq_true ht] at CT
        have CR := Lib.hid (readVips_c (m.nums.drop 1) (some ⟨b1, o1, none⟩) 0 0 W (inI_tail1 HI.out (by omega) rfl) (by omega))
        have HC := Lib.hid (fun hv : VipsN (m.nums.drop 1) => (show OkR m from ⟨by rw [HLEN.out]; omega, HCOND.out, by rw [← HX.out]; exact ht, hv⟩))
        have HNC := Lib.hid (fun hv : ¬ VipsN (m.nums.drop 1) => fun h : OkR m => hv h.2.2.2)
        clear ht
        go_enter Try.func40, Try.ntmps40
        go_upto_region 1 with fail
        rw [HW.out, ← HQ.out]
        go_wp2_with (first | (go_at_call 34; refine (CT.out _).mono ?_; rintro e w1 ⟨rfl, rfl⟩) | fail)
        refine CR.out.mono ?_
        rintro e w2 ⟨hb2, ⟨hv, a2, c2, rfl, ho2⟩ | ⟨hv, rfl⟩⟩
        · have HB2 := Lib.hid (bl_tr HBW.out hb2)
          have HO2 := Lib.hid (own_base ho2 HBW.out.size)
          have HOK := Lib.hid (HC.out hv)
          have e1' : w2.cell? ⟨q, 1, none⟩ = some (.slice (some ⟨b1, o1, none⟩) 1 1) := (hb2.cell (p := ⟨q, 1, none⟩) (block_lt_of_cell e1)).trans e1
          have c0' : w2.cell? ⟨b1, o1, none⟩ = some (.int .i64 x) := (hb2.cell (p := ⟨b1, o1, none⟩) (block_lt_of_cell c0)).trans c0
          clear hb2 ho2 hv CR HC HNC e0 e1 e2 c0
          go_wp2
          go_ret3
          refine ⟨HB2.out, .inl ⟨HOK.out, a2, c2, ?_, HO2.out⟩⟩
          rw [← HX.out]
          rw [List.length_drop]
          rfl
        · have HB2 := Lib.hid (bl_tr HBW.out hb2)
          have HF := Lib.hid (HNC.out hv)
          clear hb2 hv CR HC HNC
          go_wp2
          go_ret3
          exact ⟨HB2.out, .inr ⟨HF.out, rfl⟩⟩
      · rw [decide_eq_false ht] at CT
        have HF := Lib.hid (show ¬ OkR m from fun h => ht (by rw [HX.out]; exact h.2.2.1))
        clear ht
        go_enter Try.func40, Try.ntmps40
        go_upto_region 1 with fail
        rw [HW.out, ← HQ.out]
        go_wp2_with (go_at_call 34; refine (CT.out _).mono ?_; rintro e w1 ⟨rfl, rfl⟩)
        go_ret3
        exact ⟨HBW.out, .inr ⟨HF.out, rfl⟩⟩
    · by_cases hn1 : 1 < n
      · have hn1z : (1 : Int) < (n : Int) := by omega
        by_cases hk : kind = 12
        · have hkz : (kind != 12) = false := by simp [hk]
          have HCOND := Lib.hid (show m.nums.length ≤ 1 ∨ m.kind = 12 from .inr (by rw [← HK.out]; exact hk))
          clear hk
          by_cases ht : IsTm x
          · rw [decide_eq_true ht] at CT
            have CR := Lib.hid (readVips_c (m.nums.drop 1) (some ⟨b1, o1 + 1, none⟩) (n - 1) (c - 1) W (inI_tail HI.out hnn hc1) (by omega))
            have HC := Lib.hid (fun hv : VipsN (m.nums.drop 1) => (show OkR m from ⟨by rw [HLEN.out]; omega, HCOND.out, by rw [← HX.out]; exact ht, hv⟩))
            have HNC := Lib.hid (fun hv : ¬ VipsN (m.nums.drop 1) => fun h : OkR m => hv h.2.2.2)
            have hcc : (1 : Int) ≤ (c : Int) := by have := HI.out.room; omega
            have hcn : (1 : Int) ≤ (n : Int) := by omega
            clear ht
            go_enter Try.func40, Try.ntmps40
            go_upto_region 1 with fail
            rw [HW.out, ← HQ.out]
            go_wp2_with (first | (go_at_call 34; refine (CT.out _).mono ?_; rintro e w1 ⟨rfl, rfl⟩) | fail)
            refine CR.out.mono ?_
            rintro e w2 ⟨hb2, ⟨hv, a2, c2, rfl, ho2⟩ | ⟨hv, rfl⟩⟩
            · have HB2 := Lib.hid (bl_tr HBW.out hb2)
              have HO2 := Lib.hid (own_base ho2 HBW.out.size)
              have HOK := Lib.hid (HC.out hv)
              have e1' : w2.cell? ⟨q, 1, none⟩ = some (.slice (some ⟨b1, o1, none⟩) n c) := (hb2.cell (p := ⟨q, 1, none⟩) (block_lt_of_cell e1)).trans e1
              have c0' : w2.cell? ⟨b1, o1, none⟩ = some (.int .i64 x) := (hb2.cell (p := ⟨b1, o1, none⟩) (block_lt_of_cell c0)).trans c0
              clear hb2 ho2 hv CR HC HNC e0 e1 e2 c0
              go_wp2
              go_ret3
              refine ⟨HB2.out, .inl ⟨HOK.out, a2, c2, ?_, HO2.out⟩⟩
              rw [← HX.out]
              rw [List.length_drop]
              rfl
            · have HB2 := Lib.hid (bl_tr HBW.out hb2)
              have HF := Lib.hid (HNC.out hv)
              clear hb2 hv CR HC HNC
              go_wp2
              go_ret3
              exact ⟨HB2.out, .inr ⟨HF.out, rfl⟩⟩
          · rw [decide_eq_false ht] at CT
            have HF := Lib.hid (show ¬ OkR m from fun h => ht (by rw [HX.out]; exact h.2.2.1))
            clear ht
            go_enter Try.func40, Try.ntmps40
            go_upto_region 1 with fail
            rw [HW.out, ← HQ.out]
            go_wp2_with (go_at_call 34; refine (CT.out _).mono ?_; rintro e w1 ⟨rfl, rfl⟩)
            go_ret3
            exact ⟨HBW.out, .inr ⟨HF.out, rfl⟩⟩
        · have hkz : (kind != 12) = true := by simpa using hk
          have HF := Lib.hid (show ¬ OkR m from fun h => by
            rcases h.2.1 with h1 | h1
            · rw [HLEN.out] at h1; omega
            · exact hk (by rw [HK.out]; exact h1))
          clear hk
          go_enter Try.func40, Try.ntmps40
          go_upto_region 1 with fail
          rw [HW.out, ← HQ.out]
          go_wp2
          go_ret3
          exact ⟨HBW.out, .inr ⟨HF.out, rfl⟩⟩
      · have hn1z : ¬ (1 : Int) < (n : Int) := by omega
        have HCOND := Lib.hid (show m.nums.length ≤ 1 ∨ m.kind = 12 from .inl (by rw [HLEN.out]; omega))
        by_cases ht : IsTm x
        · rw [decide_eq_true ht] at CT
          have CR := Lib.hid (readVips_c (m.nums.drop 1) (some ⟨b1, o1 + 1, none⟩) (n - 1) (c - 1) W (inI_tail HI.out hnn hc1) (by omega))
          have HC := Lib.hid (fun hv : VipsN (m.nums.drop 1) => (show OkR m from ⟨by rw [HLEN.out]; omega, HCOND.out, by rw [← HX.out]; exact ht, hv⟩))
          have HNC := Lib.hid (fun hv : ¬ VipsN (m.nums.drop 1) => fun h : OkR m => hv h.2.2.2)
          have hcc : (1 : Int) ≤ (c : Int) := by have := HI.out.room; omega
          have hcn : (1 : Int) ≤ (n : Int) := by omega
          clear ht
          go_enter Try.func40, Try.ntmps40
          go_upto_region 1 with fail
          rw [HW.out, ← HQ.out]
          go_wp2_with (first | (go_at_call 34; refine (CT.out _).mono ?_; rintro e w1 ⟨rfl, rfl⟩) | fail)
          refine CR.out.mono ?_
          rintro e w2 ⟨hb2, ⟨hv, a2, c2, rfl, ho2⟩ | ⟨hv, rfl⟩⟩
          · have HB2 := Lib.hid (bl_tr HBW.out hb2)
            have HO2 := Lib.hid (own_base ho2 HBW.out.size)
            have HOK := Lib.hid (HC.out hv)
            have e1' : w2.cell? ⟨q, 1, none⟩ = some (.slice (some ⟨b1, o1, none⟩) n c) := (hb2.cell (p := ⟨q, 1, none⟩) (block_lt_of_cell e1)).trans e1
            have c0' : w2.cell? ⟨b1, o1, none⟩ = some (.int .i64 x) := (hb2.cell (p := ⟨b1, o1, none⟩) (block_lt_of_cell c0)).trans c0
            clear hb2 ho2 hv CR HC HNC e0 e1 e2 c0
            go_wp2
            go_ret3
            refine ⟨HB2.out, .inl ⟨HOK.out, a2, c2, ?_, HO2.out⟩⟩
            rw [← HX.out]
            rw [List.length_drop]
            rfl
          · have HB2 := Lib.hid (bl_tr HBW.out hb2)
            have HF := Lib.hid (HNC.out hv)
            clear hb2 hv CR HC HNC
            go_wp2
            go_ret3
            exact ⟨HB2.out, .inr ⟨HF.out, rfl⟩⟩
        · rw [decide_eq_false ht] at CT
          have HF := Lib.hid (show ¬ OkR m from fun h => ht (by rw [HX.out]; exact h.2.2.1))
          clear ht
          go_enter Try.func40, Try.ntmps40
          go_upto_region 1 with fail
          rw [HW.out, ← HQ.out]
          go_wp2_with (go_at_call 34; refine (CT.out _).mono ?_; rintro e w1 ⟨rfl, rfl⟩)
          go_ret3
          exact ⟨HBW.out, .inr ⟨HF.out, rfl⟩⟩
end Go.Proofs.Ytlmkmbpikhagiaa
