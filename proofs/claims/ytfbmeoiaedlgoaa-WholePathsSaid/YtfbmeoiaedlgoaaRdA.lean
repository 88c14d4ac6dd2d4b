/- Contract of packet's readIP: what the first header says. Conditions: the row came in, of at least 20 bytes. -/
import Derived.Test.YtfbmeoiaedlgoaaBlD
import Derived.StillTailTactics
namespace Go.Proofs.Ytfbmeoiaedlgoaa
open Go Go.RowKit
set_option linter.unusedVariables false
set_option linter.unusedSimpArgs false

theorem At.sub {w : World} {b off n c : Nat} {l : List Int} (h : At w (.slice (some ⟨b, off, none⟩) n c) l) (hn : l.length = n) (lo hi : Nat) (h1 : lo ≤ hi) (h2 : hi ≤ n) (k c2 off2 : Nat) (hk : k = hi - lo) (ho : off2 = off + lo) : At w (.slice (some ⟨b, off2, none⟩) k c2) ((l.drop lo).take k) := by
  subst hk ho
  have hl : ((l.drop lo).take (hi - lo)).length = hi - lo := by rw [List.length_take, List.length_drop]; omega
  refine ⟨_, c2, by rw [hl], ?_⟩
  obtain ⟨a', cap', e, hA⟩ := h
  simp only [Value.slice.injEq] at e
  obtain ⟨rfl, _, rfl⟩ := e
  rcases hA with h0 | ⟨b', off', e, hc⟩
  · rw [h0]; exact .inl (by simp)
  · cases e
    refine .inr ⟨b, off + lo, rfl, fun j hj => ?_⟩
    rw [hl] at hj
    rw [Nat.add_assoc, hc (lo + j) (by omega), List.getD_eq_getElem?_getD, List.getD_eq_getElem?_getD, List.getElem?_take, if_pos hj, List.getElem?_drop]
theorem sub2 {l : List Int} {lo : Nat} (h : lo + 2 ≤ l.length) : num ((l.drop lo).take 2) = n2 l lo ∧ ((l.drop lo).take 2).length = 2 := by
  have h1 : l.drop lo = l.getD lo 0 :: l.getD (lo + 1) 0 :: l.drop (lo + 2) := by
    rw [List.drop_eq_getElem_cons (by omega), List.drop_eq_getElem_cons (by omega), List.getD_eq_getElem?_getD, List.getD_eq_getElem?_getD, List.getElem?_eq_getElem (by omega), List.getElem?_eq_getElem (by omega)]
    rfl
  rw [h1]
  refine ⟨?_, rfl⟩
  show 256 * (256 * 0 + _) + _ = _
  unfold n2
  omega
theorem sub4 {l : List Int} {lo : Nat} (h : lo + 4 ≤ l.length) : num ((l.drop lo).take 4) = n4 l lo ∧ ((l.drop lo).take 4).length = 4 := by
  have h1 : l.drop lo = l.getD lo 0 :: l.getD (lo + 1) 0 :: l.getD (lo + 2) 0 :: l.getD (lo + 3) 0 :: l.drop (lo + 4) := by
    rw [List.drop_eq_getElem_cons (by omega), List.drop_eq_getElem_cons (by omega), List.drop_eq_getElem_cons (by omega), List.drop_eq_getElem_cons (by omega), List.getD_eq_getElem?_getD, List.getD_eq_getElem?_getD, List.getD_eq_getElem?_getD, List.getD_eq_getElem?_getD, List.getElem?_eq_getElem (by omega), List.getElem?_eq_getElem (by omega), List.getElem?_eq_getElem (by omega), List.getElem?_eq_getElem (by omega)]
    rfl
  rw [h1]
  refine ⟨?_, rfl⟩
  show 256 * (256 * (256 * (256 * 0 + _) + _) + _) + _ = _
  unfold n4
  omega
theorem fit_sub {l : List Int} (h : fit l) (lo k : Nat) : fit ((l.drop lo).take k) := fun x hx => h x (List.mem_of_mem_drop (List.mem_of_mem_take hx))
/-- A number of two, of four bytes in a row. -/
theorem number2 {w : World} {b off n c : Nat} {l : List Int} (h : At w (.slice (some ⟨b, off, none⟩) n c) l) (hn : l.length = n) (hf : fit l) (lo c2 off2 : Nat) (h2 : lo + 2 ≤ n) (ho : off2 = off + lo) : Calls Try.prog 51 #[.slice (some ⟨b, off2, none⟩) 2 c2] w fun e w' => e = .returned (.int .i64 (n2 l lo)) ∧ w' = w := by
  have s := sub2 (l := l) (lo := lo) (by omega)
  have H := number_any _ _ 2 c2 w (h.sub hn lo (lo + 2) (by omega) h2 2 c2 off2 (by omega) ho) s.2 (fit_sub hf _ _) (by omega)
  rw [s.1] at H
  exact H.mono fun _ _ ⟨h1, h2⟩ => ⟨h1, h2.symm⟩
theorem number4 {w : World} {b off n c : Nat} {l : List Int} (h : At w (.slice (some ⟨b, off, none⟩) n c) l) (hn : l.length = n) (hf : fit l) (lo c2 off2 : Nat) (h2 : lo + 4 ≤ n) (ho : off2 = off + lo) : Calls Try.prog 51 #[.slice (some ⟨b, off2, none⟩) 4 c2] w fun e w' => e = .returned (.int .i64 (n4 l lo)) ∧ w' = w := by
  have s := sub4 (l := l) (lo := lo) (by omega)
  have H := number_any _ _ 4 c2 w (h.sub hn lo (lo + 4) (by omega) h2 4 c2 off2 (by omega) ho) s.2 (fit_sub hf _ _) (by omega)
  rw [s.1] at H
  exact H.mono fun _ _ ⟨h1, h2⟩ => ⟨h1, h2.symm⟩
theorem n4_fit {b : List Int} (hf : fit b) (i : Nat) : 0 ≤ n4 b i ∧ n4 b i < 4294967296 := by
  have := getD_fit hf i; have := getD_fit hf (i + 1); have := getD_fit hf (i + 2); have := getD_fit hf (i + 3)
  unfold n4
  omega
/-- What the first header says. -/
abbrev ipv (l : List Int) : Value := .agg #[.int .i64 (l.getD 1 0), .int .i64 (n2 l 4), .int .i64 (l.getD 8 0), .int .i64 (l.getD 9 0), .int .u32 (n4 l 12), .int .i64 0, .int .u32 (n4 l 16), .int .i64 0, .int .u32 0, .int .u32 0, .int .i64 0, .int .i64 0, .slice none 0 0]

set_option maxRecDepth 100000 in
set_option maxHeartbeats 1000000 in
theorem readIP_any (l : List Int) (b off n c : Nat) (w : World) (hI : In w (some ⟨b, off, none⟩) n c l) (h20 : 20 ≤ n) (hn : n ≤ 4611686018427387904) :
    Calls Try.prog 49 #[.slice (some ⟨b, off, none⟩) n c] w fun e w' => e = .returned (ipv l) ∧ Below w.heap.size w w' := by
  obtain ⟨W, hW⟩ : ∃ W, W = w.alloc (.cells #[.int .i64 0, .int .i64 0, .int .i64 0, .int .i64 0, .int .u32 0, .int .i64 0, .int .u32 0, .int .i64 0, .int .u32 0, .int .u32 0, .int .i64 0, .int .i64 0, .slice none 0 0] 49) := ⟨_, rfl⟩
  have hB : Below w.heap.size w W := by rw [hW]; exact bl_al (Below.refl _ _) _
  have HB := Lib.hid hB
  have HI := Lib.hid (hI.below hB)
  have hcap := hI.room
  have hcells : ∀ j, j < n → W.cell? ⟨b, off + j, none⟩ = some (.int .u8 (l.getD j 0)) := by
    obtain ⟨a', cap', e, hA⟩ := HI.out.here
    simp only [Value.slice.injEq] at e
    obtain ⟨rfl, _, rfl⟩ := e
    rcases hA with h0 | ⟨b', off', e, hc⟩
    · have := hI.len; rw [h0] at this; simp at this; omega
    · cases e
      intro j hj
      exact hc j (by rw [hI.len]; exact hj)
  have c1 := hcells 1 (by omega)
  have c8 := hcells 8 (by omega)
  have c9 := hcells 9 (by omega)
  have b1 := getD_fit hI.fit 1
  have b8 := getD_fit hI.fit 8
  have b9 := getD_fit hI.fit 9
  have b12 := n4_fit hI.fit 12
  have b16 := n4_fit hI.fit 16
  have k12 : IntKind.u32.wrap (n4 l 12) = n4 l 12 := by rw [IntKind.wrap_u32']; omega
  have k16 : IntKind.u32.wrap (n4 l 16) = n4 l 16 := by rw [IntKind.wrap_u32']; omega
  obtain ⟨x1, hx1⟩ : ∃ x, x = l.getD 1 0 := ⟨_, rfl⟩
  obtain ⟨x8, hx8⟩ : ∃ x, x = l.getD 8 0 := ⟨_, rfl⟩
  obtain ⟨x9, hx9⟩ : ∃ x, x = l.getD 9 0 := ⟨_, rfl⟩
  rw [← hx1] at c1 b1
  rw [← hx8] at c8 b8
  rw [← hx9] at c9 b9
  have N4 := Lib.hid (fun (c2 : Nat) (X : World) (h : At X (.slice (some ⟨b, off, none⟩) n c) l) => number2 h hI.len hI.fit 4 c2 (off + 4) (by omega) rfl)
  have N12 := Lib.hid (fun (c2 : Nat) (X : World) (h : At X (.slice (some ⟨b, off, none⟩) n c) l) => number4 h hI.len hI.fit 12 c2 (off + 12) (by omega) rfl)
  have N16 := Lib.hid (fun (c2 : Nat) (X : World) (h : At X (.slice (some ⟨b, off, none⟩) n c) l) => number4 h hI.len hI.fit 16 c2 (off + 16) (by omega) rfl)
  obtain ⟨y4, hy4⟩ : ∃ y, y = n2 l 4 := ⟨_, rfl⟩
  obtain ⟨y12, hy12⟩ : ∃ y, y = n4 l 12 := ⟨_, rfl⟩
  obtain ⟨y16, hy16⟩ : ∃ y, y = n4 l 16 := ⟨_, rfl⟩
  rw [← hy4] at N4
  rw [← hy12] at N12 k12 b12
  rw [← hy16] at N16 k16 b16
  obtain ⟨v, hv⟩ : ∃ v, v = ipv l := ⟨_, rfl⟩
  rw [← hv]
  unfold ipv at hv
  rw [← hx1, ← hx8, ← hx9, ← hy4, ← hy12, ← hy16] at hv
  have HV := Lib.hid hv
  have hbW : b < W.heap.size := World.block_lt_of_cell? _ _ c1
  have HW := Lib.hid hW.symm
  obtain ⟨b1a, b1b⟩ := b1
  obtain ⟨b8a, b8b⟩ := b8
  obtain ⟨b9a, b9b⟩ := b9
  have HC := Lib.hid hcells
  clear hx1 hx8 hx9 hy4 hy12 hy16 hv hI hB hcells hW
  have i1 : (1 : Int) < (n : Int) := by omega
  have i8 : (8 : Int) < (n : Int) := by omega
  have i9 : (9 : Int) < (n : Int) := by omega
  have j6 : (6 : Int) ≤ (c : Int) := by omega
  have j16 : (16 : Int) ≤ (c : Int) := by omega
  have j20 : (20 : Int) ≤ (c : Int) := by omega
  have d4 : ¬ c = 4 := by omega
  have d12 : ¬ c = 12 := by omega
  have d16 : ¬ c = 16 := by omega
  have v1 : IntKind.i64.wrap x1 = x1 := IntWalk.i64_in _ (by omega)
  have v8 : IntKind.i64.wrap x8 = x8 := IntWalk.i64_in _ (by omega)
  have v9 : IntKind.i64.wrap x9 = x9 := IntWalk.i64_in _ (by omega)
  have HAD : Hid (At W.drew (.slice (some ⟨b, off, none⟩) n c) l) := Lib.hid HI.out.here
  go_enter Try.func49, Try.ntmps49
  go_wp2
  rw [HW.out]
  go_still_tail 25, (by kernel_rfl)
  still_call (N4.out _ _ HAD.out)
  repeat still_step
  still_call (N12.out _ _ HAD.out)
  repeat still_step
  still_call (N16.out _ _ HAD.out)
  repeat still_step
  refine wpStill_nil ?_
  change wpList _ _ _ _ _ W.drew
  rw [← HW.out]
  go_wp2
  refine bodyPost_ret (v := .agg #[.int .i64 x1, .int .i64 y4, .int .i64 x8, .int .i64 x9, .int .u32 y12, .int .i64 0, .int .u32 y16, .int .i64 0, .int .u32 0, .int .u32 0, .int .i64 0, .int .i64 0, .slice none 0 0]) (by simp [results, Try.results49, go_sem]) rfl ⟨by rw [HV.out], ?_⟩
  exact (bl_al (Below.refl _ _) _).drew
end Go.Proofs.Ytfbmeoiaedlgoaa
