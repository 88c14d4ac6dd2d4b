/- Contract of codec.read. Conditions: the row came in, of at most 2^20 bytes. -/
import Derived.Test.YtbfcgnggcgodhaaCdR
import Derived.Test.YtbfcgnggcgodhaaQStep
import Derived.Deep.RegionHeld3
namespace Go.Proofs.Ytbfcgnggcgodhaa
open Go Go.RowKit
set_option linter.unusedVariables false
set_option linter.unusedSimpArgs false

/-- What read answers. -/
def GotR (w : World) (l : List Int) (e : Ending) (w' : World) : Prop :=
  (13 + 8 * cnt l ≤ l.length ∧ ∃ a cc ad k d, e = .returned (.tuple #[mval (decM l).kind a (cnt l) cc (some ad) k d, .bool true]) ∧ w'.ownsRow w.heap.size 3 1 (.slice a (cnt l) cc) (cnt l) (i64s (decM l).nums) ∧ In w' (some ad) k d (decM l).data ∧ Below w.heap.size w w') ∨
  (l.length < 13 + 8 * cnt l ∧ e = .returned (.tuple #[mval 0 none 0 0 none 0 0, .bool false]) ∧ Below w.heap.size w w')
theorem in_drop {w : World} {b off n c : Nat} {l : List Int} (h : In w (some ⟨b, off, none⟩) n c l) (k o5 : Nat) (hk : k ≤ n) (ho : c = k ∧ o5 = off ∨ c ≠ k ∧ o5 = off + k) : In w (some ⟨b, o5, none⟩) (n - k) (c - k) (l.drop k) := by
  have hr := h.room
  have hf : fit (l.drop k) := fun x hx => h.fit x (List.mem_of_mem_drop hx)
  have hl : (l.drop k).length = n - k := by rw [List.length_drop, h.len]
  rcases ho with ⟨rfl, rfl⟩ | ⟨_, rfl⟩
  · have hn : n = c := by omega
    subst hn
    have e : l.drop n = [] := List.drop_of_length_le (by rw [h.len]; exact Nat.le_refl _)
    rw [e] at hl ⊢
    rw [Nat.sub_self]
    exact ⟨rfl, Nat.le_refl _, (fun e => by cases e), At.nil _ _ _, by intro x hx; cases hx⟩
  · refine ⟨hl, by omega, (fun e => by cases e), ?_, hf⟩
    have hs := h.here.sub h.len k n hk (Nat.le_refl _) (n - k) (c - k) (off + k) rfl rfl
    rwa [List.take_of_length_le (by omega)] at hs
theorem rns_drop (l : List Int) (k : Nat) : rns (l.drop 5) k = (List.range k).map (rdn l) := by
  unfold rns
  congr 1
  funext i
  unfold rdn n8
  simp only [drop_get, ← Nat.add_assoc]
theorem keep3 {w : World} {b q o : Nat} {z : Value} (u v x : Value) (h : b ≠ q) (hc : w.drew.cell? ⟨b, o, none⟩ = some z) : (((w.setCell ⟨q, 0, none⟩ u).setCell ⟨q, 1, none⟩ v).setCell ⟨q, 2, none⟩ x).drew.cell? ⟨b, o, none⟩ = some z := by
  have e : (((w.setCell ⟨q, 0, none⟩ u).setCell ⟨q, 1, none⟩ v).setCell ⟨q, 2, none⟩ x).heap[b]? = w.heap[b]? := by
    rw [Below.heap_setCell _ _ _ _ h, Below.heap_setCell _ _ _ _ h, Below.heap_setCell _ _ _ _ h]
  exact (World.cell?_of_block (a := ⟨b, o, none⟩) (w := w) e).trans hc
set_option maxRecDepth 100000 in
set_option maxHeartbeats 1000000 in
theorem read_few (l : List Int) (a : Option Addr) (n c : Nat) (w : World) (hl : l.length = n) (h : n < 5) :
    Calls Try.prog 36 #[.slice a n c] w (GotR w l) := by
  obtain ⟨W, hW⟩ : ∃ W, W = w.alloc (.cells zeroMC 25) := ⟨_, rfl⟩
  have HB : Hid (Below w.heap.size w W) := Lib.hid (by rw [hW]; exact bl_al (Below.refl _ _) _)
  have hz : W.heap[w.heap.size]? = some (.cells zeroMC 25 (0, 0)) := by rw [hW]; exact heap_alloc_new _ _
  obtain ⟨z0, z1, z2⟩ := MAt.of hz
  have zf := fun o => frozen_of_row W w.heap.size o _ _ hz
  have HW := Lib.hid hW
  have HL := Lib.hid (show l.length < 13 + 8 * cnt l by omega)
  obtain ⟨q0, hq0⟩ : ∃ q, q = w.heap.size := ⟨_, rfl⟩
  have HQ0 := Lib.hid hq0
  rw [← hq0] at z0 z1 z2 zf
  have i5 : (n : Int) < 5 := by omega
  clear hW hz hq0 h hl
  go_enter Try.func36, Try.ntmps36
  go_upto_region 1 with fail
  rw [← HW.out, ← HQ0.out]
  clear HW
  go_wp2
  refine bodyPost_ret (v := .tuple #[mval 0 none 0 0 none 0 0, .bool false]) (by simp [results, Try.results36, go_sem, z0, z1, z2]) rfl ?_
  refine .inr ⟨HL.out, rfl, ?_⟩
  rw [HQ0.out]
  exact ((HB.out.setCell (p := ⟨w.heap.size, 0, none⟩) (Nat.le_refl _) _).setCell (p := ⟨w.heap.size, 1, none⟩) (Nat.le_refl _) _).setCell (p := ⟨w.heap.size, 2, none⟩) (Nat.le_refl _) _
set_option maxRecDepth 100000 in
set_option maxHeartbeats 2000000 in
theorem read_main (l : List Int) (b off n c : Nat) (w : World) (hI : In w (some ⟨b, off, none⟩) n c l) (h5 : 5 ≤ n) (hn : n ≤ 1048576) (hc5 : c ≠ 5) :
    Calls Try.prog 36 #[.slice (some ⟨b, off, none⟩) n c] w (GotR w l) := by
  obtain ⟨W, hW⟩ : ∃ W, W = w.alloc (.cells zeroMC 25) := ⟨_, rfl⟩
  have HB : Hid (Below w.heap.size w W) := Lib.hid (by rw [hW]; exact bl_al (Below.refl _ _) _)
  have hz : W.heap[w.heap.size]? = some (.cells zeroMC 25 (0, 0)) := by rw [hW]; exact heap_alloc_new _ _
  have HZ := Lib.hid hz
  have HW := Lib.hid hW
  have hIW := hI.below HB.out
  have HI := Lib.hid hIW
  have hcap := hI.room
  have g4 := getD_fit hI.fit 4
  have c4 := in_cell hIW 4 (by omega)
  obtain ⟨C, hC⟩ : ∃ C, C = cnt l := ⟨_, rfl⟩
  have hx4 : l.getD 4 0 = (C : Int) := by rw [hC]; unfold cnt; omega
  rw [hx4] at c4 g4
  have HC := Lib.hid hC
  have hC256 : C < 256 := by omega
  have vC : ∀ [Inhabited Nat], IntKind.i64.wrap (C : Int) = (C : Int) := by intro _; exact IntWalk.i64_in _ (by omega)
  have i5 : ¬ ((n : Int) < 5) := by omega
  have j5 : (5 : Int) ≤ (n : Int) := by omega
  have i4 : (4 : Int) < (n : Int) := by omega
  have i3 : (3 : Int) < (n : Int) := by omega
  have jc5 : (5 : Int) ≤ (c : Int) := by omega
  have HH5 := Lib.hid h5
  have HCP := Lib.hid hcap
  have CN := Lib.hid (fun X (hB : Below W.heap.size W X) => readN_any (l.drop 5) b (off + 5) (n - 5) (c - 5) C X ((in_drop hIW 5 (off + 5) h5 (.inr ⟨hc5, rfl⟩)).below hB) (by omega) (by omega))
  obtain ⟨q0, hq0⟩ : ∃ q, q = w.heap.size := ⟨_, rfl⟩
  have HQ0 := Lib.hid hq0
  have hd0 := (Below.refl W.heap.size W).drew
  have HNE : Hid (b ≠ q0) := Lib.hid (by have h1 := World.block_lt_of_cell? _ _ (in_cell hI 4 (by omega)); have h2 : b < w.heap.size := h1; omega)
  have hS0 : W.drew.cell? ⟨b, off + 4, none⟩ = some (.int .u8 C) := c4
  have HWL := Lib.hid (lt_of_block hz)
  have HLN := Lib.hid hI.len
  have HIO := Lib.hid hI
  clear hI hIW hW hz hC hx4 hq0 g4 hcap
  go_enter Try.func36, Try.ntmps36
  go_upto_region 1 with fail
  rw [← HW.out, ← HQ0.out]
  clear HW
  go_wp2_with fail
  go_region_held3 (fun wx => wx.cell? ⟨b, off + 4, none⟩ = some (.int .u8 C)) (first | (with_reducible exact hS0) | (with_reducible assumption) | fail)
    (first | (go_at_call 44; (with_reducible refine (CN.out _ hd0).mono ?_); rintro e w1 ⟨k1, o1, n1, c1, a1, cc1, hkC, hkk, hk8, rfl, hown, hb⟩; have hb1 := bl_tr hd0 hb; have hS1 := cell_later hb hS0) | fail)
  rename_i hHeld
  have HB1 := Lib.hid (bl_tr HB.out hb1)
  have HI1 := Lib.hid (HI.out.below hb1)
  have hz1 := (hb1.block _ HWL.out).trans HZ.out
  rw [← HQ0.out] at hz1
  have zf := fun o => frozen_of_row w1 q0 o _ _ hz1
  obtain ⟨z0, z1, z2⟩ := MAt.of hz1
  have HO1 := Lib.hid (show w1.ownsRow W.heap.size 3 1 (.slice a1 k1 cc1) k1 (i64s (rns (l.drop 5) k1)) from hown)
  have HWS := Lib.hid HB.out.size
  have HQL : Hid (q0 < W.heap.size) := Lib.hid (by rw [HQ0.out]; exact HWL.out)
  have c3 := in_cell HI1.out 3 (by have := HH5.out; omega)
  have g3 := getD_fit HI1.out.fit 3
  obtain ⟨x3, hx3⟩ : ∃ x, x = l.getD 3 0 := ⟨_, rfl⟩
  rw [← hx3] at c3 g3
  have HX3 := Lib.hid hx3
  obtain ⟨g30, g31⟩ := g3
  have v3 : ∀ [Inhabited Nat], IntKind.i64.wrap x3 = x3 := by intro _; exact IntWalk.i64_in _ (by omega)
  have HK := Lib.hid hkk
  have HK8 := Lib.hid hk8
  have HKC := Lib.hid hkC
  clear hHeld hb hown hb1 hz1 hd0 hS0 CN hkk hk8 hkC hx3 HB HI HZ
  have fin : ∀ X, l.length < 13 + 8 * cnt l → Below w.heap.size w X → GotR w l (.returned (.tuple #[mval 0 none 0 0 none 0 0, .bool false])) X := fun X h hX => .inr ⟨h, rfl, hX⟩
  have HF := Lib.hid fin
  clear fin
  by_cases hlt : k1 < C
  · have ilt : (k1 : Int) < (C : Int) := by omega
    have HSH : Hid (l.length < 13 + 8 * cnt l) := Lib.hid (by rw [← HC.out, HLN.out]; have h1 := HK8.out hlt; have h2 := HK.out.2.1; omega)
    clear hlt
    go_wp2
    refine bodyPost_ret (v := .tuple #[mval 0 none 0 0 none 0 0, .bool false]) (by simp [results, Try.results36, go_sem, z0, z1, z2]) rfl ?_
    refine HF.out _ HSH.out ?_
    rw [HQ0.out]
    exact ((HB1.out.setCell (p := ⟨w.heap.size, 0, none⟩) (Nat.le_refl _) _).setCell (p := ⟨w.heap.size, 1, none⟩) (Nat.le_refl _) _).setCell (p := ⟨w.heap.size, 2, none⟩) (Nat.le_refl _) _
  · have HKE : Hid (k1 = C) := Lib.hid (by have := HKC.out; omega)
    have ilt : ¬ ((k1 : Int) < (C : Int)) := by omega
    clear hlt
    by_cases hn8 : n1 < 8
    · have in8 : (n1 : Int) < 8 := by omega
      have HSH : Hid (l.length < 13 + 8 * cnt l) := Lib.hid (by rw [← HC.out, HLN.out]; have h1 := HKE.out; have h2 := HK.out.2.1; have h3 := HH5.out; omega)
      clear hn8
      go_wp2
      refine bodyPost_ret (v := .tuple #[mval 0 none 0 0 none 0 0, .bool false]) (by simp [results, Try.results36, go_sem, z0, z1, z2]) rfl ?_
      refine HF.out _ HSH.out ?_
      rw [HQ0.out]
      exact ((HB1.out.setCell (p := ⟨w.heap.size, 0, none⟩) (Nat.le_refl _) _).setCell (p := ⟨w.heap.size, 1, none⟩) (Nat.le_refl _) _).setCell (p := ⟨w.heap.size, 2, none⟩) (Nat.le_refl _) _
    · have in8 : ¬ ((n1 : Int) < 8) := by omega
      have hc8 : 8 ≤ c1 := by have h2 := HK.out.2; have h3 := HCP.out; omega
      have hc4 : ¬ (c1 = 4) := by omega
      have vn : ∀ [Inhabited Nat], IntKind.i64.wrap ((n1 : Int) - 4) = (n1 : Int) - 4 := by intro _; exact IntWalk.i64_in _ (by have h2 := HK.out.2; omega)
      have j4 : (4 : Int) ≤ (n1 : Int) - 4 := by omega
      have jn : (n1 : Int) - 4 ≤ (c1 : Int) := by have h2 := HK.out.2; have h3 := HCP.out; omega
      have hS3 : w1.drew.cell? ⟨b, off + 3, none⟩ = some (.int .u8 x3) := c3
      have hne := HNE.out
      clear hn8
      go_wp2_with fail
      go_region_held3 (fun wx => wx.cell? ⟨b, off + 3, none⟩ = some (.int .u8 x3)) (first | (with_reducible exact hS3) | (with_reducible exact keep3 _ _ _ hne hS3) | fail) (fail)
      obtain ⟨n2, hn2⟩ : ∃ n2, n2 = ((n1 : Int) - 4).toNat - 4 := ⟨_, rfl⟩
      rw [← hn2]
      have HN2 := Lib.hid hn2
      rename_i hHeld
      clear hHeld hn2 hS3 in8
      go_wp2
      refine bodyPost_ret (v := .tuple #[mval x3 a1 k1 cc1 (some ⟨b, o1 + 4, none⟩) n2 (c1 - 4), .bool true]) (by simp [results, Try.results36, go_sem, z0, z1, z2]) rfl ?_
      have hk1 : k1 = cnt l := HKE.out.trans HC.out
      have hl := HLN.out
      have hh5 := HH5.out
      have hkk := HK.out
      have hcp := HCP.out
      have hn2 := HN2.out
      have HBX : Hid (Below w.heap.size w (((w1.setCell ⟨q0, 0, none⟩ (.int .i64 x3)).setCell ⟨q0, 1, none⟩ (.slice a1 k1 cc1)).setCell ⟨q0, 2, none⟩ (.slice (some ⟨b, o1 + 4, none⟩) n2 (c1 - 4))).drew) := Lib.hid (by
        rw [HQ0.out]
        exact (((HB1.out.setCell (p := ⟨w.heap.size, 0, none⟩) (Nat.le_refl _) _).setCell (p := ⟨w.heap.size, 1, none⟩) (Nat.le_refl _) _).setCell (p := ⟨w.heap.size, 2, none⟩) (Nat.le_refl _) _).drew)
      have hsub := (HIO.out.below HBX.out).here.sub hl (9 + 8 * cnt l) (n - 4) (by omega) (by omega) n2 (c1 - 4) (o1 + 4) (by omega) (by have := hkk.1 (by omega); omega)
      have hnn : n2 = l.length - 13 - 8 * cnt l := by omega
      refine .inl ⟨by omega, a1, cc1, ⟨b, o1 + 4, none⟩, n2, c1 - 4, ?_, ?_, ⟨?_, by omega, (fun e => by cases e), ?_, ?_⟩, HBX.out⟩
      · rw [HX3.out, hk1]
        rfl
      · refine own_base (B := W.heap.size) ?_ HWS.out
        show (((w1.setCell ⟨q0, 0, none⟩ (.int .i64 x3)).setCell ⟨q0, 1, none⟩ (.slice a1 k1 cc1)).setCell ⟨q0, 2, none⟩ (.slice (some ⟨b, o1 + 4, none⟩) n2 (c1 - 4))).ownsRow W.heap.size 3 1 (.slice a1 (cnt l) cc1) (cnt l) (i64s ((List.range (cnt l)).map (rdn l)))
        iterate 3 (refine ownsRow_setCell_below ?_ HQL.out _)
        have h := HO1.out
        rwa [rns_drop, hk1] at h
      · show ((l.drop (9 + 8 * cnt l)).take (l.length - 13 - 8 * cnt l)).length = n2
        rw [List.length_take, List.length_drop]
        omega
      · show At _ _ ((l.drop (9 + 8 * cnt l)).take (l.length - 13 - 8 * cnt l))
        rw [← hnn]
        exact hsub
      · exact fit_sub HIO.out.fit _ _
set_option maxRecDepth 100000 in
set_option maxHeartbeats 2000000 in
theorem read_five (l : List Int) (b off : Nat) (w : World) (hI : In w (some ⟨b, off, none⟩) 5 5 l) :
    Calls Try.prog 36 #[.slice (some ⟨b, off, none⟩) 5 5] w (GotR w l) := by
  obtain ⟨W, hW⟩ : ∃ W, W = w.alloc (.cells zeroMC 25) := ⟨_, rfl⟩
  have HB : Hid (Below w.heap.size w W) := Lib.hid (by rw [hW]; exact bl_al (Below.refl _ _) _)
  have hz : W.heap[w.heap.size]? = some (.cells zeroMC 25 (0, 0)) := by rw [hW]; exact heap_alloc_new _ _
  have HZ := Lib.hid hz
  have HW := Lib.hid hW
  have hIW := hI.below HB.out
  have HI := Lib.hid hIW
  have hcap := hI.room
  have g4 := getD_fit hI.fit 4
  have c4 := in_cell hIW 4 (by omega)
  obtain ⟨C, hC⟩ : ∃ C, C = cnt l := ⟨_, rfl⟩
  have hx4 : l.getD 4 0 = (C : Int) := by rw [hC]; unfold cnt; omega
  rw [hx4] at c4 g4
  have HC := Lib.hid hC
  have hC256 : C < 256 := by omega
  have vC : ∀ [Inhabited Nat], IntKind.i64.wrap (C : Int) = (C : Int) := by intro _; exact IntWalk.i64_in _ (by omega)
  have CN := Lib.hid (fun X (hB : Below W.heap.size W X) => readN_any (l.drop 5) b off 0 0 C X ((in_drop hIW 5 off (Nat.le_refl _) (.inl ⟨rfl, rfl⟩)).below hB) (by omega) (by omega))
  obtain ⟨q0, hq0⟩ : ∃ q, q = w.heap.size := ⟨_, rfl⟩
  have HQ0 := Lib.hid hq0
  have hd0 := (Below.refl W.heap.size W).drew
  have HNE : Hid (b ≠ q0) := Lib.hid (by have h1 := World.block_lt_of_cell? _ _ (in_cell hI 4 (by omega)); have h2 : b < w.heap.size := h1; omega)
  have hS0 : W.drew.cell? ⟨b, off + 4, none⟩ = some (.int .u8 C) := c4
  have HWL := Lib.hid (lt_of_block hz)
  have HLN := Lib.hid hI.len
  have HIO := Lib.hid hI
  clear hI hIW hW hz hC hx4 hq0 g4 hcap
  go_enter Try.func36, Try.ntmps36
  go_upto_region 1 with fail
  rw [← HW.out, ← HQ0.out]
  clear HW
  go_wp2_with fail
  go_region_held3 (fun wx => wx.cell? ⟨b, off + 4, none⟩ = some (.int .u8 C)) (first | (with_reducible exact hS0) | (with_reducible assumption) | fail)
    (first | (go_at_call 44; (with_reducible refine (CN.out _ hd0).mono ?_); rintro e w1 ⟨k1, o1, n1, c1, a1, cc1, hkC, hkk, hk8, rfl, hown, hb⟩; have hb1 := bl_tr hd0 hb; have hS1 := cell_later hb hS0) | fail)
  rename_i hHeld
  have HB1 := Lib.hid (bl_tr HB.out hb1)
  have HI1 := Lib.hid (HI.out.below hb1)
  have hz1 := (hb1.block _ HWL.out).trans HZ.out
  rw [← HQ0.out] at hz1
  have zf := fun o => frozen_of_row w1 q0 o _ _ hz1
  obtain ⟨z0, z1, z2⟩ := MAt.of hz1
  have HO1 := Lib.hid (show w1.ownsRow W.heap.size 3 1 (.slice a1 k1 cc1) k1 (i64s (rns (l.drop 5) k1)) from hown)
  have HWS := Lib.hid HB.out.size
  have HQL : Hid (q0 < W.heap.size) := Lib.hid (by rw [HQ0.out]; exact HWL.out)
  have c3 := in_cell HI1.out 3 (by omega)
  have g3 := getD_fit HI1.out.fit 3
  obtain ⟨x3, hx3⟩ : ∃ x, x = l.getD 3 0 := ⟨_, rfl⟩
  rw [← hx3] at c3 g3
  have HX3 := Lib.hid hx3
  obtain ⟨g30, g31⟩ := g3
  have v3 : ∀ [Inhabited Nat], IntKind.i64.wrap x3 = x3 := by intro _; exact IntWalk.i64_in _ (by omega)
  have HK := Lib.hid hkk
  have HK8 := Lib.hid hk8
  have HKC := Lib.hid hkC
  clear hHeld hb hown hb1 hz1 hd0 hS0 CN hkk hk8 hkC hx3 HB HI HZ
  have fin : ∀ X, l.length < 13 + 8 * cnt l → Below w.heap.size w X → GotR w l (.returned (.tuple #[mval 0 none 0 0 none 0 0, .bool false])) X := fun X h hX => .inr ⟨h, rfl, hX⟩
  have HF := Lib.hid fin
  clear fin
  by_cases hlt : k1 < C
  · have ilt : (k1 : Int) < (C : Int) := by omega
    have HSH : Hid (l.length < 13 + 8 * cnt l) := Lib.hid (by rw [HLN.out]; omega)
    clear hlt
    go_wp2
    refine bodyPost_ret (v := .tuple #[mval 0 none 0 0 none 0 0, .bool false]) (by simp [results, Try.results36, go_sem, z0, z1, z2]) rfl ?_
    refine HF.out _ HSH.out ?_
    rw [HQ0.out]
    exact ((HB1.out.setCell (p := ⟨w.heap.size, 0, none⟩) (Nat.le_refl _) _).setCell (p := ⟨w.heap.size, 1, none⟩) (Nat.le_refl _) _).setCell (p := ⟨w.heap.size, 2, none⟩) (Nat.le_refl _) _
  · have HKE : Hid (k1 = C) := Lib.hid (by have := HKC.out; omega)
    have ilt : ¬ ((k1 : Int) < (C : Int)) := by omega
    clear hlt
    · have in8 : (n1 : Int) < 8 := by have := HK.out.2.1; omega
      have HSH : Hid (l.length < 13 + 8 * cnt l) := Lib.hid (by rw [HLN.out]; omega)
      go_wp2
      refine bodyPost_ret (v := .tuple #[mval 0 none 0 0 none 0 0, .bool false]) (by simp [results, Try.results36, go_sem, z0, z1, z2]) rfl ?_
      refine HF.out _ HSH.out ?_
      rw [HQ0.out]
      exact ((HB1.out.setCell (p := ⟨w.heap.size, 0, none⟩) (Nat.le_refl _) _).setCell (p := ⟨w.heap.size, 1, none⟩) (Nat.le_refl _) _).setCell (p := ⟨w.heap.size, 2, none⟩) (Nat.le_refl _) _
theorem read_t {l : List Int} {a : Option Addr} {n c : Nat} {w : World} (hI : In w a n c l) (hn : n ≤ 1048576) :
    Calls Try.prog 36 #[.slice a n c] w (GotR w l) := by
  by_cases h5 : n < 5
  · exact read_few l a n c w hI.len h5
  · obtain ⟨b, off, rfl⟩ := in_block hI (by omega)
    by_cases hc : c = 5
    · have hr := hI.room
      obtain rfl : n = 5 := by omega
      subst hc
      exact read_five l b off w hI
    · exact read_main l b off n c w hI (by omega) hn hc
end Go.Proofs.Ytbfcgnggcgodhaa
