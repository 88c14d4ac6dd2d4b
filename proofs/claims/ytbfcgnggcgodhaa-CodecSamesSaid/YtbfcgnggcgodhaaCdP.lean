/- Contract of codec.Parse. Conditions: the row came in, of at most 2^20 bytes. -/
import Derived.Test.YtbfcgnggcgodhaaCdA
import Derived.Test.YtbfcgnggcgodhaaCdF
import Derived.Test.YtbfcgnggcgodhaaCdQ
namespace Go.Proofs.Ytbfcgnggcgodhaa
open Go Go.RowKit
set_option linter.unusedVariables false
set_option linter.unusedSimpArgs false

theorem nilErr (w : World) : (binOp .neq 30 .nilIface .nilIface).run Try.prog w = .ok (.bool false) w := by kernel_rfl
theorem someErr (w : World) : (binOp .neq 30 (errnoM 9) .nilIface).run Try.prog w = .ok (.bool true) w := by kernel_rfl
set_option maxRecDepth 100000 in
set_option maxHeartbeats 4000000 in
/-- Parse. -/
theorem parseM_t {l : List Int} {m : Mg} {E : Value} {f : Int} (h : POut l m E f) (a : Option Addr) (n c : Nat) (w : World) (hI : In w a n c l) (hn : n ≤ 1048576) :
    Calls Try.prog 18 #[.slice a n c] w (GotM w m E) := by
  obtain ⟨W, hW⟩ : ∃ W, W = w.alloc (.cells zeroMC 25) := ⟨_, rfl⟩
  have HB : Hid (Below w.heap.size w W) := Lib.hid (by rw [hW]; exact bl_al (Below.refl _ _) _)
  have hz : W.heap[w.heap.size]? = some (.cells zeroMC 25 (0, 0)) := by rw [hW]; exact heap_alloc_new _ _
  have HZ := Lib.hid hz
  have HW := Lib.hid hW
  have HI := Lib.hid hI
  have CR := Lib.hid (read_t (hI.below HB.out) hn)
  obtain ⟨q0, hq0⟩ : ∃ q, q = w.heap.size := ⟨_, rfl⟩
  have HQ0 := Lib.hid hq0
  have fin : ∀ X, ¬ IsF l → Below w.heap.size w X → GotM w m E (.returned (.tuple #[mval 0 none 0 0 none 0 0, errnoM 3])) X := fun X hno hX => by
    rcases h with ⟨h, _⟩ | ⟨_, rfl, rfl, _⟩
    · exact absurd h hno
    · exact ⟨none, 0, 0, none, 0, 0, rfl, rfl, rfl, World.ownsRow_nil _ _ _ _, World.ownsRow_nil _ _ _ _, hX⟩
  have HF := Lib.hid fin
  have HP := Lib.hid h
  have HLN := Lib.hid hI.len
  clear hI hW hz hq0 fin h
  go_enter Try.func18, Try.ntmps18
  go_upto_region 1 with fail
  rw [← HW.out, ← HQ0.out]
  clear HW
  go_wp2_with fail
  refine CR.out.mono ?_
  rintro e w1 (⟨hlen, a1, c1, ad, k, d, rfl, hown, hin, hb⟩ | ⟨hlen, rfl, hb⟩)
  · obtain ⟨D, hD⟩ : ∃ D, D = decM l := ⟨_, rfl⟩
    have hty : TyM D := by rw [hD]; exact decM_typed HI.out.fit
    have hcn : cnt l = D.nums.length := by rw [hD]; simp [decM]
    rw [← hD] at hown hin
    rw [← hD]
    rw [hcn] at hown
    rw [hcn]
    have HD := Lib.hid hD
    obtain ⟨C, hC⟩ : ∃ C, C = D.nums.length := ⟨_, rfl⟩
    rw [← hC] at hown
    rw [← hC]
    have HCE := Lib.hid hC
    obtain ⟨kind, hkind⟩ : ∃ z, z = D.kind := ⟨_, rfl⟩
    rw [← hkind]
    have hM : MIn w1 a1 C c1 (some ad) k d D := ⟨own_inI hown hC.symm hty.nums, hin⟩
    have hB1 := bl_tr HB.out hb
    have hz1 := (hb.block _ (lt_of_block HZ.out)).trans HZ.out
    obtain ⟨X, hX⟩ : ∃ X, X = w1.alloc (mobj kind a1 C c1 (some ad) k d) := ⟨_, rfl⟩
    obtain ⟨q4, hq4⟩ : ∃ q, q = w1.heap.size := ⟨_, rfl⟩
    have hbX : Below w1.heap.size w1 X := by rw [hX]; exact bl_al (Below.refl _ _) _
    have hq4X : X.heap[q4]? = some (.cells (mcs kind a1 C c1 (some ad) k d) 25 (0, 0)) := by rw [hX, hq4]; exact heap_alloc_new _ _
    have hz2 : X.heap[q0]? = some (.cells zeroMC 25 (0, 0)) := by rw [HQ0.out, hX]; exact (heap_alloc_old w1 _ (lt_of_block hz1)).trans hz1
    have hlt : q0 < q4 := by rw [HQ0.out, hq4]; exact lt_of_block hz1
    have HXB := Lib.hid (bl_tr hB1 hbX)
    have HM := Lib.hid (hM.below hbX)
    have HO := Lib.hid (show X.ownsRow W.heap.size 3 1 (.slice a1 C c1) C (i64s D.nums) by rw [hX]; exact hown.alloc _)
    have HWS := Lib.hid HB.out.size
    have HX := Lib.hid hX
    have HQ4 := Lib.hid hq4
    have HZ2 := Lib.hid hz2
    have H4 := Lib.hid hq4X
    have HLT := Lib.hid hlt
    have HWQ : Hid (W.heap.size ≤ q4) := Lib.hid (by rw [hq4]; exact hb.size)
    have HTY := Lib.hid hty
    have HOB : Hid (∀ g, (Value.slice a1 C c1).ownBlock = some g → g < q4) := Lib.hid (fun g hg => by rw [hq4]; exact (hown.lt g hg).2)
    have HQW : Hid (q0 < W.heap.size) := Lib.hid (by rw [HQ0.out]; exact lt_of_block HZ.out)
    obtain ⟨R, E2, f2, hfo⟩ := FOut.some D
    have HFO := Lib.hid hfo
    have CF := Lib.hid (frame_t hfo a1 C c1 (some ad) k d X HM.out)
    rw [← hkind] at CF
    have HKD := Lib.hid hkind
    obtain ⟨e0, e1, e2⟩ := MAt.of hq4X
    clear hD hcn hC hkind hM hB1 hz1 hX hq4 hbX hq4X hz2 hlt hty hown hin hb hfo CR
    have HHL := Lib.hid hlen
    clear hlen
    go_upto_region 2 with fail
    rw [← HX.out, ← HQ4.out]
    clear HX
    go_wp2_with fail
    refine CF.out.mono ?_
    rintro e w3 ⟨a3, k3, c3, rfl, hk3, hown3, hb3⟩
    have HB3 := Lib.hid (bl_tr HXB.out hb3)
    have HZ3 := Lib.hid ((hb3.block _ (lt_of_block HZ2.out)).trans HZ2.out)
    have H43 := Lib.hid ((hb3.block _ (lt_of_block H4.out)).trans H4.out)
    have HO3 := Lib.hid (owns_bel HO.out hb3)
    have HM3 := Lib.hid (HM.out.below hb3)
    have zf := fun o => frozen_of_row w3 q0 o _ _ HZ3.out
    obtain ⟨z0, z1, z2⟩ := MAt.of HZ3.out
    clear e0 e1 e2 HXB HZ2 H4 HO HM CF
    obtain ⟨e0, e1, e2⟩ := MAt.of H43.out
    rcases HFO.out with ⟨hok, rfl, rfl, _⟩ | ⟨hok, rfl, rfl, _⟩
    · have ne := nilErr
      have hfr : fit (frm D) := fit_frm HTY.out.data
      have HI3 := Lib.hid (HI.out.below HB3.out)
      have CE := Lib.hid (equal_any (frm D) l a3 a k3 n c3 c w3 (own_in hown3 hk3.symm hfr).here HI3.out.here hk3.symm HLN.out hfr HI.out.fit)
      have hkk : k = D.data.length := HM3.out.data.len.symm
      by_cases hfl : frm D = l
      · have HIS : Hid (IsF l) := Lib.hid ⟨by rw [← HD.out]; exact hok, by rw [← HD.out]; exact hfl⟩
        have hsm : same (frm D) l = true := by unfold same; exact decide_eq_true hfl
        rw [hsm] at CE
        have CC := Lib.hid (bclone_any D.data ad k d w3 HM3.out.data (by have := hok.data; omega))
        have HKK := Lib.hid hkk
        clear hok hfr hfl hsm hkk hk3 hown3 hb3
        go_wp2_with fail
        refine CE.out.mono ?_
        rintro e w3' ⟨rfl, rfl⟩
        go_wp2_with fail
        refine CC.out.mono ?_
        rintro e w4 ⟨a4, c4, rfl, hown4, hb4⟩
        have h44 := (hb4.block _ (lt_of_block H43.out)).trans H43.out
        have hz4 := (hb4.block _ (lt_of_block HZ3.out)).trans HZ3.out
        have zf4 := fun o => frozen_of_row w4 q4 o _ _ h44
        have hy4 := heap_setCell_same w4 q4 2 _ _ (.slice a4 k c4) h44
        have hne : q0 ≠ q4 := by have := HLT.out; omega
        have hyz : (w4.setCell ⟨q4, 2, none⟩ (.slice a4 k c4)).heap[q0]? = some (.cells zeroMC 25 (0, 0)) := by rw [heap_setCell_other _ _ _ _ hne]; exact hz4
        obtain ⟨Y, hY⟩ : ∃ Y, Y = w4.setCell ⟨q4, 2, none⟩ (.slice a4 k c4) := ⟨_, rfl⟩
        rw [← hY] at hy4 hyz
        have hO4 : Y.ownsRow W.heap.size 3 1 (.slice a1 C c1) C (i64s D.nums) := by
          rw [hY]
          refine ownsRow_setCell_other (owns_bel HO3.out hb4) ?_ _
          intro e
          have := HOB.out q4 e
          omega
        have hB4 : Below w.heap.size w Y := by
          rw [hY]
          exact (bl_tr HB3.out hb4).setCell (p := ⟨q4, 2, none⟩) (by have := HWQ.out; have := HB.out.size; show w.heap.size ≤ q4; omega) _
        have hD4 : Y.ownsRow w3.heap.size 5 1 (.slice a4 k c4) k (u8s D.data) := by
          rw [hY]
          exact ownsRow_setCell_below hown4 (lt_of_block H43.out) _
        have HY := Lib.hid hY
        have HO4 := Lib.hid hO4
        have HB4 := Lib.hid hB4
        have HD4 := Lib.hid hD4
        have HL0 : Hid (q0 < w3.heap.size) := Lib.hid (lt_of_block HZ3.out)
        have HB3S : Hid (w.heap.size ≤ w3.heap.size) := Lib.hid HB3.out.size
        have HZY := Lib.hid hyz
        have HYY := Lib.hid (show Y.heap[q4]? = some (.cells (mcs kind a1 C c1 a4 k c4) 25 (0, 0)) from hy4)
        obtain ⟨x0, x1, x2⟩ := MAt.of h44
        clear hown4 hb4 h44 hz4 hy4 hne hyz hY hO4 hB4 hD4 z0 z1 z2 zf e0 e1 e2 CE CC
        go_upto_region 8 with fail
        rw [← HY.out]
        clear HY x0 x1 x2 zf4
        obtain ⟨y0, y1, y2⟩ := MAt.of HYY.out
        obtain ⟨z0, z1, z2⟩ := MAt.of HZY.out
        have zf := fun o => frozen_of_row Y q0 o _ _ HZY.out
        go_wp2
        refine bodyPost_ret (v := .tuple #[mval kind a1 C c1 a4 k c4, .nilIface]) (by simp [results, Try.results18, go_sem, z0, z1, z2]) rfl ?_
        rcases HP.out with ⟨_, rfl, rfl, _⟩ | ⟨hno, _⟩
        · rw [← HD.out]
          refine ⟨a1, C, c1, a4, k, c4, by rw [HKD.out], HCE.out, HKK.out, ?_, ?_, ?_⟩
          · refine own_base (B := W.heap.size) ?_ HWS.out
            iterate 3 (refine ownsRow_setCell_below ?_ HQW.out _)
            exact HO4.out
          · refine own_base (B := w3.heap.size) ?_ HB3S.out
            iterate 3 (refine ownsRow_setCell_below ?_ HL0.out _)
            exact HD4.out
          · rw [HQ0.out]
            exact ((HB4.out.setCell (p := ⟨w.heap.size, 0, none⟩) (Nat.le_refl _) _).setCell (p := ⟨w.heap.size, 1, none⟩) (Nat.le_refl _) _).setCell (p := ⟨w.heap.size, 2, none⟩) (Nat.le_refl _) _
        · exact absurd HIS.out hno
      · have HNO : Hid (¬ IsF l) := Lib.hid (fun hf => hfl (by rw [HD.out]; exact hf.2))
        have hsm : same (frm D) l = false := by unfold same; exact decide_eq_false hfl
        rw [hsm] at CE
        clear hok hfr hfl hsm hkk hk3 hown3 hb3
        go_wp2_with fail
        refine CE.out.mono ?_
        rintro e w3' ⟨rfl, rfl⟩
        go_wp2
        refine bodyPost_ret (v := .tuple #[mval 0 none 0 0 none 0 0, errnoM 3]) (by simp [results, Try.results18, go_sem, z0, z1, z2]) rfl ?_
        refine HF.out _ HNO.out ?_
        rw [HQ0.out]
        exact ((HB3.out.setCell (p := ⟨w.heap.size, 0, none⟩) (Nat.le_refl _) _).setCell (p := ⟨w.heap.size, 1, none⟩) (Nat.le_refl _) _).setCell (p := ⟨w.heap.size, 2, none⟩) (Nat.le_refl _) _
    · have ne := someErr
      have HNO : Hid (¬ IsF l) := Lib.hid (fun hf => hok (by rw [HD.out]; exact hf.1))
      have HB3' := Lib.hid HB3.out
      clear hok hk3 hown3 hb3
      go_wp2
      refine bodyPost_ret (v := .tuple #[mval 0 none 0 0 none 0 0, errnoM 3]) (by simp [results, Try.results18, go_sem, z0, z1, z2]) rfl ?_
      refine HF.out _ HNO.out ?_
      rw [HQ0.out]
      exact ((HB3.out.setCell (p := ⟨w.heap.size, 0, none⟩) (Nat.le_refl _) _).setCell (p := ⟨w.heap.size, 1, none⟩) (Nat.le_refl _) _).setCell (p := ⟨w.heap.size, 2, none⟩) (Nat.le_refl _) _
  · have HB1 := Lib.hid (bl_tr HB.out hb)
    have hz1 := (hb.block _ (lt_of_block HZ.out)).trans HZ.out
    have hz2 : (w1.alloc (mobj 0 none 0 0 none 0 0)).heap[w.heap.size]? = some (.cells zeroMC 25 (0, 0)) := (heap_alloc_old w1 _ (lt_of_block hz1)).trans hz1
    rw [← HQ0.out] at hz2
    have zf := fun o => frozen_of_row (w1.alloc (mobj 0 none 0 0 none 0 0)) q0 o _ _ hz2
    obtain ⟨z0, z1, z2⟩ := MAt.of hz2
    have HNO : Hid (¬ IsF l) := Lib.hid (fun hf => by have := hf.size; omega)
    have HB2 := Lib.hid (bl_al HB1.out (mobj 0 none 0 0 none 0 0))
    clear hb hz1 hz2 hlen CR
    go_wp2
    refine bodyPost_ret (v := .tuple #[mval 0 none 0 0 none 0 0, errnoM 3]) (by simp [results, Try.results18, go_sem, z0, z1, z2]) rfl ?_
    refine HF.out _ HNO.out ?_
    rw [HQ0.out]
    exact ((HB2.out.setCell (p := ⟨w.heap.size, 0, none⟩) (Nat.le_refl _) _).setCell (p := ⟨w.heap.size, 1, none⟩) (Nat.le_refl _) _).setCell (p := ⟨w.heap.size, 2, none⟩) (Nat.le_refl _) _
end Go.Proofs.Ytbfcgnggcgodhaa
