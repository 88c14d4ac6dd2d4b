/- Contract of codec.TakeFlow. Conditions: the row came in, of at most 2^44 numbers. -/
import Derived.Test.YtbfcgnggcgodhaaCdA
import Derived.Test.YtbfcgnggcgodhaaCdT
import Derived.Test.YtbfcgnggcgodhaaMgT
import Derived.Deep.RegionHeld3
namespace Go.Proofs.Ytbfcgnggcgodhaa
open Go Go.RowKit
set_option linter.unusedVariables false
set_option linter.unusedSimpArgs false

theorem nilErrT (w : World) : (binOp .neq 30 .nilIface .nilIface).run Try.prog w = .ok (.bool false) w := by kernel_rfl
theorem someErrT (w : World) : (binOp .neq 30 (errnoM 9) .nilIface).run Try.prog w = .ok (.bool true) w := by kernel_rfl
theorem take5 {l : List Int} (h : 5 ≤ l.length) : l.take 5 = [l.getD 0 0, l.getD 1 0, l.getD 2 0, l.getD 3 0, l.getD 4 0] := by
  rw [take_more _ 0 (by omega), take_more _ 0 (by omega), take_more _ 0 (by omega), take_more _ 0 (by omega), take_more _ 0 (by omega), List.take_zero]
  rfl
theorem fitI_getD {l : List Int} (h : fitI l) (j : Nat) : -9223372036854775808 ≤ l.getD j 0 ∧ l.getD j 0 < 9223372036854775808 := by
  by_cases hj : j < l.length
  · exact fitI_at h hj
  · rw [List.getD_eq_getElem?_getD, List.getElem?_eq_none (by omega)]
    decide
theorem own_is {l : List Int} (h : 5 ≤ l.length) : TOk l ↔ FlowOk (l.getD 0 0) (l.getD 2 0) (l.getD 4 0) ∧ [l.getD 0 0, l.getD 1 0 % 4294967296, l.getD 2 0, l.getD 3 0 % 4294967296, l.getD 4 0] = l.take 5 := by
  rw [take5 h]
  unfold TOk FlowOk
  simp only [List.cons.injEq, and_true, true_and]
  omega
set_option maxRecDepth 100000 in
set_option maxHeartbeats 4000000 in
theorem takeFlow_few (l : List Int) (a : Option Addr) (n c : Nat) (w : World) (h : n < 5) :
    Calls Try.prog 25 #[.slice a n c] w (GotT w (fv 0 0 0 0 0) [] (errnoM 3)) := by
  obtain ⟨W, hW⟩ : ∃ W, W = w.alloc (.cells zeroFC 55) := ⟨_, rfl⟩
  have HB : Hid (Below w.heap.size w W) := Lib.hid (by rw [hW]; exact bl_al (Below.refl _ _) _)
  have hz : W.heap[w.heap.size]? = some (.cells zeroFC 55 (0, 0)) := by rw [hW]; exact heap_alloc_new _ _
  obtain ⟨z0, z1, z2, z3, z4⟩ := FvAt.of hz
  have zf := fun o => frozen_of_row W w.heap.size o _ _ hz
  have HW := Lib.hid hW
  obtain ⟨q0, hq0⟩ : ∃ q, q = w.heap.size := ⟨_, rfl⟩
  have HQ0 := Lib.hid hq0
  rw [← hq0] at z0 z1 z2 z3 z4 zf
  have i5 : (n : Int) < 5 := by omega
  clear hW hz hq0 h
  go_enter Try.func25, Try.ntmps25
  go_upto_region 1 with fail
  rw [← HW.out, ← HQ0.out]
  clear HW
  go_wp2
  refine bodyPost_ret (v := .tuple #[fv 0 0 0 0 0, .slice none 0 0, errnoM 3]) (by simp [results, Try.results25, go_sem, z0, z1, z2, z3, z4]) rfl ?_
  refine ⟨none, 0, 0, rfl, rfl, World.ownsRow_nil _ _ _ _, ?_⟩
  rw [HQ0.out]
  iterate 5 (refine Below.setCell ?_ (by first | exact Nat.le_refl _ | simp) _)
  exact HB.out
set_option maxRecDepth 100000 in
set_option maxHeartbeats 4000000 in
theorem takeFlow_main (l : List Int) (F : Value) (r : List Int) (E : Value) (f : Int) (b off n c : Nat) (w : World) (hI : InI w (some ⟨b, off, none⟩) n c l) (h5 : 5 ≤ n) (hn : n ≤ 17592186043904) (ho : TOut l F r E f) (hc5 : c ≠ 5) :
    Calls Try.prog 25 #[.slice (some ⟨b, off, none⟩) n c] w (GotT w F r E) := by
  obtain ⟨W, hW⟩ : ∃ W, W = w.alloc (.cells zeroFC 55) := ⟨_, rfl⟩
  have HB : Hid (Below w.heap.size w W) := Lib.hid (by rw [hW]; exact bl_al (Below.refl _ _) _)
  have hz : W.heap[w.heap.size]? = some (.cells zeroFC 55 (0, 0)) := by rw [hW]; exact heap_alloc_new _ _
  have HZ := Lib.hid hz
  have HW := Lib.hid hW
  have hcap := hI.room
  have hlen := hI.len
  have hIW := hI.below HB.out
  have HI := Lib.hid hIW
  have HOK := Lib.hid (own_is (l := l) (by omega))
  have HO := Lib.hid ho
  have i5 : ¬ ((n : Int) < 5) := by omega
  have j5 : (5 : Int) ≤ (n : Int) := by omega
  have jc5 : (5 : Int) ≤ (c : Int) := by omega
  have HLN := Lib.hid hlen
  have HFT : Hid (∀ j, -9223372036854775808 ≤ l.getD j 0 ∧ l.getD j 0 < 9223372036854775808) := Lib.hid (fun j => fitI_getD hI.fit j)
  have HCP := Lib.hid hcap
  have HH5 := Lib.hid h5
  obtain ⟨q0, hq0⟩ : ∃ q, q = w.heap.size := ⟨_, rfl⟩
  have HQ0 := Lib.hid hq0
  clear hI hIW hW hz ho hq0 hlen hcap
  go_enter Try.func25, Try.ntmps25
  go_upto_region 1 with fail
  rw [← HW.out, ← HQ0.out]
  clear HW
  go_wp2
  go_quiet (fail)
  obtain ⟨W1, hW1⟩ : ∃ X, X = W.drewN nq := ⟨_, rfl⟩
  have hb1 : Below W.heap.size W W1 := by rw [hW1]; exact below_drewN (Below.refl _ _) _
  rw [← hW1]
  have hI1 := HI.out.below hb1
  have HI1 := Lib.hid hI1
  have HI5 := Lib.hid (hI1.take 5 HH5.out)
  have HI6 := Lib.hid (in_restI hI1 5 HH5.out)
  have hz1 := (hb1.block _ (lt_of_block HZ.out)).trans HZ.out
  have HZ1 := Lib.hid hz1
  have HB1 := Lib.hid (bl_tr HB.out hb1)
  obtain ⟨o6, ho6⟩ : ∃ o6, o6 = off + 5 := ⟨_, rfl⟩
  obtain ⟨n6, hn6⟩ : ∃ n6, n6 = n - 5 := ⟨_, rfl⟩
  obtain ⟨c6, hc6⟩ : ∃ c6, c6 = c - 5 := ⟨_, rfl⟩
  rw [← ho6, ← hn6, ← hc6] at HI6
  rw [← ho6, ← hn6, ← hc6]
  have c0 : W1.cell? ⟨b, off, none⟩ = some (.int .i64 (l.getD 0 0)) := in_cellI hI1 0 (by have := HH5.out; omega)
  have c1 := in_cellI hI1 1 (by have := HH5.out; omega)
  have c2 := in_cellI hI1 2 (by have := HH5.out; omega)
  have c3 := in_cellI hI1 3 (by have := HH5.out; omega)
  have c4 := in_cellI hI1 4 (by have := HH5.out; omega)
  clear hW1 hb1 hI1 hz1 HI HZ HB ho6 hn6 hc6
  have hok := HOK.out
  have htk := take5 (l := l) (by rw [HLN.out]; exact HH5.out)
  obtain ⟨x0, hx0⟩ : ∃ x, x = l.getD 0 0 := ⟨_, rfl⟩
  obtain ⟨x1, hx1⟩ : ∃ x, x = l.getD 1 0 := ⟨_, rfl⟩
  obtain ⟨x2, hx2⟩ : ∃ x, x = l.getD 2 0 := ⟨_, rfl⟩
  obtain ⟨x3, hx3⟩ : ∃ x, x = l.getD 3 0 := ⟨_, rfl⟩
  obtain ⟨x4, hx4⟩ : ∃ x, x = l.getD 4 0 := ⟨_, rfl⟩
  have HX := Lib.hid (show x0 = l.getD 0 0 ∧ x1 = l.getD 1 0 ∧ x2 = l.getD 2 0 ∧ x3 = l.getD 3 0 ∧ x4 = l.getD 4 0 from ⟨hx0, hx1, hx2, hx3, hx4⟩)
  rw [← hx0] at c0
  rw [← hx1] at c1
  rw [← hx2] at c2
  rw [← hx3] at c3
  rw [← hx4] at c4
  rw [← hx0, ← hx1, ← hx2, ← hx3, ← hx4] at hok htk
  have v1 : ∀ [Inhabited Nat], IntKind.u32.wrap x1 = x1 % 4294967296 := by intro _; rw [IntKind.wrap_u32']
  have v3 : ∀ [Inhabited Nat], IntKind.u32.wrap x3 = x3 % 4294967296 := by intro _; rw [IntKind.wrap_u32']
  obtain ⟨y1, hy1⟩ : ∃ y, y = x1 % 4294967296 := ⟨_, rfl⟩
  obtain ⟨y3, hy3⟩ : ∃ y, y = x3 % 4294967296 := ⟨_, rfl⟩
  rw [← hy1] at v1
  rw [← hy3] at v3
  rw [← hy1, ← hy3] at hok
  have HOK1 := Lib.hid hok
  have HTK := Lib.hid htk
  have HY1 := Lib.hid hy1
  have HY3 := Lib.hid hy3
  have hne := World.new_ne W1 _ c0
  have hne1 := World.new_ne W1 _ c1
  have hne2 := World.new_ne W1 _ c2
  have hne3 := World.new_ne W1 _ c3
  have hne4 := World.new_ne W1 _ c4
  have i0n : (0 : Nat) < 5 := by omega
  have hS0 : (W1.drew.cell? ⟨b, off, none⟩ = some (.int .i64 x0) ∧ W1.drew.cell? ⟨b, off + 1, none⟩ = some (.int .i64 x1) ∧ W1.drew.cell? ⟨b, off + 2, none⟩ = some (.int .i64 x2) ∧ W1.drew.cell? ⟨b, off + 3, none⟩ = some (.int .i64 x3) ∧ W1.drew.cell? ⟨b, off + 4, none⟩ = some (.int .i64 x4)) := ⟨c0, c1, c2, c3, c4⟩
  clear hok htk hx0 hx1 hx2 hx3 hx4 hy1 hy3 HOK i5 j5 jc5
  go_wp2_with fail
  go_region_held3 (fun wx => wx.cell? ⟨b, off, none⟩ = some (.int .i64 x0) ∧ wx.cell? ⟨b, off + 1, none⟩ = some (.int .i64 x1) ∧ wx.cell? ⟨b, off + 2, none⟩ = some (.int .i64 x2) ∧ wx.cell? ⟨b, off + 3, none⟩ = some (.int .i64 x3) ∧ wx.cell? ⟨b, off + 4, none⟩ = some (.int .i64 x4) ) (first | (with_reducible exact hS0) | go_keep | fail) (fail)
  all_goals
    have HFX : Hid (FvAt (W1.alloc (.cells #[.int .i64 x0, .int .u32 y1, .int .i64 x2, .int .u32 y3, .int .i64 x4] 55)).drew W1.heap.size x0 y1 x2 y3 x4) := Lib.hid (FvAt.of (heap_alloc_new W1 _))
    have HBX := Lib.hid ((bl_al HB1.out (.cells #[.int .i64 x0, .int .u32 y1, .int .i64 x2, .int .u32 y3, .int .i64 x4] 55)).drew)
    have hbx := (bl_al (Below.refl W1.heap.size W1) (.cells #[.int .i64 x0, .int .u32 y1, .int .i64 x2, .int .u32 y3, .int .i64 x4] 55)).drew
    have HIX := Lib.hid (HI5.out.below hbx)
    have HRX := Lib.hid (HI6.out.below hbx)
    have HZX : Hid ((W1.alloc (.cells #[.int .i64 x0, .int .u32 y1, .int .i64 x2, .int .u32 y3, .int .i64 x4] 55)).drew.heap[w.heap.size]? = some (.cells zeroFC 55 (0, 0))) := Lib.hid ((heap_alloc_old W1 _ (lt_of_block HZ1.out)).trans HZ1.out)
    obtain ⟨X, hX⟩ : ∃ X, X = (W1.alloc (.cells #[.int .i64 x0, .int .u32 y1, .int .i64 x2, .int .u32 y3, .int .i64 x4] 55)).drew := ⟨_, rfl⟩
    obtain ⟨q6, hq6⟩ : ∃ q, q = W1.heap.size := ⟨_, rfl⟩
    have HNQ : Hid (q6 ≠ w.heap.size) := Lib.hid (by have := lt_of_block HZ1.out; omega)
    have HQL : Hid (w.heap.size ≤ q0) := Lib.hid (by rw [HQ0.out]; exact Nat.le_refl _)
    rw [← hX] at HFX HBX HIX HZX HRX
    rw [← hq6] at HFX
    rw [← hX, ← hq6]
    clear hX hq6 hS0 c0 c1 c2 c3 c4 hne hne1 hne2 hne3 hne4 HZ1 HB1 HI1 HI5 HI6 v1 v3 hbx
    obtain ⟨e0, e1, e2, e3, e4⟩ := HFX.out
    by_cases hfi : FlowOk x0 x2 x4
    · have CG := Lib.hid (flow_ok x0 y1 x2 y3 x4 hfi X)
      have ne := nilErrT
      have HFI := Lib.hid hfi
      clear hfi
      go_wp2_with fail
      refine CG.out.mono ?_
      rintro e w5 ⟨rfl, hb⟩
      have HF5 := Lib.hid (HFX.out.later hb)
      have HB5 := Lib.hid (bl_tr HBX.out hb)
      have HI5 := Lib.hid (HIX.out.below hb)
      have HR5 := Lib.hid (HRX.out.below hb)
      have HZ5 := Lib.hid ((hb.block _ (lt_of_block HZX.out)).trans HZX.out)
      have CF := Lib.hid (flowN_t x0 y1 x2 y3 x4 w5 (by have := HY1.out; omega) (by have := HY3.out; omega))
      clear hb HFX HBX HIX HZX HRX CG e0 e1 e2 e3 e4
      obtain ⟨e0, e1, e2, e3, e4⟩ := HF5.out
      go_wp2_with fail
      refine CF.out.mono ?_
      rintro e w6 ⟨a6, k6, c7, rfl, hk6, hown6, hb⟩
      have HF6 := Lib.hid (HF5.out.later hb)
      have HB6 := Lib.hid (bl_tr HB5.out hb)
      have HI6 := Lib.hid (HI5.out.below hb)
      have HR6 := Lib.hid (HR5.out.below hb)
      have HZ6 := Lib.hid ((hb.block _ (lt_of_block HZ5.out)).trans HZ5.out)
      have hJ6 := own_inI hown6 hk6.symm (by have h0 := HFT.out 0; have h2 := HFT.out 2; have h4 := HFT.out 4; have g1 := HY1.out; have g3 := HY3.out; rw [← HX.out.1] at h0; rw [← HX.out.2.2.1] at h2; rw [← HX.out.2.2.2.2] at h4; intro x hx; simp only [List.mem_cons, List.not_mem_nil, or_false] at hx; omega)
      have CE := Lib.hid (iequal_any [x0, y1, x2, y3, x4] (l.take 5) a6 (some ⟨b, off, none⟩) k6 c7 5 c w6 hJ6 HI6.out (by rw [hk6]; simp) (decide ([x0, y1, x2, y3, x4] = l.take 5)) (by simp))
      clear hk6 hown6 hb hJ6 HF5 HB5 HI5 HR5 HZ5 CF e0 e1 e2 e3 e4
      obtain ⟨z, hz⟩ : ∃ z, z = decide ([x0, y1, x2, y3, x4] = l.take 5) := ⟨_, rfl⟩
      rw [← hz] at CE
      have HZB := Lib.hid hz
      clear hz
      go_wp2_with fail
      refine CE.out.mono ?_
      rintro e w7 ⟨rfl, hb⟩
      have HF7 := Lib.hid (HF6.out.later hb)
      have HB7 := Lib.hid (bl_tr HB6.out hb)
      have HR7 := Lib.hid (HR6.out.below hb)
      have HZ7 := Lib.hid ((hb.block _ (lt_of_block HZ6.out)).trans HZ6.out)
      clear hb HF6 HB6 HI6 HR6 HZ6 CE
      cases z with
      | true =>
        have hwy : [x0, y1, x2, y3, x4] = l.take 5 := of_decide_eq_true HZB.out.symm
        have HTOK : Hid (TOk l) := Lib.hid (HOK1.out.2 ⟨HFI.out, hwy⟩)
        have hxy : y1 = x1 ∧ y3 = x3 := by rw [HTK.out] at hwy; simp only [List.cons.injEq, and_true, true_and] at hwy; exact hwy
        have HXY := Lib.hid hxy
        have CC := Lib.hid (fun U (hU : Below w7.heap.size w7 U) => iclone_any (l.drop 5) (some ⟨b, o6, none⟩) n6 c6 U (HR7.out.below hU) (by have h1 := HR7.out.len; rw [List.length_drop, HLN.out] at h1; omega))
        have HZU : Hid (∀ U, Below w7.heap.size w7 U → U.heap[q0]? = some (.cells zeroFC 55 (0, 0))) := Lib.hid (fun U hU => by rw [HQ0.out]; exact (hU.block _ (lt_of_block HZ7.out)).trans HZ7.out)
        have hS0 : FvS w q6 x0 y1 x2 y3 x4 w7.drew := fvs_mk (HF7.out.later (Below.refl _ _).drew) HB7.out.drew
        have hd0 := (Below.refl w7.heap.size w7).drew
        have hq6 : q6 ≠ q0 := by rw [HQ0.out]; exact HNQ.out
        have HLL : Hid (n6 = (l.drop 5).length) := Lib.hid HR7.out.len.symm
        have HQ7 : Hid (q0 < w7.heap.size) := Lib.hid (by rw [HQ0.out]; exact lt_of_block HZ7.out)
        clear hwy hxy
        go_wp2_with fail
        go_region_held3 (fun wx => wx.cell? ⟨q6, 0, none⟩ = some (.int .i64 x0) ∧ wx.cell? ⟨q6, 1, none⟩ = some (.int .u32 y1) ∧ wx.cell? ⟨q6, 2, none⟩ = some (.int .i64 x2) ∧ wx.cell? ⟨q6, 3, none⟩ = some (.int .u32 y3) ∧ wx.cell? ⟨q6, 4, none⟩ = some (.int .i64 x4) ∧ Below w.heap.size w wx) (first | (with_reducible exact hS0) | (with_reducible exact hSr) | (with_reducible exact fvs_store _ _ _ _ _ hSf hq6 HQL.out hSb) | fail)
          (first | (go_at_call 41; (with_reducible refine (CC.out _ hd0).mono ?_); rintro e w8 ⟨a8, k8, c8, rfl, hk8, hown8, hb⟩; have HK8 := Lib.hid hk8; clear hk8; have hgr := bl_tr hd0 hb; have hSf := HF7.out.later hgr; have hSb := bl_tr HB7.out hgr; have hSr := fvs_mk hSf hSb; have hz8 := HZU.out w8 hgr; have zf := fun o => frozen_of_row w8 q0 o _ _ hz8; have zz := FvAt.of hz8; obtain ⟨z0, z1, z2, z3, z4⟩ := zz) | fail)
        all_goals
          rename_i hHeld
          have HO8 := Lib.hid (show w8.ownsRow w7.heap.size 3 1 (.slice a8 k8 c8) k8 (i64s (l.drop 5)) from hown8)
          have HB8 := Lib.hid (bl_tr HB7.out hgr)
          clear hown8 hgr hz8 hHeld hb hS0 hSf hSb hSr hd0
          go_wp2
          refine bodyPost_ret (v := .tuple #[fv x0 y1 x2 y3 x4, .slice a8 k8 c8, .nilIface]) (by simp [results, Try.results25, go_sem, z0, z1, z2, z3, z4]) rfl ?_
          rcases HO.out with ⟨_, rfl, rfl, rfl, _⟩ | ⟨h, _⟩
          · refine ⟨a8, k8, c8, by rw [HXY.out.1, HXY.out.2, ← HX.out.1, ← HX.out.2.1, ← HX.out.2.2.1, ← HX.out.2.2.2.1, ← HX.out.2.2.2.2], HK8.out, ?_, ?_⟩
            · refine own_base (B := w7.heap.size) ?_ HB7.out.size
              iterate 5 (refine ownsRow_setCell_below ?_ HQ7.out _)
              exact HO8.out
            · rw [HQ0.out]
              iterate 5 (refine Below.setCell ?_ (by first | exact Nat.le_refl _ | simp) _)
              exact HB8.out
          · exact absurd HTOK.out h
      | false =>
        have HNO : Hid (¬ TOk l) := Lib.hid (fun h => by have h1 := (HOK1.out.1 h).2; have h2 := decide_eq_true h1; rw [← HZB.out] at h2; cases h2)
        have HBE := Lib.hid HB7.out
        have hz7 := HZ7.out
        rw [← HQ0.out] at hz7
        have zf := fun o => frozen_of_row w7 q0 o _ _ hz7
        obtain ⟨z0, z1, z2, z3, z4⟩ := FvAt.of hz7
        clear hz7
        go_wp2
        refine bodyPost_ret (v := .tuple #[fv 0 0 0 0 0, .slice none 0 0, errnoM 3]) (by simp [results, Try.results25, go_sem, z0, z1, z2, z3, z4]) rfl ?_
        rcases HO.out with ⟨h, _⟩ | ⟨_, rfl, rfl, rfl, _⟩
        · exact absurd h HNO.out
        · refine ⟨none, 0, 0, rfl, rfl, World.ownsRow_nil _ _ _ _, ?_⟩
          rw [HQ0.out]
          iterate 5 (refine Below.setCell ?_ (by first | exact Nat.le_refl _ | simp) _)
          exact HBE.out
    · have CG := Lib.hid (flow_no x0 y1 x2 y3 x4 hfi X)
      have ne := someErrT
      have HNO : Hid (¬ TOk l) := Lib.hid (fun h => hfi (HOK1.out.1 h).1)
      clear hfi
      go_wp2_with fail
      refine CG.out.mono ?_
      rintro e w5 ⟨rfl, hb⟩
      have HBE := Lib.hid (bl_tr HBX.out hb)
      have hz5 := (hb.block _ (lt_of_block HZX.out)).trans HZX.out
      rw [← HQ0.out] at hz5
      have zf := fun o => frozen_of_row w5 q0 o _ _ hz5
      obtain ⟨z0, z1, z2, z3, z4⟩ := FvAt.of hz5
      clear hb hz5 HFX HBX HIX HZX HRX CG e0 e1 e2 e3 e4
      go_wp2
      refine bodyPost_ret (v := .tuple #[fv 0 0 0 0 0, .slice none 0 0, errnoM 3]) (by simp [results, Try.results25, go_sem, z0, z1, z2, z3, z4]) rfl ?_
      rcases HO.out with ⟨h, _⟩ | ⟨_, rfl, rfl, rfl, _⟩
      · exact absurd h HNO.out
      · refine ⟨none, 0, 0, rfl, rfl, World.ownsRow_nil _ _ _ _, ?_⟩
        rw [HQ0.out]
        iterate 5 (refine Below.setCell ?_ (by first | exact Nat.le_refl _ | simp) _)
        exact HBE.out
set_option maxRecDepth 100000 in
set_option maxHeartbeats 4000000 in
theorem takeFlow_five (l : List Int) (F : Value) (r : List Int) (E : Value) (f : Int) (b off : Nat) (w : World) (hI : InI w (some ⟨b, off, none⟩) 5 5 l) (ho : TOut l F r E f) :
    Calls Try.prog 25 #[.slice (some ⟨b, off, none⟩) 5 5] w (GotT w F r E) := by
  obtain ⟨W, hW⟩ : ∃ W, W = w.alloc (.cells zeroFC 55) := ⟨_, rfl⟩
  have HB : Hid (Below w.heap.size w W) := Lib.hid (by rw [hW]; exact bl_al (Below.refl _ _) _)
  have hz : W.heap[w.heap.size]? = some (.cells zeroFC 55 (0, 0)) := by rw [hW]; exact heap_alloc_new _ _
  have HZ := Lib.hid hz
  have HW := Lib.hid hW
  have hcap := hI.room
  have hlen := hI.len
  have hIW := hI.below HB.out
  have HI := Lib.hid hIW
  have HOK := Lib.hid (own_is (l := l) (by omega))
  have HO := Lib.hid ho
  have HLN := Lib.hid hlen
  have HFT : Hid (∀ j, -9223372036854775808 ≤ l.getD j 0 ∧ l.getD j 0 < 9223372036854775808) := Lib.hid (fun j => fitI_getD hI.fit j)
  have HCP := Lib.hid hcap
  have HH5 := Lib.hid (Nat.le_refl 5)
  obtain ⟨q0, hq0⟩ : ∃ q, q = w.heap.size := ⟨_, rfl⟩
  have HQ0 := Lib.hid hq0
  clear hI hIW hW hz ho hq0 hlen hcap
  go_enter Try.func25, Try.ntmps25
  go_upto_region 1 with fail
  rw [← HW.out, ← HQ0.out]
  clear HW
  go_wp2
  go_quiet (fail)
  obtain ⟨W1, hW1⟩ : ∃ X, X = W.drewN nq := ⟨_, rfl⟩
  have hb1 : Below W.heap.size W W1 := by rw [hW1]; exact below_drewN (Below.refl _ _) _
  rw [← hW1]
  have hI1 := HI.out.below hb1
  have HI1 := Lib.hid hI1
  have HI5 := Lib.hid (hI1.take 5 HH5.out)
  have HI6 := Lib.hid (show InI W1 (some ⟨b, off, none⟩) 0 0 (l.drop 5) by rw [List.drop_of_length_le (by rw [HLN.out]; exact Nat.le_refl _)]; exact ⟨rfl, Nat.le_refl _, (fun e => by cases e), AtI.nil _ _ _, by intro x hx; cases hx⟩)
  have hz1 := (hb1.block _ (lt_of_block HZ.out)).trans HZ.out
  have HZ1 := Lib.hid hz1
  have HB1 := Lib.hid (bl_tr HB.out hb1)
  have c0 : W1.cell? ⟨b, off, none⟩ = some (.int .i64 (l.getD 0 0)) := in_cellI hI1 0 (by have := HH5.out; omega)
  have c1 := in_cellI hI1 1 (by have := HH5.out; omega)
  have c2 := in_cellI hI1 2 (by have := HH5.out; omega)
  have c3 := in_cellI hI1 3 (by have := HH5.out; omega)
  have c4 := in_cellI hI1 4 (by have := HH5.out; omega)
  clear hW1 hb1 hI1 hz1 HI HZ HB
  have hok := HOK.out
  have htk := take5 (l := l) (by rw [HLN.out]; exact HH5.out)
  obtain ⟨x0, hx0⟩ : ∃ x, x = l.getD 0 0 := ⟨_, rfl⟩
  obtain ⟨x1, hx1⟩ : ∃ x, x = l.getD 1 0 := ⟨_, rfl⟩
  obtain ⟨x2, hx2⟩ : ∃ x, x = l.getD 2 0 := ⟨_, rfl⟩
  obtain ⟨x3, hx3⟩ : ∃ x, x = l.getD 3 0 := ⟨_, rfl⟩
  obtain ⟨x4, hx4⟩ : ∃ x, x = l.getD 4 0 := ⟨_, rfl⟩
  have HX := Lib.hid (show x0 = l.getD 0 0 ∧ x1 = l.getD 1 0 ∧ x2 = l.getD 2 0 ∧ x3 = l.getD 3 0 ∧ x4 = l.getD 4 0 from ⟨hx0, hx1, hx2, hx3, hx4⟩)
  rw [← hx0] at c0
  rw [← hx1] at c1
  rw [← hx2] at c2
  rw [← hx3] at c3
  rw [← hx4] at c4
  rw [← hx0, ← hx1, ← hx2, ← hx3, ← hx4] at hok htk
  have v1 : ∀ [Inhabited Nat], IntKind.u32.wrap x1 = x1 % 4294967296 := by intro _; rw [IntKind.wrap_u32']
  have v3 : ∀ [Inhabited Nat], IntKind.u32.wrap x3 = x3 % 4294967296 := by intro _; rw [IntKind.wrap_u32']
  obtain ⟨y1, hy1⟩ : ∃ y, y = x1 % 4294967296 := ⟨_, rfl⟩
  obtain ⟨y3, hy3⟩ : ∃ y, y = x3 % 4294967296 := ⟨_, rfl⟩
  rw [← hy1] at v1
  rw [← hy3] at v3
  rw [← hy1, ← hy3] at hok
  have HOK1 := Lib.hid hok
  have HTK := Lib.hid htk
  have HY1 := Lib.hid hy1
  have HY3 := Lib.hid hy3
  have hne := World.new_ne W1 _ c0
  have hne1 := World.new_ne W1 _ c1
  have hne2 := World.new_ne W1 _ c2
  have hne3 := World.new_ne W1 _ c3
  have hne4 := World.new_ne W1 _ c4
  have i0n : (0 : Nat) < 5 := by omega
  have hS0 : (W1.drew.cell? ⟨b, off, none⟩ = some (.int .i64 x0) ∧ W1.drew.cell? ⟨b, off + 1, none⟩ = some (.int .i64 x1) ∧ W1.drew.cell? ⟨b, off + 2, none⟩ = some (.int .i64 x2) ∧ W1.drew.cell? ⟨b, off + 3, none⟩ = some (.int .i64 x3) ∧ W1.drew.cell? ⟨b, off + 4, none⟩ = some (.int .i64 x4)) := ⟨c0, c1, c2, c3, c4⟩
  clear hok htk hx0 hx1 hx2 hx3 hx4 hy1 hy3 HOK
  go_wp2_with fail
  go_region_held3 (fun wx => wx.cell? ⟨b, off, none⟩ = some (.int .i64 x0) ∧ wx.cell? ⟨b, off + 1, none⟩ = some (.int .i64 x1) ∧ wx.cell? ⟨b, off + 2, none⟩ = some (.int .i64 x2) ∧ wx.cell? ⟨b, off + 3, none⟩ = some (.int .i64 x3) ∧ wx.cell? ⟨b, off + 4, none⟩ = some (.int .i64 x4) ) (first | (with_reducible exact hS0) | go_keep | fail) (fail)
  all_goals
    have HFX : Hid (FvAt (W1.alloc (.cells #[.int .i64 x0, .int .u32 y1, .int .i64 x2, .int .u32 y3, .int .i64 x4] 55)).drew W1.heap.size x0 y1 x2 y3 x4) := Lib.hid (FvAt.of (heap_alloc_new W1 _))
    have HBX := Lib.hid ((bl_al HB1.out (.cells #[.int .i64 x0, .int .u32 y1, .int .i64 x2, .int .u32 y3, .int .i64 x4] 55)).drew)
    have hbx := (bl_al (Below.refl W1.heap.size W1) (.cells #[.int .i64 x0, .int .u32 y1, .int .i64 x2, .int .u32 y3, .int .i64 x4] 55)).drew
    have HIX := Lib.hid (HI5.out.below hbx)
    have HRX := Lib.hid (HI6.out.below hbx)
    have HZX : Hid ((W1.alloc (.cells #[.int .i64 x0, .int .u32 y1, .int .i64 x2, .int .u32 y3, .int .i64 x4] 55)).drew.heap[w.heap.size]? = some (.cells zeroFC 55 (0, 0))) := Lib.hid ((heap_alloc_old W1 _ (lt_of_block HZ1.out)).trans HZ1.out)
    obtain ⟨X, hX⟩ : ∃ X, X = (W1.alloc (.cells #[.int .i64 x0, .int .u32 y1, .int .i64 x2, .int .u32 y3, .int .i64 x4] 55)).drew := ⟨_, rfl⟩
    obtain ⟨q6, hq6⟩ : ∃ q, q = W1.heap.size := ⟨_, rfl⟩
    have HNQ : Hid (q6 ≠ w.heap.size) := Lib.hid (by have := lt_of_block HZ1.out; omega)
    have HQL : Hid (w.heap.size ≤ q0) := Lib.hid (by rw [HQ0.out]; exact Nat.le_refl _)
    rw [← hX] at HFX HBX HIX HZX HRX
    rw [← hq6] at HFX
    rw [← hX, ← hq6]
    clear hX hq6 hS0 c0 c1 c2 c3 c4 hne hne1 hne2 hne3 hne4 HZ1 HB1 HI1 HI5 HI6 v1 v3 hbx
    obtain ⟨e0, e1, e2, e3, e4⟩ := HFX.out
    by_cases hfi : FlowOk x0 x2 x4
    · have CG := Lib.hid (flow_ok x0 y1 x2 y3 x4 hfi X)
      have ne := nilErrT
      have HFI := Lib.hid hfi
      clear hfi
      go_wp2_with fail
      refine CG.out.mono ?_
      rintro e w5 ⟨rfl, hb⟩
      have HF5 := Lib.hid (HFX.out.later hb)
      have HB5 := Lib.hid (bl_tr HBX.out hb)
      have HI5 := Lib.hid (HIX.out.below hb)
      have HR5 := Lib.hid (HRX.out.below hb)
      have HZ5 := Lib.hid ((hb.block _ (lt_of_block HZX.out)).trans HZX.out)
      have CF := Lib.hid (flowN_t x0 y1 x2 y3 x4 w5 (by have := HY1.out; omega) (by have := HY3.out; omega))
      clear hb HFX HBX HIX HZX HRX CG e0 e1 e2 e3 e4
      obtain ⟨e0, e1, e2, e3, e4⟩ := HF5.out
      go_wp2_with fail
      refine CF.out.mono ?_
      rintro e w6 ⟨a6, k6, c7, rfl, hk6, hown6, hb⟩
      have HF6 := Lib.hid (HF5.out.later hb)
      have HB6 := Lib.hid (bl_tr HB5.out hb)
      have HI6 := Lib.hid (HI5.out.below hb)
      have HR6 := Lib.hid (HR5.out.below hb)
      have HZ6 := Lib.hid ((hb.block _ (lt_of_block HZ5.out)).trans HZ5.out)
      have hJ6 := own_inI hown6 hk6.symm (by have h0 := HFT.out 0; have h2 := HFT.out 2; have h4 := HFT.out 4; have g1 := HY1.out; have g3 := HY3.out; rw [← HX.out.1] at h0; rw [← HX.out.2.2.1] at h2; rw [← HX.out.2.2.2.2] at h4; intro x hx; simp only [List.mem_cons, List.not_mem_nil, or_false] at hx; omega)
      have CE := Lib.hid (iequal_any [x0, y1, x2, y3, x4] (l.take 5) a6 (some ⟨b, off, none⟩) k6 c7 5 5 w6 hJ6 HI6.out (by rw [hk6]; simp) (decide ([x0, y1, x2, y3, x4] = l.take 5)) (by simp))
      clear hk6 hown6 hb hJ6 HF5 HB5 HI5 HR5 HZ5 CF e0 e1 e2 e3 e4
      obtain ⟨z, hz⟩ : ∃ z, z = decide ([x0, y1, x2, y3, x4] = l.take 5) := ⟨_, rfl⟩
      rw [← hz] at CE
      have HZB := Lib.hid hz
      clear hz
      go_wp2_with fail
      refine CE.out.mono ?_
      rintro e w7 ⟨rfl, hb⟩
      have HF7 := Lib.hid (HF6.out.later hb)
      have HB7 := Lib.hid (bl_tr HB6.out hb)
      have HR7 := Lib.hid (HR6.out.below hb)
      have HZ7 := Lib.hid ((hb.block _ (lt_of_block HZ6.out)).trans HZ6.out)
      clear hb HF6 HB6 HI6 HR6 HZ6 CE
      cases z with
      | true =>
        have hwy : [x0, y1, x2, y3, x4] = l.take 5 := of_decide_eq_true HZB.out.symm
        have HTOK : Hid (TOk l) := Lib.hid (HOK1.out.2 ⟨HFI.out, hwy⟩)
        have hxy : y1 = x1 ∧ y3 = x3 := by rw [HTK.out] at hwy; simp only [List.cons.injEq, and_true, true_and] at hwy; exact hwy
        have HXY := Lib.hid hxy
        have CC := Lib.hid (fun U (hU : Below w7.heap.size w7 U) => iclone_any (l.drop 5) (some ⟨b, off, none⟩) 0 0 U (HR7.out.below hU) (by have h1 := HR7.out.len; rw [List.length_drop, HLN.out] at h1; omega))
        have HZU : Hid (∀ U, Below w7.heap.size w7 U → U.heap[q0]? = some (.cells zeroFC 55 (0, 0))) := Lib.hid (fun U hU => by rw [HQ0.out]; exact (hU.block _ (lt_of_block HZ7.out)).trans HZ7.out)
        have hS0 : FvS w q6 x0 y1 x2 y3 x4 w7.drew := fvs_mk (HF7.out.later (Below.refl _ _).drew) HB7.out.drew
        have hd0 := (Below.refl w7.heap.size w7).drew
        have hq6 : q6 ≠ q0 := by rw [HQ0.out]; exact HNQ.out
        have HLL : Hid (0 = (l.drop 5).length) := Lib.hid HR7.out.len.symm
        have HQ7 : Hid (q0 < w7.heap.size) := Lib.hid (by rw [HQ0.out]; exact lt_of_block HZ7.out)
        clear hwy hxy
        go_wp2_with fail
        go_region_held3 (fun wx => wx.cell? ⟨q6, 0, none⟩ = some (.int .i64 x0) ∧ wx.cell? ⟨q6, 1, none⟩ = some (.int .u32 y1) ∧ wx.cell? ⟨q6, 2, none⟩ = some (.int .i64 x2) ∧ wx.cell? ⟨q6, 3, none⟩ = some (.int .u32 y3) ∧ wx.cell? ⟨q6, 4, none⟩ = some (.int .i64 x4) ∧ Below w.heap.size w wx) (first | (with_reducible exact hS0) | (with_reducible exact hSr) | (with_reducible exact fvs_store _ _ _ _ _ hSf hq6 HQL.out hSb) | fail)
          (first | (go_at_call 41; (with_reducible refine (CC.out _ hd0).mono ?_); rintro e w8 ⟨a8, k8, c8, rfl, hk8, hown8, hb⟩; have HK8 := Lib.hid hk8; clear hk8; have hgr := bl_tr hd0 hb; have hSf := HF7.out.later hgr; have hSb := bl_tr HB7.out hgr; have hSr := fvs_mk hSf hSb; have hz8 := HZU.out w8 hgr; have zf := fun o => frozen_of_row w8 q0 o _ _ hz8; have zz := FvAt.of hz8; obtain ⟨z0, z1, z2, z3, z4⟩ := zz) | fail)
        all_goals
          rename_i hHeld
          have HO8 := Lib.hid (show w8.ownsRow w7.heap.size 3 1 (.slice a8 k8 c8) k8 (i64s (l.drop 5)) from hown8)
          have HB8 := Lib.hid (bl_tr HB7.out hgr)
          clear hown8 hgr hz8 hHeld hb hS0 hSf hSb hSr hd0
          go_wp2
          refine bodyPost_ret (v := .tuple #[fv x0 y1 x2 y3 x4, .slice a8 k8 c8, .nilIface]) (by simp [results, Try.results25, go_sem, z0, z1, z2, z3, z4]) rfl ?_
          rcases HO.out with ⟨_, rfl, rfl, rfl, _⟩ | ⟨h, _⟩
          · refine ⟨a8, k8, c8, by rw [HXY.out.1, HXY.out.2, ← HX.out.1, ← HX.out.2.1, ← HX.out.2.2.1, ← HX.out.2.2.2.1, ← HX.out.2.2.2.2], HK8.out, ?_, ?_⟩
            · refine own_base (B := w7.heap.size) ?_ HB7.out.size
              iterate 5 (refine ownsRow_setCell_below ?_ HQ7.out _)
              exact HO8.out
            · rw [HQ0.out]
              iterate 5 (refine Below.setCell ?_ (by first | exact Nat.le_refl _ | simp) _)
              exact HB8.out
          · exact absurd HTOK.out h
      | false =>
        have HNO : Hid (¬ TOk l) := Lib.hid (fun h => by have h1 := (HOK1.out.1 h).2; have h2 := decide_eq_true h1; rw [← HZB.out] at h2; cases h2)
        have HBE := Lib.hid HB7.out
        have hz7 := HZ7.out
        rw [← HQ0.out] at hz7
        have zf := fun o => frozen_of_row w7 q0 o _ _ hz7
        obtain ⟨z0, z1, z2, z3, z4⟩ := FvAt.of hz7
        clear hz7
        go_wp2
        refine bodyPost_ret (v := .tuple #[fv 0 0 0 0 0, .slice none 0 0, errnoM 3]) (by simp [results, Try.results25, go_sem, z0, z1, z2, z3, z4]) rfl ?_
        rcases HO.out with ⟨h, _⟩ | ⟨_, rfl, rfl, rfl, _⟩
        · exact absurd h HNO.out
        · refine ⟨none, 0, 0, rfl, rfl, World.ownsRow_nil _ _ _ _, ?_⟩
          rw [HQ0.out]
          iterate 5 (refine Below.setCell ?_ (by first | exact Nat.le_refl _ | simp) _)
          exact HBE.out
    · have CG := Lib.hid (flow_no x0 y1 x2 y3 x4 hfi X)
      have ne := someErrT
      have HNO : Hid (¬ TOk l) := Lib.hid (fun h => hfi (HOK1.out.1 h).1)
      clear hfi
      go_wp2_with fail
      refine CG.out.mono ?_
      rintro e w5 ⟨rfl, hb⟩
      have HBE := Lib.hid (bl_tr HBX.out hb)
      have hz5 := (hb.block _ (lt_of_block HZX.out)).trans HZX.out
      rw [← HQ0.out] at hz5
      have zf := fun o => frozen_of_row w5 q0 o _ _ hz5
      obtain ⟨z0, z1, z2, z3, z4⟩ := FvAt.of hz5
      clear hb hz5 HFX HBX HIX HZX HRX CG e0 e1 e2 e3 e4
      go_wp2
      refine bodyPost_ret (v := .tuple #[fv 0 0 0 0 0, .slice none 0 0, errnoM 3]) (by simp [results, Try.results25, go_sem, z0, z1, z2, z3, z4]) rfl ?_
      rcases HO.out with ⟨h, _⟩ | ⟨_, rfl, rfl, rfl, _⟩
      · exact absurd h HNO.out
      · refine ⟨none, 0, 0, rfl, rfl, World.ownsRow_nil _ _ _ _, ?_⟩
        rw [HQ0.out]
        iterate 5 (refine Below.setCell ?_ (by first | exact Nat.le_refl _ | simp) _)
        exact HBE.out
/-- TakeFlow. -/
theorem takeFlow_t {l : List Int} {F : Value} {r : List Int} {E : Value} {f : Int} (h : TOut l F r E f) (a : Option Addr) (n c : Nat) (w : World) (hI : InI w a n c l) (hn : n ≤ 17592186043904) :
    Calls Try.prog 25 #[.slice a n c] w (GotT w F r E) := by
  by_cases h5 : n < 5
  · rcases h with ⟨h, _⟩ | ⟨_, rfl, rfl, rfl, _⟩
    · have := h.1
      rw [hI.len] at this
      omega
    · exact takeFlow_few l a n c w h5
  · obtain ⟨b, off, rfl⟩ := in_blockI hI (by omega)
    by_cases hc : c = 5
    · have hr := hI.room
      obtain rfl : n = 5 := by omega
      subst hc
      exact takeFlow_five l F r E f b off w hI h
    · exact takeFlow_main l F r E f b off n c w hI (by omega) hn h hc
end Go.Proofs.Ytbfcgnggcgodhaa
