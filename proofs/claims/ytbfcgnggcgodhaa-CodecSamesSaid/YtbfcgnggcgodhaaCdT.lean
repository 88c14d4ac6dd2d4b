/- Contracts of codec's Same, Make and Flow. Conditions: the rows came in; those stated. -/
import Derived.Test.YtbfcgnggcgodhaaCdA
import Derived.Deep.RegionHeld3
namespace Go.Proofs.Ytbfcgnggcgodhaa
open Go Go.RowKit
set_option linter.unusedVariables false
set_option linter.unusedSimpArgs false

set_option maxRecDepth 100000 in
/-- Flow. -/
theorem flowN_t (pr s sp d dp : Int) (w : World) (hs : 0 ≤ s ∧ s < 4294967296) (hd : 0 ≤ d ∧ d < 4294967296) :
    Calls Try.prog 28 #[fv pr s sp d dp] w (GotI w [pr, s, sp, d, dp]) := by
  have v1 : ∀ [Inhabited Nat], IntKind.i64.wrap s = s := by intro _; exact IntWalk.i64_in _ (by omega)
  have v2 : ∀ [Inhabited Nat], IntKind.i64.wrap d = d := by intro _; exact IntWalk.i64_in _ (by omega)
  obtain ⟨W, hW⟩ : ∃ W, W = w.alloc (.cells #[.int .i64 pr, .int .u32 s, .int .i64 sp, .int .u32 d, .int .i64 dp] 55) := ⟨_, rfl⟩
  have HB := Lib.hid (show Below w.heap.size w W by rw [hW]; exact bl_al (Below.refl _ _) _)
  have HS : Hid (W.heap.size = w.heap.size + 1) := Lib.hid (by rw [hW]; simp)
  have O := Lib.hid (own_litI W [pr, s, sp, d, dp] #[.int .i64 pr, .int .i64 s, .int .i64 sp, .int .i64 d, .int .i64 dp] rfl 5 w.heap.size rfl HB.out.size (by unfold maxLen; omega))
  have HB2 := Lib.hid (bl_al HB.out (.cells #[.int .i64 pr, .int .i64 s, .int .i64 sp, .int .i64 d, .int .i64 dp] 3))
  rw [HS.out] at O
  rw [hW] at O HB2
  clear hs hd hW HB HS
  go_enter Try.func28, Try.ntmps28
  go_wp2
  go_ret
  exact ⟨_, 5, 5, rfl, rfl, O.out, HB2.out⟩

set_option maxRecDepth 100000 in
/-- Make. -/
theorem make_t (kind : Int) (a : Option Addr) (n c : Nat) (l : List Int) (w : World) (hI : InI w a n c l) (hn : n ≤ 17592186043904) :
    Calls Try.prog 30 #[.int .i64 kind, .slice a n c] w (GotV w ⟨kind, l, []⟩) := by
  obtain ⟨W, hW⟩ : ∃ W, W = w.alloc (mobj 0 none 0 0 none 0 0) := ⟨_, rfl⟩
  have HB := Lib.hid (show Below w.heap.size w W by rw [hW]; exact bl_al (Below.refl _ _) _)
  have HQ : Hid (W.heap[w.heap.size]? = some (.cells (mcs 0 none 0 0 none 0 0) 25 (0, 0))) := Lib.hid (by rw [hW]; exact heap_alloc_new _ _)
  have CC := Lib.hid (iclone_any l a n c W (hI.below HB.out) hn)
  have HW := Lib.hid hW
  obtain ⟨q0, hq0⟩ : ∃ q, q = w.heap.size := ⟨_, rfl⟩
  have HQ0 := Lib.hid hq0
  clear hI hW hq0
  go_enter Try.func30, Try.ntmps30
  go_upto_region 1 with fail
  rw [← HW.out, ← HQ0.out]
  clear HW
  go_wp2_with fail
  refine CC.out.mono ?_
  rintro e w1 ⟨a1, n1, c1, rfl, hn1, hown, hb⟩
  have hz1 : w1.heap[q0]? = some (.cells (mcs 0 none 0 0 none 0 0) 25 (0, 0)) := by rw [HQ0.out]; exact (hb.block _ (lt_of_block HQ.out)).trans HQ.out
  have HB1 := Lib.hid (bl_tr HB.out hb)
  have HO1 := Lib.hid (own_base hown HB.out.size)
  have HL := Lib.hid hn1
  have HLT : Hid (q0 < W.heap.size) := Lib.hid (by rw [HQ0.out]; exact lt_of_block HQ.out)
  have HO1' := Lib.hid hown
  obtain ⟨z0, z1, z2⟩ := MAt.of hz1
  have zf := fun o => frozen_of_row w1 q0 o _ _ hz1
  clear hown hb hn1 hz1 CC
  go_wp2
  refine bodyPost_ret (v := mval kind a1 n1 c1 none 0 0) (by simp [results, Try.results30, go_sem, z0, z1, z2]) rfl ?_
  refine ⟨a1, n1, c1, none, 0, 0, rfl, HL.out, rfl, ?_, World.ownsRow_nil _ _ _ _, ?_⟩
  · refine own_base (B := W.heap.size) ?_ HB.out.size
    iterate 3 (refine ownsRow_setCell_below ?_ HLT.out _)
    exact HO1'.out
  · rw [HQ0.out]
    iterate 3 (refine Below.setCell ?_ (by first | exact Nat.le_refl _ | simp) _)
    exact HB1.out
end Go.Proofs.Ytbfcgnggcgodhaa
