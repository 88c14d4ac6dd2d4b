/- Contract of towpathlaw08.alive: it returns true. No conditions. -/
import Derived.Test.YtkiccdgfhahdlaaFbc
import Derived.Deep.CutRange
import Derived.Laws.Pointers
import Derived.Lib.SmallJoins
namespace Go.Proofs.Ytkiccdgfhahdlaa
open Go Go.RowKit
set_option linter.unusedVariables false
set_option linter.unusedSimpArgs false

theorem one_in {w : World} {g : Nat} {x : Int} {fr : Nat × Nat} (h : w.heap[g]? = some (.cells #[.int .u8 x] 5 fr)) (hx : 0 ≤ x ∧ x < 256) : In w (some ⟨g, 0, none⟩) 1 1 [x] := by
  refine ⟨rfl, Nat.le_refl _, (fun e => by cases e), ⟨_, 1, rfl, .inr ⟨g, 0, rfl, fun j hj => ?_⟩⟩, fit_cons hx fit_nil⟩
  have : j = 0 := by simp at hj; omega
  subst this
  rw [cell_of_row w g 0 _ _ _ h]
  rfl
/-- Behind a constant byte: a row of it. -/
abbrev W1 (w : World) (x : Int) : World := w.alloc (.cells #[.int .u8 x] 5 (1, 2))
theorem one_rsp {w U : World} {F : Nat → Prop} {x : Int} (hx : 0 ≤ x ∧ x < 256) (hF : ∀ k, F k → k < w.heap.size) (hU : Tch F (W1 w x) U) : In U (some ⟨w.heap.size, 0, none⟩) 1 1 [x] :=
  one_in (hU.at (heap_alloc_new w _) (fun h => Nat.lt_irrefl _ (hF _ h))) hx
theorem errEq (w : World) : (binOp .eql 36 .nilIface .nilIface).run Try.prog w = .ok (.bool true) w := by kernel_rfl
/-- The two letters of the example. -/
def exA : Lt := ⟨1, 0, 32, false, [120]⟩
def exB : Lt := ⟨2, 32, 48, true, [121]⟩
set_option maxRecDepth 100000 in
set_option maxHeartbeats 1000000 in
theorem alive8_any (w : World) : Calls Try.prog 9 #[] w fun e w' => e = .returned (.bool true) ∧ Below w.heap.size w w' := by
  have CN := Lib.hid (fnew_t w)
  have en := errEq
  have n0 : IsNode 0 := by decide
  have n1 : IsNode 32 := by decide
  have n2 : IsNode 48 := by decide
  have eA : sendR [] 0 0 32 false [120] = (1, 0, [exA], 1) := by unfold sendR putR; rw [if_pos ⟨n0, n1⟩, if_neg (by decide)]; rfl
  have eB : sendR [exA] 1 32 48 true [121] = (2, 0, [exA, exB], 2) := by unfold sendR putR; rw [if_pos ⟨n1, n2⟩, if_neg (by decide)]; rfl
  have HA := Lib.hid eA
  have HBq := Lib.hid eB
  clear eA eB n0 n1 n2
  go_enter Try.func9, Try.ntmps9
  go_wp2_with fail
  refine CN.out.mono ?_
  rintro e w1 ⟨f, F, rfl, hf, hb⟩
  have hF := hf.blocks
  have kc0 : (convert 31 31 (.slice (some ⟨w1.heap.size, 0, none⟩) 1 1)).run Try.prog (w1.alloc (.cells #[.int .u8 120] 5)) = .ok (.slice (some ⟨w1.heap.size, 0, none⟩) 1 1) (w1.alloc (.cells #[.int .u8 120] 5 (1, 2))) := Lib.run_convert_bytes_const (P := Try.prog) w1 31 5 #[.int .u8 120] 1 1 Try.underlying31 Try.underlying5
  have hT1 : Tch Non w1 (W1 w1 120) := tch_alloc _ _
  have CS := Lib.hid (fsend_t w.heap.size f 0 F [] 0 32 false [120] (some ⟨w1.heap.size, 0, none⟩) 1 1 (W1 w1 120) (hf.keep hT1 (fun _ _ h => h)) (Nat.le_trans hb.size hT1.size) (by simp) (by omega) ⟨by omega, by omega⟩ ⟨by omega, by omega⟩ (fun U hU => one_rsp (by omega) (fun k hk => (hF k hk).2) hU) (by omega))
  rw [HA.out] at CS
  have HB := Lib.hid (hb.trans ((bl_al (Below.refl w1.heap.size w1) (.cells #[.int .u8 120] 5 (1, 2))).mono hb.size))
  have HFB := Lib.hid (fun k hk => (hF k hk).1)
  clear hf hb hF hT1 CN
  go_wp2_with fail
  refine CS.out.mono ?_
  rintro e w2 ⟨rfl, F2, hf, hn, ht⟩
  have hF1 := HFB.out
  have hb2 : Below w.heap.size w w2 := HB.out.trans (ht.below hF1 HB.out.size)
  have hF2 := hf.blocks
  have kc1 : (convert 31 31 (.slice (some ⟨w2.heap.size, 0, none⟩) 1 1)).run Try.prog (w2.alloc (.cells #[.int .u8 121] 5)) = .ok (.slice (some ⟨w2.heap.size, 0, none⟩) 1 1) (w2.alloc (.cells #[.int .u8 121] 5 (1, 2))) := Lib.run_convert_bytes_const (P := Try.prog) w2 31 5 #[.int .u8 121] 1 1 Try.underlying31 Try.underlying5
  have hT2 : Tch Non w2 (W1 w2 121) := tch_alloc _ _
  have CT := Lib.hid (fsend_t w.heap.size f 1 F2 [exA] 32 48 true [121] (some ⟨w2.heap.size, 0, none⟩) 1 1 (W1 w2 121) (hf.keep hT2 (fun _ _ h => h)) (Nat.le_trans hb2.size hT2.size) (by simp) (by omega) ⟨by omega, by omega⟩ ⟨by omega, by omega⟩ (fun U hU => one_rsp (by omega) (fun k hk => (hF2 k hk).2) hU) (by omega))
  rw [HBq.out] at CT
  have HB2 := Lib.hid (hb2.trans ((bl_al (Below.refl w2.heap.size w2) (.cells #[.int .u8 121] 5 (1, 2))).mono hb2.size))
  have HF2 := Lib.hid (fun k hk => (hF2 k hk).1)
  clear hf hb2 hF2 hT2 CS hn ht HB hF1
  go_wp2_with fail
  refine CT.out.mono ?_
  rintro e w3 ⟨rfl, F3, hf, hn, ht⟩
  have hb3 : Below w.heap.size w w3 := HB2.out.trans (ht.below HF2.out HB2.out.size)
  have hF3 := hf.blocks
  have CK := Lib.hid (ftake_t w.heap.size f 2 F3 [exA, exB] 3 w3 hf hb3.size (by simp) ⟨by omega, by omega⟩ (fun l hl => by
    simp only [List.mem_cons, List.not_mem_nil, or_false] at hl
    rcases hl with rfl | rfl <;> simp [exA, exB]))
  rw [show nthR [exA, exB] 3 = (exB, 0) from rfl, show leftR [exA, exB] 3 = [exA] from rfl] at CK
  have HB3 := Lib.hid hb3
  have HF3 := Lib.hid (fun k hk => (hF3 k hk).1)
  clear hf hb3 hF3 CT hn ht HB2 kc0 kc1
  go_wp2_with fail
  refine CK.out.mono ?_
  rintro e w4 ⟨v, F4, rfl, ho, hv, hf, hn, ht⟩
  obtain ⟨av, cv, rfl⟩ := own_form ho
  have hb4 : Below w.heap.size w w4 := HB3.out.trans (ht.below HF3.out HB3.out.size)
  obtain ⟨Y, hY⟩ : ∃ Y, Y = w4.alloc (.cells #[.int .i64 2, .int .i64 32, .int .i64 48, .bool true, .slice av 1 cv] tyL) := ⟨_, rfl⟩
  have hTY : Tch Non w4 Y := by rw [hY]; exact tch_alloc _ _
  have hY1 : Bx Y w4.heap.size exB (.slice av 1 cv) := by rw [hY]; exact Bx.new w4 exB _
  obtain ⟨p, hp⟩ : ∃ p, p = w4.heap.size := ⟨_, rfl⟩
  rw [← hp] at hY1
  obtain ⟨y0, y1, y2, y3, y4⟩ := hY1.cell
  have hst : (convert 31 9 (.slice av 1 cv)).run Try.prog Y = .ok (.string ⟨#[121]⟩) Y := str_of (l := [121]) ((At.own ho).below (by rw [hY]; exact bl_al (Below.refl _ _) _)) rfl
  have CL := Lib.hid (flen_t w.heap.size f 2 F4 [exA] Y (hf.keep hTY (fun _ _ h => h)))
  have HBY := Lib.hid (show Below w.heap.size w Y by rw [hY]; exact bl_al hb4 _)
  have HY := Lib.hid hY
  have HP := Lib.hid hp
  have z0 : Y.cell? ⟨p, 0, none⟩ = some (.int .i64 2) := y0
  have z2 : Y.cell? ⟨p, 2, none⟩ = some (.int .i64 48) := y2
  clear hf hn ht ho hv hb4 hTY hY1 hY hp y0 y1 y2 y3 CK
  unfold Lt.val exB
  go_upto_region 7 with fail
  rw [show errF 0 = Value.nilIface from rfl, ← HY.out, ← HP.out]
  clear HY HP
  go_wp2_with fail
  refine CL.out.mono ?_
  rintro e w5 ⟨rfl, ht⟩
  have HB5 := Lib.hid (HBY.out.trans (ht.below (fun _ h => h.elim) HBY.out.size))
  clear ht CL hst z0 z2 y4
  go_wp2
  go_ret
  exact ⟨rfl, HB5.out⟩
end Go.Proofs.Ytkiccdgfhahdlaa
