/- Contract of towpathlaw09.alive: it returns true. No conditions. -/
import Derived.Test.YtkacbeighaccjaaRgc
import Derived.Laws.Pointers
import Derived.Lib.SmallJoins
namespace Go.Proofs.Ytkacbeighaccjaa
open Go Go.RowKit
set_option linter.unusedVariables false
set_option linter.unusedSimpArgs false

theorem own_oneI (w : World) (x : Int) : (w.alloc (.cells #[.int .i64 x] 3)).ownsRow w.heap.size 3 1 (.slice (some ⟨w.heap.size, 0, none⟩) 1 1) 1 (i64s [x]) := own_litI w [x] _ rfl 1 _ rfl (Nat.le_refl _) (by decide)
theorem in_oneI (w : World) (x : Int) (hx : -9223372036854775808 ≤ x ∧ x < 9223372036854775808) : InI (w.alloc (.cells #[.int .i64 x] 3)) (some ⟨w.heap.size, 0, none⟩) 1 1 [x] :=
  own_inI (own_oneI w x) rfl (fun b hb => by simp at hb; subst hb; exact hx)
theorem in_oneE (w : World) (e : En) (ht : TyEn e) : InE (w.alloc (.cells #[.int .u32 e.dip, .int .i64 e.port, .int .i64 e.wt] tyE)) (some ⟨w.heap.size, 0, none⟩) 1 1 [e] := by
  refine ⟨rfl, Nat.le_refl _, (fun e => by cases e), .inr ⟨_, 0, rfl, fun t u hu => ?_⟩, fun x hx => by simp at hx; subst hx; exact ht⟩
  rw [cellsE_one] at hu
  exact cells_new w e.cs tyE (0, 0) t u hu
theorem errEq (w : World) : (binOp .eql 32 .nilIface .nilIface).run Try.prog w = .ok (.bool true) w := by kernel_rfl
theorem okOne : OkMs [32] := ⟨by decide, by decide, fun m hm => by simp at hm; subst hm; decide⟩
theorem own_one (P : Nat) (hP : 0 < P) (m key : Int) : ownR P [m] key = [m] := List.perm_singleton.1 (ownR_perm hP (by simp) key)
def aF : Fl := ⟨6, 0, 0, 0, 0⟩
def aE : En := ⟨167837697, 80, 1⟩
theorem chosen_one {k : Int} (h : Chosen aF [aE] k) : k = 0 := by
  obtain ⟨t, h⟩ := h
  have e : scP aF [aE] [aE].length = [(-(scE aF aE 0), (0 : Int))] := rfl
  rw [e] at h
  rcases h with ⟨h0, _⟩ | ⟨_, h1, _⟩
  · simp at h0
  · simp only [List.mem_singleton, Prod.mk.injEq] at h1
    exact h1.2
set_option maxRecDepth 100000 in
set_option maxHeartbeats 2000000 in
theorem alive9_any (w : World) : Calls Try.prog 11 #[] w fun e w' => e = .returned (.bool true) ∧ Below w.heap.size w w' := by
  have en := errEq
  have CN := Lib.hid (rnew_t 4 [32] (some ⟨w.heap.size, 0, none⟩) 1 1 _ (in_oneI w 32 (by omega)) (by omega) (by omega) 0 ⟨fun h => absurd (by unfold OkP; omega) h, fun _ h => absurd okOne h, fun _ _ => rfl⟩)
  have hb0 := bl_al (Below.refl w.heap.size w) (.cells #[.int .i64 32] 3)
  have HB0 := Lib.hid hb0
  clear hb0
  go_enter Try.func11, Try.ntmps11
  go_wp2_with fail
  refine CN.out.mono ?_
  rintro e w1 ⟨h | h, hb⟩
  case inr => exact absurd rfl h.1
  obtain ⟨_, r, rfl, hr⟩ := h
  have HR := Lib.hid hr
  have HB1 := Lib.hid (bl_tr HB0.out hb)
  have CC := Lib.hid (rchoose_t aF [aE] (some ⟨w1.heap.size, 0, none⟩) 1 1 _ (in_oneE w1 aE (by unfold TyEn aE; simp only; omega)) (by omega) (by unfold TyF aF; simp only; omega))
  unfold Fl.val aF at CC
  clear hr hb CN HB0
  go_wp2_with fail
  refine CC.out.mono ?_
  rintro e w2 ⟨k, hk, rfl, hb⟩
  have hk0 := chosen_one hk
  subst hk0
  have hb2 := bl_tr (bl_al (Below.refl w1.heap.size w1) (.cells #[.int .u32 aE.dip, .int .i64 aE.port, .int .i64 aE.wt] tyE)) hb
  have HB2 := Lib.hid hb2
  rw [show eOf [aE] 0 = aE from rfl, show decide ((0 : Int) ≤ 0) = true from rfl]
  unfold En.val aE
  clear hk hb hb2 CC
  obtain ⟨Y, hY⟩ : ∃ Y, Y = w2.alloc (.cells #[.int .u32 167837697, .int .i64 80, .int .i64 1] tyE) := ⟨_, rfl⟩
  have hbY : Below w1.heap.size w1 Y := by rw [hY]; exact bl_al HB2.out _
  have z1 : Y.cell? ⟨w2.heap.size, 1, none⟩ = some (.int .i64 80) := by rw [hY, cell_of_row _ _ 1 _ _ _ (heap_alloc_new w2 _)]; rfl
  have hlt : w2.heap.size < Y.heap.size := by rw [hY]; simp
  have CO := Lib.hid (rowners_t r 4 [32] 7 2 Y (HR.out.below hbY) (by omega) (by omega))
  rw [own_one 4 (by omega)] at CO
  have HLT := Lib.hid hlt
  obtain ⟨q, hq⟩ : ∃ q, q = w2.heap.size := ⟨_, rfl⟩
  rw [← hq] at z1 HLT
  have HY := Lib.hid (And.intro hY hq)
  have HBY := Lib.hid (bl_tr HB1.out hbY)
  clear hY hbY hlt hq HB2 HB1 HR
  go_upto_region 3 with fail
  rw [← HY.out.1, ← HY.out.2]
  go_wp2_with fail
  refine CO.out.mono ?_
  rintro e w4 ⟨ao, co, rfl, ho, hb⟩
  have ho1 := own_inI (n := 1) (l := [32]) ho rfl (fun b hb => by simp at hb; subst hb; decide)
  have hbA := bl_al (Below.refl w4.heap.size w4) (.cells #[.int .i64 32] 3)
  have CI := Lib.hid (ints_any [32] [32] ao (some ⟨w4.heap.size, 0, none⟩) 1 co 1 1 _ (ho1.below hbA) (in_oneI w4 32 (by omega)) (by omega) true (by simp))
  have HB4 := Lib.hid (bl_tr hb hbA)
  have HZ1 := Lib.hid z1
  clear ho ho1 hb hbA CO z1
  go_wp2_with fail
  refine CI.out.mono ?_
  rintro e w5 ⟨rfl, hb⟩
  have hb5 := bl_tr HB4.out hb
  have z1 := (hb5.cell (p := ⟨q, 1, none⟩) HLT.out).trans HZ1.out
  have HB5 := Lib.hid (bl_tr HBY.out hb5)
  clear CI hb hb5
  go_wp2
  go_ret
  exact ⟨rfl, HB5.out⟩
end Go.Proofs.Ytkacbeighaccjaa
