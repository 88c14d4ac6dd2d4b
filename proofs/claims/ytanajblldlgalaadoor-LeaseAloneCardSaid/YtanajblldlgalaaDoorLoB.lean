/- LeaseAlone's overlap; errors compared with nil. Conditions: the leases' numbers fit their kinds. -/
import Derived.Test.YtanajblldlgalaaDoorLoA
namespace Go.Proofs.YtanajblldlgalaaDoor
open Go Go.RowKit
set_option linter.unusedVariables false
set_option linter.unusedSimpArgs false

theorem errL_eqn {z : Int} (h : ErrZ z) (hz : z ≠ 0) : ∀ w : World, (binOp .eql 32 (errL z) .nilIface).run Tryd.prog w = .ok (.bool false) w := by
  intro w
  rcases h with rfl | rfl | rfl | rfl | rfl
  · omega
  · kernel_rfl
  · kernel_rfl
  · kernel_rfl
  · kernel_rfl
theorem errL_geq {z : Int} (h : ErrZ z) (k : Nat) : ∀ w : World, (eqGuard .eql 32 (.tmp k) (.const .nilIface) (errL z) .nilIface).run Tryd.prog w = .ok () w := by
  intro w
  rcases h with rfl | rfl | rfl | rfl | rfl <;> kernel_rfl
theorem errL_gne {z : Int} (h : ErrZ z) (k : Nat) : ∀ w : World, (eqGuard .neq 32 (.tmp k) (.const .nilIface) (errL z) .nilIface).run Tryd.prog w = .ok () w := by
  intro w
  rcases h with rfl | rfl | rfl | rfl | rfl <;> kernel_rfl
set_option maxRecDepth 100000 in
theorem ovl_c (x y : Ls) (hx : OkFst x.first) (hy : OkFst y.first) (w : World) :
    Calls Tryd.prog 26 #[.agg #[.int .u32 x.vip, .int .i64 x.first, .int .u32 x.dip, .int .i64 x.exp], .agg #[.int .u32 y.vip, .int .i64 y.first, .int .u32 y.dip, .int .i64 y.exp]] w fun e w' => e = .returned (.bool (ovl x y)) ∧ Below w.heap.size w w' := by
  obtain ⟨w1, p, hw1, hp, hA, hb1, _⟩ := boxed w x
  obtain ⟨w2, q, hw2, hq, hB, hb2, _⟩ := boxed w1 y
  have hA1 : BxL w1 p x := by rw [hw1, hp]; exact bxL_new w x
  have hA2 := (hA1.later hb2).at
  have hB2 : BxL w2 q y := by rw [hw2, hq]; exact bxL_new w1 y
  have hB2 := hB2.at
  have HB := Lib.hid (bl_tr hb1 hb2)
  have HW := Lib.hid (And.intro hw1 hp)
  have hqp : p + 1 = q := by rw [hq, hp, hw1]; simp
  have HW2 := Lib.hid (And.intro hw2 hqp)
  unfold OkFst at hx hy
  obtain ⟨x0, x1, x2, x3⟩ := x
  obtain ⟨y0, y1, y2, y3⟩ := y
  simp only at hx hy
  have v1 : ∀ [Inhabited Nat], IntKind.i64.wrap (y1 + 8) = y1 + 8 := by intro _; exact IntWalk.i64_in _ (by omega)
  have v2 : ∀ [Inhabited Nat], IntKind.i64.wrap (x1 + 8) = x1 + 8 := by intro _; exact IntWalk.i64_in _ (by omega)
  clear hw1 hp hA hb1 hw2 hq hB hb2 hA1 hqp
  have key : ∀ b : Bool, b = ovl ⟨x0, x1, x2, x3⟩ ⟨y0, y1, y2, y3⟩ → Hid (b = ovl ⟨x0, x1, x2, x3⟩ ⟨y0, y1, y2, y3⟩) := fun b h => Lib.hid h
  by_cases e1 : x0 = y0
  · have e1b : (x0 == y0) = true := by simpa using e1
    by_cases e2 : x1 < y1 + 8
    · by_cases e3 : y1 < x1 + 8
      · have K := key true (by unfold ovl; simp only; rw [decide_eq_true e1, decide_eq_true e2, decide_eq_true e3]; rfl)
        rw [← K.out]
        clear K key e1
        go_enter Tryd.func26, Tryd.ntmps26
        go_upto_region 1 with fail
        rw [show w.alloc (.cells #[.int .u32 x0, .int .i64 x1, .int .u32 x2, .int .i64 x3] tyL) = w1 from HW.out.1.symm, ← HW.out.2]
        rw [show w1.alloc (.cells #[.int .u32 y0, .int .i64 y1, .int .u32 y2, .int .i64 y3] tyL) = w2 from HW2.out.1.symm, HW2.out.2]
        obtain ⟨a0, a1, a2, a3⟩ := hA2
        obtain ⟨c0, c1, c2, c3⟩ := hB2
        go_wp2
        go_ret
        exact ⟨rfl, HB.out⟩
      · have K := key false (by unfold ovl; simp only; rw [decide_eq_true e1, decide_eq_true e2, decide_eq_false e3]; rfl)
        rw [← K.out]
        clear K key e1
        go_enter Tryd.func26, Tryd.ntmps26
        go_upto_region 1 with fail
        rw [show w.alloc (.cells #[.int .u32 x0, .int .i64 x1, .int .u32 x2, .int .i64 x3] tyL) = w1 from HW.out.1.symm, ← HW.out.2]
        rw [show w1.alloc (.cells #[.int .u32 y0, .int .i64 y1, .int .u32 y2, .int .i64 y3] tyL) = w2 from HW2.out.1.symm, HW2.out.2]
        obtain ⟨a0, a1, a2, a3⟩ := hA2
        obtain ⟨c0, c1, c2, c3⟩ := hB2
        go_wp2
        go_ret
        exact ⟨rfl, HB.out⟩
    · have K := key false (by unfold ovl; simp only; rw [decide_eq_true e1, decide_eq_false e2]; rfl)
      rw [← K.out]
      clear K key e1
      go_enter Tryd.func26, Tryd.ntmps26
      go_upto_region 1 with fail
      rw [show w.alloc (.cells #[.int .u32 x0, .int .i64 x1, .int .u32 x2, .int .i64 x3] tyL) = w1 from HW.out.1.symm, ← HW.out.2]
      rw [show w1.alloc (.cells #[.int .u32 y0, .int .i64 y1, .int .u32 y2, .int .i64 y3] tyL) = w2 from HW2.out.1.symm, HW2.out.2]
      obtain ⟨a0, a1, a2, a3⟩ := hA2
      obtain ⟨c0, c1, c2, c3⟩ := hB2
      go_wp2
      go_ret
      exact ⟨rfl, HB.out⟩
  · have K := key false (by unfold ovl; simp only; rw [decide_eq_false e1]; rfl)
    have e1b : (x0 == y0) = false := by simpa using e1
    rw [← K.out]
    clear K key e1
    go_enter Tryd.func26, Tryd.ntmps26
    go_upto_region 1 with fail
    rw [show w.alloc (.cells #[.int .u32 x0, .int .i64 x1, .int .u32 x2, .int .i64 x3] tyL) = w1 from HW.out.1.symm, ← HW.out.2]
    rw [show w1.alloc (.cells #[.int .u32 y0, .int .i64 y1, .int .u32 y2, .int .i64 y3] tyL) = w2 from HW2.out.1.symm, HW2.out.2]
    obtain ⟨a0, a1, a2, a3⟩ := hA2
    obtain ⟨c0, c1, c2, c3⟩ := hB2
    go_wp2
    go_ret
    exact ⟨rfl, HB.out⟩
end Go.Proofs.YtanajblldlgalaaDoor
