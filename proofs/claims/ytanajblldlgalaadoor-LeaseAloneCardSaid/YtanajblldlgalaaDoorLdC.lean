/- The order of leases: cmp.Compare, cmp.Or, byBlock. No conditions but those stated. -/
import Derived.Test.YtanajblldlgalaaDoorLdB
import Derived.LoopTactic
import Derived.Deep.RegionHeld3
import Derived.Deep.CutRange
namespace Go.Proofs.YtanajblldlgalaaDoor
open Go Go.RowKit
set_option linter.unusedVariables false
set_option linter.unusedSimpArgs false

def cmpv (x y : Int) : Int := if x < y then -1 else if y < x then 1 else 0
theorem cmpv_lt {x y : Int} (h : x < y) : cmpv x y = -1 := if_pos h
theorem cmpv_gt {x y : Int} (h : y < x) : cmpv x y = 1 := by rw [cmpv, if_neg (by omega), if_pos h]
theorem cmpv_eq (x : Int) : cmpv x x = 0 := by rw [cmpv, if_neg (by omega), if_neg (by omega)]
theorem compare_u32 (x y : Int) (w : World) :
    Calls Tryd.prog 61 #[.int .u32 x, .int .u32 y] w fun e w' => e = .returned (.int .i64 (cmpv x y)) ∧ w' = w := by
  rcases Int.lt_trichotomy x y with h | h | h
  · have k := Lib.hid (cmpv_lt h)
    go_enter Tryd.func61, Tryd.ntmps61
    go_wp2
    go_ret
    exact ⟨by rw [k.out]; rfl, rfl⟩
  · subst h
    have k := Lib.hid (cmpv_eq x)
    go_enter Tryd.func61, Tryd.ntmps61
    go_wp2
    go_ret
    exact ⟨by rw [k.out]; rfl, rfl⟩
  · have k := Lib.hid (cmpv_gt h)
    go_enter Tryd.func61, Tryd.ntmps61
    go_wp2
    go_ret
    exact ⟨by rw [k.out]; rfl, rfl⟩
theorem compare_i64 (x y : Int) (w : World) :
    Calls Tryd.prog 62 #[.int .i64 x, .int .i64 y] w fun e w' => e = .returned (.int .i64 (cmpv x y)) ∧ w' = w := by
  rcases Int.lt_trichotomy x y with h | h | h
  · have k := Lib.hid (cmpv_lt h)
    go_enter Tryd.func62, Tryd.ntmps62
    go_wp2
    go_ret
    exact ⟨by rw [k.out]; rfl, rfl⟩
  · subst h
    have k := Lib.hid (cmpv_eq x)
    go_enter Tryd.func62, Tryd.ntmps62
    go_wp2
    go_ret
    exact ⟨by rw [k.out]; rfl, rfl⟩
  · have k := Lib.hid (cmpv_gt h)
    go_enter Tryd.func62, Tryd.ntmps62
    go_wp2
    go_ret
    exact ⟨by rw [k.out]; rfl, rfl⟩
/-- The first of two that isn't nought. -/
def orv (x y : Int) : Int := if x = 0 then y else x
theorem or2_c (x y : Int) (b : Nat) (w : World) (c0 : w.cell? ⟨b, 0, none⟩ = some (.int .i64 x)) (c1 : w.cell? ⟨b, 1, none⟩ = some (.int .i64 y)) :
    Calls Tryd.prog 60 #[.slice (some ⟨b, 0, none⟩) 2 2] w fun e w' => e = .returned (.int .i64 (orv x y)) ∧ w = w' := by
  by_cases hx : x = 0
  · subst hx
    have q0 : ((0 : Int) != 0) = false := by simp
    by_cases hy : y = 0
    · subst hy
      have HZ : Hid (orv 0 0 = 0) := Lib.hid rfl
      go_enter Tryd.func60, Tryd.ntmps60
      go_wp2
      refine wp_loop_rounds 3 ?_
      rw [rounds_succ]
      go_wp2
      rw [rounds_succ]
      go_wp2
      rw [rounds_succ]
      go_wp2
      go_ret
      exact ⟨by rw [HZ.out]; rfl, rfl⟩
    · have HZ : Hid (orv 0 y = y) := Lib.hid rfl
      have q1 : (y != 0) = true := by simpa using hy
      clear hy
      go_enter Tryd.func60, Tryd.ntmps60
      go_wp2
      refine wp_loop_rounds 2 ?_
      rw [rounds_succ]
      go_wp2
      rw [rounds_succ]
      go_wp2
      go_ret
      exact ⟨by rw [HZ.out]; rfl, rfl⟩
  · have HZ : Hid (orv x y = x) := Lib.hid (if_neg hx)
    have q1 : (x != 0) = true := by simpa using hx
    clear hx
    go_enter Tryd.func60, Tryd.ntmps60
    go_wp2
    refine wp_loop_rounds 1 ?_
    rw [rounds_succ]
    go_wp2
    go_ret
    exact ⟨by rw [HZ.out]; rfl, rfl⟩
/-- How two leases stand. -/
def cfL (p q : Ls) : Int := orv (cmpv p.vip q.vip) (cmpv p.first q.first)
theorem cfL_neg (p q : Ls) : cfL p q < 0 ↔ ltL p q = true := by
  rw [ltL_iff]
  unfold cfL orv cmpv
  repeat' split
  all_goals omega
theorem cfL_zero (p q : Ls) : cfL p q = 0 ↔ sameK p q = true := by
  rw [sameK_iff]
  unfold cfL orv cmpv
  repeat' split
  all_goals omega
theorem cfL_ge (p q : Ls) : 0 ≤ cfL p q ↔ ltL p q = false := by
  have := cfL_neg p q
  rw [← Bool.not_eq_true, ← this]
  omega
theorem two_ls (w : World) (p q : Ls) : ∃ W, (w.alloc p.obj).alloc q.obj = W ∧ LsAt W w.heap.size 0 p ∧ LsAt W (w.heap.size + 1) 0 q ∧ Below w.heap.size w W ∧ w.heap.size + 1 < W.heap.size := by
  refine ⟨_, rfl, ?_, ?_, bl_al (bl_al (Below.refl _ _) _) _, by simp⟩
  · exact (lsAt_new w p).below (bl_al (Below.refl (w.alloc p.obj).heap.size _) q.obj) (by simp)
  · have := lsAt_new (w.alloc p.obj) q
    rwa [show (w.alloc p.obj).heap.size = w.heap.size + 1 by simp] at this
theorem two_ints (w : World) (a b : Int) (t : TypeId) : (w.alloc (.cells #[.int .i64 a, .int .i64 b] t)).drew.cell? ⟨w.heap.size, 0, none⟩ = some (.int .i64 a) ∧ (w.alloc (.cells #[.int .i64 a, .int .i64 b] t)).drew.cell? ⟨w.heap.size, 1, none⟩ = some (.int .i64 b) := by
  constructor <;> simp [go_sem]
set_option maxRecDepth 100000 in
theorem byBlock_c (p q : Ls) (w : World) : Calls Tryd.prog 41 #[p.val, q.val] w fun e w' => e = .returned (.int .i64 (cfL p q)) ∧ Below w.heap.size w w' := by
  obtain ⟨W, hW, a, b, hb, hs⟩ := two_ls w p q
  obtain ⟨a0, a1, _, _⟩ := a
  obtain ⟨b0, b1, _, _⟩ := b
  have C1 := Lib.hid (compare_u32 p.vip q.vip W.drew)
  have C2 := Lib.hid (compare_i64 p.first q.first W.drew)
  have HC : Hid (cfL p q = orv (cmpv p.vip q.vip) (cmpv p.first q.first)) := Lib.hid rfl
  obtain ⟨x, hx⟩ : ∃ x, x = cmpv p.vip q.vip := ⟨_, rfl⟩
  obtain ⟨y, hy⟩ : ∃ y, y = cmpv p.first q.first := ⟨_, rfl⟩
  rw [← hx] at C1 HC
  rw [← hy] at C2 HC
  have h2 := two_ints W x y 3
  have C3 := Lib.hid (or2_c x y W.heap.size _ h2.1 h2.2)
  have HB := Lib.hid hb
  obtain ⟨B, hB⟩ : ∃ B, B = w.heap.size := ⟨_, rfl⟩
  rw [← hB] at a0 a1 b0 b1
  have HW := Lib.hid (And.intro hW hB)
  obtain ⟨p0, p1, p2, p3⟩ := p
  obtain ⟨q0, q1, q2, q3⟩ := q
  have hS0 : W.drew.cell? ⟨B, 0, none⟩ = some (.int .u32 p0) ∧ W.drew.cell? ⟨B, 1, none⟩ = some (.int .i64 p1) ∧ W.drew.cell? ⟨B + 1, 0, none⟩ = some (.int .u32 q0) ∧ W.drew.cell? ⟨B + 1, 1, none⟩ = some (.int .i64 q1) := ⟨a0, a1, b0, b1⟩
  have hb3 := bl_al (Below.refl W.heap.size W) (.cells #[.int .i64 x, .int .i64 y] 3)
  have hS1 : (W.alloc (.cells #[.int .i64 x, .int .i64 y] 3)).drew.cell? ⟨B, 0, none⟩ = some (.int .u32 p0) ∧ (W.alloc (.cells #[.int .i64 x, .int .i64 y] 3)).drew.cell? ⟨B, 1, none⟩ = some (.int .i64 p1) ∧ (W.alloc (.cells #[.int .i64 x, .int .i64 y] 3)).drew.cell? ⟨B + 1, 0, none⟩ = some (.int .u32 q0) ∧ (W.alloc (.cells #[.int .i64 x, .int .i64 y] 3)).drew.cell? ⟨B + 1, 1, none⟩ = some (.int .i64 q1) :=
    ⟨(hb3.cell (p := ⟨B, 0, none⟩) (block_lt_of_cell a0)).trans a0, (hb3.cell (p := ⟨B, 1, none⟩) (block_lt_of_cell a1)).trans a1, (hb3.cell (p := ⟨B + 1, 0, none⟩) (block_lt_of_cell b0)).trans b0, (hb3.cell (p := ⟨B + 1, 1, none⟩) (block_lt_of_cell b1)).trans b1⟩
  have HB3 : Hid (Below w.heap.size w (W.alloc (.cells #[.int .i64 x, .int .i64 y] 3)).drew) := Lib.hid (bl_al hb _).drew
  clear hW hs hx hy hB h2 hb3 hb
  go_enter Tryd.func41, Tryd.ntmps41
  go_upto_region 1 with fail
  rw [HW.out.1, ← HW.out.2]
  go_region_held3 (fun wx => wx.cell? ⟨B, 0, none⟩ = some (.int .u32 p0) ∧ wx.cell? ⟨B, 1, none⟩ = some (.int .i64 p1) ∧ wx.cell? ⟨B + 1, 0, none⟩ = some (.int .u32 q0) ∧ wx.cell? ⟨B + 1, 1, none⟩ = some (.int .i64 q1)) (first | (with_reducible exact hS0) | (with_reducible exact hS1) | (with_reducible assumption) | fail)
    (first | (go_at_call 61; (with_reducible refine (C1.out).mono ?_); rintro e w7 ⟨rfl, rfl⟩) | (go_at_call 62; (with_reducible refine (C2.out).mono ?_); rintro e w7 ⟨rfl, rfl⟩) | (go_at_call 60; (with_reducible refine (C3.out).mono ?_); rintro e w7 ⟨rfl, rfl⟩) | fail)
  all_goals
    clear hS0 hS1
    go_wp2
    go_ret
    exact ⟨by rw [HC.out]; rfl, HB3.out⟩
end Go.Proofs.YtanajblldlgalaaDoor
