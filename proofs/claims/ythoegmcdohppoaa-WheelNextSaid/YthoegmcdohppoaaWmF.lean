/- The order of timers: cmp.Compare, cmp.Or, the sort's closure. No conditions. -/
import Derived.Test.YthoegmcdohppoaaWmE
import Derived.LoopTactic
import Derived.Deep.RegionHeld3
import Derived.Deep.CutRange
namespace Go.Proofs.Ythoegmcdohppoaa
open Go Go.RowKit Go.Shelf
set_option linter.unusedVariables false
set_option linter.unusedSimpArgs false

def cmpv (x y : Int) : Int := if x < y then -1 else if y < x then 1 else 0
theorem cmpv_lt {x y : Int} (h : x < y) : cmpv x y = -1 := if_pos h
theorem cmpv_gt {x y : Int} (h : y < x) : cmpv x y = 1 := by rw [cmpv, if_neg (by omega), if_pos h]
theorem cmpv_eq (x : Int) : cmpv x x = 0 := by rw [cmpv, if_neg (by omega), if_neg (by omega)]
theorem compare_i64 (x y : Int) (w : World) :
    Calls Try.prog 32 #[.int .i64 x, .int .i64 y] w fun e w' => e = .returned (.int .i64 (cmpv x y)) ∧ w' = w := by
  rcases Int.lt_trichotomy x y with h | h | h
  · have k := Lib.hid (cmpv_lt h)
    go_enter Try.func32, Try.ntmps32
    go_wp2
    go_ret
    exact ⟨by rw [k.out]; rfl, rfl⟩
  · subst h
    have k := Lib.hid (cmpv_eq x)
    go_enter Try.func32, Try.ntmps32
    go_wp2
    go_ret
    exact ⟨by rw [k.out]; rfl, rfl⟩
  · have k := Lib.hid (cmpv_gt h)
    go_enter Try.func32, Try.ntmps32
    go_wp2
    go_ret
    exact ⟨by rw [k.out]; rfl, rfl⟩
/-- The first of two that isn't nought. -/
def orv (x y : Int) : Int := if x = 0 then y else x
theorem or2_c (x y : Int) (b : Nat) (w : World) (c0 : w.cell? ⟨b, 0, none⟩ = some (.int .i64 x)) (c1 : w.cell? ⟨b, 1, none⟩ = some (.int .i64 y)) :
    Calls Try.prog 31 #[.slice (some ⟨b, 0, none⟩) 2 2] w fun e w' => e = .returned (.int .i64 (orv x y)) ∧ w = w' := by
  by_cases hx : x = 0
  · subst hx
    have q0 : ((0 : Int) != 0) = false := by simp
    by_cases hy : y = 0
    · subst hy
      have HZ : Hid (orv 0 0 = 0) := Lib.hid rfl
      go_enter Try.func31, Try.ntmps31
      go_wp2
      refine wp_loop_rounds 3 ?_
      rw [rounds_succ]
      go_wp2
      rw [rounds_succ]
      go_wp2
      rw [rounds_succ]
      go_wp2
      go_ret
      exact ⟨by rw [HZ.out]; rfl, rfl⟩
    · have HZ : Hid (orv 0 y = y) := Lib.hid rfl
      have q1 : (y != 0) = true := by simpa using hy
      clear hy
      go_enter Try.func31, Try.ntmps31
      go_wp2
      refine wp_loop_rounds 2 ?_
      rw [rounds_succ]
      go_wp2
      rw [rounds_succ]
      go_wp2
      go_ret
      exact ⟨by rw [HZ.out]; rfl, rfl⟩
  · have HZ : Hid (orv x y = x) := Lib.hid (if_neg hx)
    have q1 : (x != 0) = true := by simpa using hx
    clear hx
    go_enter Try.func31, Try.ntmps31
    go_wp2
    refine wp_loop_rounds 1 ?_
    rw [rounds_succ]
    go_wp2
    go_ret
    exact ⟨by rw [HZ.out]; rfl, rfl⟩
/-- How two points stand. -/
def cfP (p q : Wy) : Int := orv (cmpv p.1 q.1) (cmpv p.2 q.2)
theorem ltP (p q : Wy) : ltOf cfP p q = decide (¬ leW q p) := by
  unfold ltOf cfP orv cmpv
  apply decide_eq_decide.2
  unfold leW
  repeat' split
  all_goals omega
theorem swoP : Sort.SWO (ltOf cfP) where
  irrefl x := by rw [ltP]; simpa using leW_refl x
  trans x y z h1 h2 := by
    rw [ltP] at *
    simp only [decide_eq_true_eq] at *
    exact fun h => h1 (by rcases leW_total y x with h3 | h3
                          · exact h3
                          · exact absurd (leW_trans h h3) h2)
  ntrans x y z h1 h2 := by
    rw [ltP] at *
    simp only [decide_eq_false_iff_not, Classical.not_not] at *
    exact leW_trans h2 h1
end Go.Proofs.Ythoegmcdohppoaa
namespace Go.Proofs.Ythoegmcdohppoaa
open Go Go.RowKit Go.Shelf
set_option linter.unusedVariables false
set_option linter.unusedSimpArgs false

def ptObj (p : Wy) : Obj := .cells #[.int .i64 p.1, .int .i64 p.2] tyP
theorem two_pts (w : World) (p q : Wy) : ∃ W, (w.alloc (ptObj p)).alloc (ptObj q) = W ∧ W.heap.size = w.heap.size + 2 ∧ W.cell? ⟨w.heap.size, 0, none⟩ = some (.int .i64 p.1) ∧ W.cell? ⟨w.heap.size, 1, none⟩ = some (.int .i64 p.2) ∧ W.cell? ⟨w.heap.size + 1, 0, none⟩ = some (.int .i64 q.1) ∧ W.cell? ⟨w.heap.size + 1, 1, none⟩ = some (.int .i64 q.2) ∧ W = Go.Sort.grow w #[ptObj p, ptObj q] := by
  refine ⟨_, rfl, by simp, ?_, ?_, ?_, ?_, ?_⟩
  · simp [ptObj, go_sem]
  · simp [ptObj, go_sem]
  · have : (w.alloc (ptObj p)).heap.size = w.heap.size + 1 := by simp
    rw [← this]; simp [ptObj, go_sem]
  · have : (w.alloc (ptObj p)).heap.size = w.heap.size + 1 := by simp
    rw [← this]; simp [ptObj, go_sem]
  · rw [Sort.alloc_eq_grow, Sort.alloc_eq_grow, Sort.grow_grow]; rfl
theorem two_ints (w : World) (a b : Int) (t : TypeId) : (w.alloc (.cells #[.int .i64 a, .int .i64 b] t)).drew.cell? ⟨w.heap.size, 0, none⟩ = some (.int .i64 a) ∧ (w.alloc (.cells #[.int .i64 a, .int .i64 b] t)).drew.cell? ⟨w.heap.size, 1, none⟩ = some (.int .i64 b) := by
  constructor <;> simp [go_sem]
set_option maxRecDepth 100000 in
theorem order_c (p q : Wy) (w : World) : Calls Try.prog 30 #[.agg #[.int .i64 p.1, .int .i64 p.2], .agg #[.int .i64 q.1, .int .i64 q.2]] w fun e w' => e = .returned (.int .i64 (cfP p q)) ∧ ∃ n os, w' = Go.Sort.grow (w.drewN n) os := by
  obtain ⟨W, hW, hs, a0, a1, b0, b1, hg⟩ := two_pts w p q
  unfold ptObj at hW
  obtain ⟨pp, pm⟩ := p
  obtain ⟨qp, qm⟩ := q
  have C1 := Lib.hid (compare_i64 pp qp W.drew)
  have C2 := Lib.hid (compare_i64 pm qm W.drew)
  have HC : Hid (cfP (pp, pm) (qp, qm) = orv (cmpv pp qp) (cmpv pm qm)) := Lib.hid rfl
  obtain ⟨x, hx⟩ : ∃ x, x = cmpv pp qp := ⟨_, rfl⟩
  obtain ⟨y, hy⟩ : ∃ y, y = cmpv pm qm := ⟨_, rfl⟩
  rw [← hx] at C1 HC
  rw [← hy] at C2 HC
  have h2 := two_ints W x y 3
  have C3 := Lib.hid (or2_c x y W.heap.size _ h2.1 h2.2)
  have HG := Lib.hid hg
  have HS := Lib.hid hs
  obtain ⟨B, hB⟩ : ∃ B, B = w.heap.size := ⟨_, rfl⟩
  rw [← hB] at a0 a1 b0 b1
  have HW := Lib.hid (And.intro hW hB)
  have hS0 : W.drew.cell? ⟨B, 0, none⟩ = some (.int .i64 pp) ∧ W.drew.cell? ⟨B, 1, none⟩ = some (.int .i64 pm) ∧ W.drew.cell? ⟨B + 1, 0, none⟩ = some (.int .i64 qp) ∧ W.drew.cell? ⟨B + 1, 1, none⟩ = some (.int .i64 qm) := ⟨a0, a1, b0, b1⟩
  have hb3 := bl_al (Below.refl W.heap.size W) (.cells #[.int .i64 x, .int .i64 y] 3)
  have hS1 : (W.alloc (.cells #[.int .i64 x, .int .i64 y] 3)).drew.cell? ⟨B, 0, none⟩ = some (.int .i64 pp) ∧ (W.alloc (.cells #[.int .i64 x, .int .i64 y] 3)).drew.cell? ⟨B, 1, none⟩ = some (.int .i64 pm) ∧ (W.alloc (.cells #[.int .i64 x, .int .i64 y] 3)).drew.cell? ⟨B + 1, 0, none⟩ = some (.int .i64 qp) ∧ (W.alloc (.cells #[.int .i64 x, .int .i64 y] 3)).drew.cell? ⟨B + 1, 1, none⟩ = some (.int .i64 qm) :=
    ⟨(hb3.cell (p := ⟨B, 0, none⟩) (block_lt_of_cell a0)).trans a0, (hb3.cell (p := ⟨B, 1, none⟩) (block_lt_of_cell a1)).trans a1, (hb3.cell (p := ⟨B + 1, 0, none⟩) (block_lt_of_cell b0)).trans b0, (hb3.cell (p := ⟨B + 1, 1, none⟩) (block_lt_of_cell b1)).trans b1⟩
  clear hW hs hg hx hy hB h2 hb3
  go_enter Try.func30, Try.ntmps30
  go_upto_region 1 with fail
  rw [HW.out.1, ← HW.out.2]
  go_region_held3 (fun wx => wx.cell? ⟨B, 0, none⟩ = some (.int .i64 pp) ∧ wx.cell? ⟨B, 1, none⟩ = some (.int .i64 pm) ∧ wx.cell? ⟨B + 1, 0, none⟩ = some (.int .i64 qp) ∧ wx.cell? ⟨B + 1, 1, none⟩ = some (.int .i64 qm)) (first | (with_reducible exact hS0) | (with_reducible exact hS1) | (with_reducible assumption) | fail)
    (first | (go_at_call 32; (with_reducible refine (C1.out).mono ?_); rintro e w7 ⟨rfl, rfl⟩) | (go_at_call 32; (with_reducible refine (C2.out).mono ?_); rintro e w7 ⟨rfl, rfl⟩) | (go_at_call 31; (with_reducible refine (C3.out).mono ?_); rintro e w7 ⟨rfl, rfl⟩) | fail)
  all_goals
    clear hS0 hS1
    go_wp2
    go_ret
    exact ⟨by rw [HC.out]; rfl, 1, _, by rw [HG.out, Sort.alloc_eq_grow, Sort.grow_grow]; rfl⟩
theorem order_lays (blk off size : Nat) (w : World) : CmpLays Try.prog 30 #[] csP 2 cfP blk off size w := fun _ _ _ _ x y => order_c x y _
end Go.Proofs.Ythoegmcdohppoaa
