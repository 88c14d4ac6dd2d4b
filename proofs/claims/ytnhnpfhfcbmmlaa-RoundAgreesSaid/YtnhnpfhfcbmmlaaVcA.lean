/- Ballots: Less, isBallot, ballotRow; the document's. Conditions: those stated. -/
import Derived.Test.YtnhnpfhfcbmmlaaVbK
import Derived.LoopTactic
import Derived.Deep.RegionHeld3
import Derived.Deep.CutRange
namespace Go.Proofs.Ytnhnpfhfcbmmlaa
open Go Go.RowKit
set_option linter.unusedVariables false
set_option linter.unusedSimpArgs false

def cmpv (x y : Int) : Int := if x < y then -1 else if y < x then 1 else 0
theorem cmpv_lt {x y : Int} (h : x < y) : cmpv x y = -1 := if_pos h
theorem cmpv_gt {x y : Int} (h : y < x) : cmpv x y = 1 := by rw [cmpv, if_neg (by omega), if_pos h]
theorem cmpv_eq (x : Int) : cmpv x x = 0 := by rw [cmpv, if_neg (by omega), if_neg (by omega)]
theorem compare_i64 (x y : Int) (w : World) :
    Calls Try.prog 90 #[.int .i64 x, .int .i64 y] w fun e w' => e = .returned (.int .i64 (cmpv x y)) ∧ w' = w := by
  rcases Int.lt_trichotomy x y with h | h | h
  · have k := Lib.hid (cmpv_lt h)
    go_enter Try.func90, Try.ntmps90
    go_wp2
    go_ret
    exact ⟨by rw [k.out]; rfl, rfl⟩
  · subst h
    have k := Lib.hid (cmpv_eq x)
    go_enter Try.func90, Try.ntmps90
    go_wp2
    go_ret
    exact ⟨by rw [k.out]; rfl, rfl⟩
  · have k := Lib.hid (cmpv_gt h)
    go_enter Try.func90, Try.ntmps90
    go_wp2
    go_ret
    exact ⟨by rw [k.out]; rfl, rfl⟩
/-- The first of two that isn't nought. -/
def orv (x y : Int) : Int := if x = 0 then y else x
theorem or2_c (x y : Int) (b : Nat) (w : World) (c0 : w.cell? ⟨b, 0, none⟩ = some (.int .i64 x)) (c1 : w.cell? ⟨b, 1, none⟩ = some (.int .i64 y)) :
    Calls Try.prog 89 #[.slice (some ⟨b, 0, none⟩) 2 2] w fun e w' => e = .returned (.int .i64 (orv x y)) ∧ w = w' := by
  by_cases hx : x = 0
  · subst hx
    have q0 : ((0 : Int) != 0) = false := by simp
    by_cases hy : y = 0
    · subst hy
      have HZ : Hid (orv 0 0 = 0) := Lib.hid rfl
      go_enter Try.func89, Try.ntmps89
      go_wp2
      refine wp_loop_rounds 3 ?_
      rw [rounds_succ]
      go_wp2
      rw [rounds_succ]
      go_wp2
      rw [rounds_succ]
      go_wp2
      go_ret
      exact ⟨by rw [HZ.out]; rfl, rfl⟩
    · have HZ : Hid (orv 0 y = y) := Lib.hid rfl
      have q1 : (y != 0) = true := by simpa using hy
      clear hy
      go_enter Try.func89, Try.ntmps89
      go_wp2
      refine wp_loop_rounds 2 ?_
      rw [rounds_succ]
      go_wp2
      rw [rounds_succ]
      go_wp2
      go_ret
      exact ⟨by rw [HZ.out]; rfl, rfl⟩
  · have HZ : Hid (orv x y = x) := Lib.hid (if_neg hx)
    have q1 : (x != 0) = true := by simpa using hx
    clear hx
    go_enter Try.func89, Try.ntmps89
    go_wp2
    refine wp_loop_rounds 1 ?_
    rw [rounds_succ]
    go_wp2
    go_ret
    exact ⟨by rw [HZ.out]; rfl, rfl⟩

structure Bl where
  n : Int
  node : Int
def bl0 : Bl := ⟨0, 0⟩
instance : Inhabited Bl := ⟨bl0⟩
instance : DecidableEq Bl := fun a b => by
  cases a
  cases b
  simp only [Bl.mk.injEq]
  infer_instance
abbrev tyB2 : TypeId := 61
abbrev Bl.val (b : Bl) : Value := .agg #[.int .i64 b.n, .int .i64 b.node]
abbrev Bl.obj (b : Bl) : Obj := .cells #[.int .i64 b.n, .int .i64 b.node] tyB2
def TyB (b : Bl) : Prop := i64c b.n ∧ i64c b.node
def OkB (b : Bl) : Prop := 1 ≤ b.n ∧ b.n ≤ 1099511627776 ∧ IsMgr b.node
instance (b : Bl) : Decidable (OkB b) := by unfold OkB; infer_instance
def LtB (a b : Bl) : Prop := a.n < b.n ∨ a.n = b.n ∧ a.node < b.node
instance (a b : Bl) : Decidable (LtB a b) := by unfold LtB; infer_instance
def BxB (w : World) (p : Nat) (b : Bl) : Prop := w.heap[p]? = some (.cells #[.int .i64 b.n, .int .i64 b.node] tyB2 (0, 0))
theorem bxB_new (w : World) (b : Bl) : BxB (w.alloc b.obj) w.heap.size b := heap_alloc_new w _
theorem BxB.at {w : World} {p : Nat} {b : Bl} (h : BxB w p b) : w.cell? ⟨p, 0, none⟩ = some (.int .i64 b.n) ∧ w.cell? ⟨p, 1, none⟩ = some (.int .i64 b.node) := ⟨cell_of_row w p 0 _ _ _ h, cell_of_row w p 1 _ _ _ h⟩
theorem BxB.lt {w : World} {p : Nat} {b : Bl} (h : BxB w p b) : p < w.heap.size := lt_of_block h
theorem BxB.later {w w' : World} {p : Nat} {b : Bl} (h : BxB w p b) (hb : Below w.heap.size w w') : BxB w' p b := (hb.block p h.lt).trans h
theorem lt_orv (a b : Bl) : decide (orv (cmpv a.n b.n) (cmpv a.node b.node) < 0) = decide (LtB a b) := by
  apply decide_eq_decide.2
  unfold orv cmpv LtB
  repeat' split
  all_goals omega
theorem two_bls (w : World) (p q : Bl) : ∃ W, (w.alloc p.obj).alloc q.obj = W ∧ W.heap.size = w.heap.size + 2 ∧ W.cell? ⟨w.heap.size, 0, none⟩ = some (.int .i64 p.n) ∧ W.cell? ⟨w.heap.size, 1, none⟩ = some (.int .i64 p.node) ∧ W.cell? ⟨w.heap.size + 1, 0, none⟩ = some (.int .i64 q.n) ∧ W.cell? ⟨w.heap.size + 1, 1, none⟩ = some (.int .i64 q.node) := by
  refine ⟨_, rfl, by simp, ?_, ?_, ?_, ?_⟩
  · simp [go_sem]
  · simp [go_sem]
  · have : (w.alloc p.obj).heap.size = w.heap.size + 1 := by simp
    rw [← this]; simp [go_sem]
  · have : (w.alloc p.obj).heap.size = w.heap.size + 1 := by simp
    rw [← this]; simp [go_sem]
theorem two_ints (w : World) (a b : Int) (t : TypeId) : (w.alloc (.cells #[.int .i64 a, .int .i64 b] t)).drew.cell? ⟨w.heap.size, 0, none⟩ = some (.int .i64 a) ∧ (w.alloc (.cells #[.int .i64 a, .int .i64 b] t)).drew.cell? ⟨w.heap.size, 1, none⟩ = some (.int .i64 b) := by
  constructor <;> simp [go_sem]
set_option maxRecDepth 100000 in
theorem less_c (p q : Bl) (w : World) : Calls Try.prog 42 #[p.val, q.val] w fun e w' => e = .returned (.bool (decide (LtB p q))) ∧ Below w.heap.size w w' := by
  obtain ⟨W, hW, hs, a0, a1, b0, b1⟩ := two_bls w p q
  have HE := Lib.hid (lt_orv p q)
  have HBW : Hid (Below w.heap.size w W) := Lib.hid (by rw [← hW]; exact bl_al (bl_al (Below.refl _ _) _) _)
  obtain ⟨pp, pm⟩ := p
  obtain ⟨qp, qm⟩ := q
  have C1 := Lib.hid (compare_i64 pp qp W.drew)
  have C2 := Lib.hid (compare_i64 pm qm W.drew)
  obtain ⟨x, hx⟩ : ∃ x, x = cmpv pp qp := ⟨_, rfl⟩
  obtain ⟨y, hy⟩ : ∃ y, y = cmpv pm qm := ⟨_, rfl⟩
  rw [← hx] at C1 HE
  rw [← hy] at C2 HE
  have h2 := two_ints W x y 3
  have C3 := Lib.hid (or2_c x y W.heap.size _ h2.1 h2.2)
  obtain ⟨z, hz⟩ : ∃ z, z = orv x y := ⟨_, rfl⟩
  rw [← hz] at C3 HE
  have HS := Lib.hid hs
  obtain ⟨B, hB⟩ : ∃ B, B = w.heap.size := ⟨_, rfl⟩
  rw [← hB] at a0 a1 b0 b1
  have HW := Lib.hid (And.intro hW hB)
  have hS0 : W.drew.cell? ⟨B, 0, none⟩ = some (.int .i64 pp) ∧ W.drew.cell? ⟨B, 1, none⟩ = some (.int .i64 pm) ∧ W.drew.cell? ⟨B + 1, 0, none⟩ = some (.int .i64 qp) ∧ W.drew.cell? ⟨B + 1, 1, none⟩ = some (.int .i64 qm) := ⟨a0, a1, b0, b1⟩
  have hb3 := bl_al (Below.refl W.heap.size W) (.cells #[.int .i64 x, .int .i64 y] 3)
  have hS1 : (W.alloc (.cells #[.int .i64 x, .int .i64 y] 3)).drew.cell? ⟨B, 0, none⟩ = some (.int .i64 pp) ∧ (W.alloc (.cells #[.int .i64 x, .int .i64 y] 3)).drew.cell? ⟨B, 1, none⟩ = some (.int .i64 pm) ∧ (W.alloc (.cells #[.int .i64 x, .int .i64 y] 3)).drew.cell? ⟨B + 1, 0, none⟩ = some (.int .i64 qp) ∧ (W.alloc (.cells #[.int .i64 x, .int .i64 y] 3)).drew.cell? ⟨B + 1, 1, none⟩ = some (.int .i64 qm) :=
    ⟨(hb3.cell (p := ⟨B, 0, none⟩) (block_lt_of_cell a0)).trans a0, (hb3.cell (p := ⟨B, 1, none⟩) (block_lt_of_cell a1)).trans a1, (hb3.cell (p := ⟨B + 1, 0, none⟩) (block_lt_of_cell b0)).trans b0, (hb3.cell (p := ⟨B + 1, 1, none⟩) (block_lt_of_cell b1)).trans b1⟩
  have HB3 := Lib.hid (bl_tr HBW.out hb3)
  clear hW hs hx hy hz hB h2 hb3
  go_enter Try.func42, Try.ntmps42
  go_upto_region 1 with fail
  rw [HW.out.1, ← HW.out.2]
  go_region_held3 (fun wx => wx.cell? ⟨B, 0, none⟩ = some (.int .i64 pp) ∧ wx.cell? ⟨B, 1, none⟩ = some (.int .i64 pm) ∧ wx.cell? ⟨B + 1, 0, none⟩ = some (.int .i64 qp) ∧ wx.cell? ⟨B + 1, 1, none⟩ = some (.int .i64 qm)) (first | (with_reducible exact hS0) | (with_reducible exact hS1) | (with_reducible assumption) | fail)
    (first | (go_at_call 90; (with_reducible refine (C1.out).mono ?_); rintro e w7 ⟨rfl, rfl⟩) | (go_at_call 90; (with_reducible refine (C2.out).mono ?_); rintro e w7 ⟨rfl, rfl⟩) | (go_at_call 89; (with_reducible refine (C3.out).mono ?_); rintro e w7 ⟨rfl, rfl⟩) | fail)
  all_goals
    clear hS0 hS1
    go_wp2
    go_ret
    exact ⟨by rw [← HE.out]; rfl, HB3.out.drew⟩
theorem lessR_c (p q : Bl) (w : World) : Calls Try.prog 81 #[p.val, q.val] w fun e w' => e = .returned (.bool (decide (LtB p q))) ∧ Below w.heap.size w w' := by
  obtain ⟨W, hW, hs, a0, a1, b0, b1⟩ := two_bls w p q
  have HBW : Hid (Below w.heap.size w W) := Lib.hid (by rw [← hW]; exact bl_al (bl_al (Below.refl _ _) _) _)
  have HL : Hid (LtB p q ↔ (p.n < q.n ∨ p.n = q.n ∧ p.node < q.node)) := Lib.hid Iff.rfl
  obtain ⟨L, hL⟩ : ∃ L, L = decide (LtB p q) := ⟨_, rfl⟩
  rw [← hL]
  have HLL := Lib.hid hL
  obtain ⟨pp, pm⟩ := p
  obtain ⟨qp, qm⟩ := q
  obtain ⟨B, hB⟩ : ∃ B, B = w.heap.size := ⟨_, rfl⟩
  rw [← hB] at a0 a1 b0 b1
  have HW := Lib.hid (And.intro hW hB)
  clear hW hs hB hL
  rcases Int.lt_trichotomy pp qp with h | h | h
  · have HV : Hid (L = true) := Lib.hid (by rw [HLL.out]; exact decide_eq_true (HL.out.2 (.inl h)))
    go_enter Try.func81, Try.ntmps81
    go_upto_region 1 with fail
    rw [HW.out.1, ← HW.out.2]
    go_wp2
    go_ret
    exact ⟨by rw [HV.out]; rfl, HBW.out⟩
  · subst h
    obtain ⟨bb, hbb⟩ : ∃ bb, bb = decide (pm < qm) := ⟨_, rfl⟩
    have HV : Hid (L = bb) := Lib.hid (by rw [HLL.out, hbb]; exact decide_eq_decide.2 ⟨fun h => by rcases HL.out.1 h with h | h <;> first | (simp at h; done) | exact h.2, fun h => HL.out.2 (.inr ⟨rfl, h⟩)⟩)
    have h1 : ¬ pp < pp := by omega
    go_enter Try.func81, Try.ntmps81
    go_upto_region 1 with fail
    rw [HW.out.1, ← HW.out.2]
    go_wp2
    go_ret
    exact ⟨by rw [HV.out, hbb]; rfl, HBW.out⟩
  · have HV : Hid (L = false) := Lib.hid (by rw [HLL.out]; exact decide_eq_false (fun h2 => by have := HL.out.1 h2; simp at this; omega))
    have h1 : ¬ pp < qp := by omega
    have h2 : (pp == qp) = false := by simp; omega
    clear h
    go_enter Try.func81, Try.ntmps81
    go_upto_region 1 with fail
    rw [HW.out.1, ← HW.out.2]
    go_wp2
    go_ret
    exact ⟨by rw [HV.out]; rfl, HBW.out⟩
set_option maxRecDepth 100000 in
theorem isBallot_c (b : Bl) (hT : TyB b) (w : World) : Calls Try.prog 108 #[b.val] w fun e w' => e = .returned (.bool (decide (OkB b))) ∧ Below w.heap.size w w' := by
  obtain ⟨W, hW⟩ : ∃ W, W = w.alloc b.obj := ⟨_, rfl⟩
  have hA := bxB_new w b
  rw [← hW] at hA
  have HBW : Hid (Below w.heap.size w W) := Lib.hid (by rw [hW]; exact bl_al (Below.refl _ _) _)
  obtain ⟨q, hq⟩ : ∃ q, q = w.heap.size := ⟨_, rfl⟩
  rw [← hq] at hA
  have HW := Lib.hid (And.intro hW hq)
  have CM := Lib.hid (fun W => mgr_c b.node hT.2 W)
  obtain ⟨L, hL⟩ : ∃ L, L = decide (OkB b) := ⟨_, rfl⟩
  obtain ⟨m, hm⟩ : ∃ m, m = decide (IsMgr b.node) := ⟨_, rfl⟩
  rw [← hm] at CM
  rw [← hL]
  have HL : Hid (L = (decide (1 ≤ b.n) && decide (b.n ≤ 1099511627776) && m)) := Lib.hid (by
    rw [hL, hm, ← Bool.decide_and, ← Bool.decide_and]
    apply decide_eq_decide.2
    unfold OkB
    exact ⟨fun h => ⟨⟨h.1, h.2.1⟩, h.2.2⟩, fun h => ⟨h.1.1, h.1.2, h.2⟩⟩)
  obtain ⟨c0, c1⟩ := hA.at
  obtain ⟨x, y⟩ := b
  clear hA hW hq hT hL hm
  by_cases h1 : 1 ≤ x
  · by_cases h2 : x ≤ 1099511627776
    · have HL2 : Hid (L = m) := Lib.hid (by rw [HL.out, decide_eq_true h1, decide_eq_true h2]; rfl)
      go_enter Try.func108, Try.ntmps108
      go_upto_region 1 with fail
      rw [show w.alloc (.cells #[.int .i64 x, .int .i64 y] tyB2) = W from HW.out.1.symm, ← HW.out.2]
      go_wp2_with fail
      refine (CM.out _).mono ?_
      rintro e w1 ⟨rfl, rfl⟩
      go_wp2
      go_ret
      exact ⟨by rw [HL2.out]; rfl, HBW.out⟩
    · have HL2 : Hid (L = false) := Lib.hid (by rw [HL.out, decide_eq_true h1, decide_eq_false h2]; rfl)
      have g : 1099511627776 < x := by omega
      go_enter Try.func108, Try.ntmps108
      go_upto_region 1 with fail
      rw [show w.alloc (.cells #[.int .i64 x, .int .i64 y] tyB2) = W from HW.out.1.symm, ← HW.out.2]
      go_wp2
      go_ret
      exact ⟨by rw [HL2.out]; rfl, HBW.out⟩
  · have HL2 : Hid (L = false) := Lib.hid (by rw [HL.out, decide_eq_false h1]; rfl)
    have g : x < 1 := by omega
    go_enter Try.func108, Try.ntmps108
    go_upto_region 1 with fail
    rw [show w.alloc (.cells #[.int .i64 x, .int .i64 y] tyB2) = W from HW.out.1.symm, ← HW.out.2]
    go_wp2
    go_ret
    exact ⟨by rw [HL2.out]; rfl, HBW.out⟩
set_option maxRecDepth 100000 in
theorem goodBallotR_c (b : Bl) (hT : TyB b) (w : World) : Calls Try.prog 80 #[b.val] w fun e w' => e = .returned (.bool (decide (OkB b))) ∧ Below w.heap.size w w' := by
  obtain ⟨W, hW⟩ : ∃ W, W = w.alloc b.obj := ⟨_, rfl⟩
  have hA := bxB_new w b
  rw [← hW] at hA
  have HBW : Hid (Below w.heap.size w W) := Lib.hid (by rw [hW]; exact bl_al (Below.refl _ _) _)
  obtain ⟨q, hq⟩ : ∃ q, q = w.heap.size := ⟨_, rfl⟩
  rw [← hq] at hA
  have HW := Lib.hid (And.intro hW hq)
  have CM := Lib.hid (fun W => mgrR_c b.node W)
  obtain ⟨L, hL⟩ : ∃ L, L = decide (OkB b) := ⟨_, rfl⟩
  obtain ⟨m, hm⟩ : ∃ m, m = decide (IsMgr b.node) := ⟨_, rfl⟩
  rw [← hm] at CM
  rw [← hL]
  have HL : Hid (L = (decide (1 ≤ b.n) && decide (b.n ≤ 1099511627776) && m)) := Lib.hid (by
    rw [hL, hm, ← Bool.decide_and, ← Bool.decide_and]
    apply decide_eq_decide.2
    unfold OkB
    exact ⟨fun h => ⟨⟨h.1, h.2.1⟩, h.2.2⟩, fun h => ⟨h.1.1, h.1.2, h.2⟩⟩)
  obtain ⟨c0, c1⟩ := hA.at
  obtain ⟨x, y⟩ := b
  clear hA hW hq hT hL hm
  by_cases h1 : 1 ≤ x
  · by_cases h2 : x ≤ 1099511627776
    · have HL2 : Hid (L = m) := Lib.hid (by rw [HL.out, decide_eq_true h1, decide_eq_true h2]; rfl)
      go_enter Try.func80, Try.ntmps80
      go_upto_region 1 with fail
      rw [show w.alloc (.cells #[.int .i64 x, .int .i64 y] tyB2) = W from HW.out.1.symm, ← HW.out.2]
      go_wp2_with fail
      refine (CM.out _).mono ?_
      rintro e w1 ⟨rfl, rfl⟩
      go_wp2
      go_ret
      exact ⟨by rw [HL2.out]; rfl, HBW.out⟩
    · have HL2 : Hid (L = false) := Lib.hid (by rw [HL.out, decide_eq_true h1, decide_eq_false h2]; rfl)
      have g : 1099511627776 < x := by omega
      go_enter Try.func80, Try.ntmps80
      go_upto_region 1 with fail
      rw [show w.alloc (.cells #[.int .i64 x, .int .i64 y] tyB2) = W from HW.out.1.symm, ← HW.out.2]
      go_wp2
      go_ret
      exact ⟨by rw [HL2.out]; rfl, HBW.out⟩
  · have HL2 : Hid (L = false) := Lib.hid (by rw [HL.out, decide_eq_false h1]; rfl)
    have g : x < 1 := by omega
    go_enter Try.func80, Try.ntmps80
    go_upto_region 1 with fail
    rw [show w.alloc (.cells #[.int .i64 x, .int .i64 y] tyB2) = W from HW.out.1.symm, ← HW.out.2]
    go_wp2
    go_ret
    exact ⟨by rw [HL2.out]; rfl, HBW.out⟩
/-- A row of bytes of the call's own. -/
def GotN (w : World) (l : List Int) (e : Ending) (w' : World) : Prop := (∃ ao c, e = .returned (.slice ao l.length c) ∧ w'.ownsRow w.heap.size 5 1 (.slice ao l.length c) l.length (u8s l)) ∧ Below w.heap.size w w'
def brow (b : Bl) : List Int := nb [b.n, b.node]
set_option maxRecDepth 100000 in
theorem ballotRow_c (b : Bl) (hb : TyB b) (w : World) : Calls Try.prog 79 #[b.val] w (GotN w (brow b)) := by
  have hf : fitI [b.n, b.node] := by
    intro x hx
    obtain ⟨h1, h2⟩ := hb
    unfold i64c at h1 h2
    simp only [List.mem_cons, List.not_mem_nil, or_false] at hx
    rcases hx with rfl | rfl <;> omega
  obtain ⟨W1, hW1⟩ : ∃ W, W = w.alloc b.obj := ⟨_, rfl⟩
  have hA := bxB_new w b
  rw [← hW1] at hA
  have hb1 : Below w.heap.size w W1 := by rw [hW1]; exact bl_al (Below.refl _ _) _
  obtain ⟨W, hW⟩ : ∃ W, W = W1.alloc (.cells #[.slice none 0 0] tyN) := ⟨_, rfl⟩
  have hN := nuT_new W1 (fun k => k < w.heap.size) w.heap.size hb1.size (fun k hk => Nat.lt_of_lt_of_le hk hb1.size)
  rw [← hW] at hN
  have hbW : Below W1.heap.size W1 W := by rw [hW]; exact bl_al (Below.refl _ _) _
  have hA2 := (hA.later hbW).at
  obtain ⟨q, hq⟩ : ∃ q, q = w.heap.size := ⟨_, rfl⟩
  obtain ⟨p, hp⟩ : ∃ p, p = W1.heap.size := ⟨_, rfl⟩
  rw [← hp] at hN
  rw [← hq] at hA2
  have HW1 := Lib.hid (And.intro hW1 hq)
  have HW := Lib.hid (And.intro hW hp)
  have HB := Lib.hid (bl_tr hb1 hbW)
  have HN := Lib.hid hN
  have HF := Lib.hid hf
  obtain ⟨x, y⟩ := b
  obtain ⟨c0, c1⟩ := hA2
  clear hf hW1 hA hb1 hW hN hbW hq hp hb
  go_enter Try.func79, Try.ntmps79
  go_upto_region 1 with fail
  rw [show w.alloc (.cells #[.int .i64 x, .int .i64 y] tyB2) = W1 from HW1.out.1.symm, ← HW1.out.2]
  go_upto_region 2 with fail
  rw [show W1.alloc (.cells #[.slice none 0 0] tyN) = W from HW.out.1.symm, ← HW.out.2]
  go_wp2_with fail
  refine (writeL_c [x, y] _ rfl w.heap.size p [] _ 2 W HN.out HF.out rfl (by omega) (by simp) HB.out.size).mono ?_
  rintro e w2 ⟨rfl, ⟨ao, cc, hS⟩, hk1, hb1⟩
  have e0 := cell_of_one hS.here
  have HO := Lib.hid hS.own
  have HB2 := Lib.hid (HB.out.trans hb1)
  have hl : ([] ++ nb [x, y]).length = 16 := by rw [List.nil_append, nb_len]; rfl
  rw [hl] at e0
  have HLL := Lib.hid hl
  clear hS hk1 hb1 c0 c1 hl
  go_wp2
  go_ret
  have h := HO.out
  refine ⟨⟨ao, cc, ?_, h⟩, HB2.out⟩
  show _ = Ending.returned (.slice ao ([] ++ nb [x, y]).length cc)
  rw [HLL.out]
  rfl
end Go.Proofs.Ytnhnpfhfcbmmlaa
