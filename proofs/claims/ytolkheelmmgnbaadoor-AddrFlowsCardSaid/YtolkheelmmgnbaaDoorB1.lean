/- Contracts of addr.Reverse and addr.Check, the order of flows in plain words, and what three boxed flows read as. No conditions. -/
import Derived.Test.YtolkheelmmgnbaaDoorA3
import Derived.Test.YtolkheelmmgnbaaDoorA5
import Derived.Deep.RegionHeld3
namespace Go.Proofs.YtolkheelmmgnbaaDoor
open Go Go.RowKit

def Fl.rev (f : Fl) : Fl := ⟨f.p, f.d, f.dp, f.s, f.sp⟩
theorem reverse_any (f : Fl) (w : World) :
    Calls Tryd.prog 24 #[f.val] w fun e w' => e = .returned (.agg #[.int .i64 f.p, .int .u32 f.d, .int .i64 f.dp, .int .u32 f.s, .int .i64 f.sp]) ∧ Below w.heap.size w w' := by
  go_enter Tryd.func24, Tryd.ntmps24
  go_wp2
  exact bodyPost_ret (v := .agg #[.int .i64 f.p, .int .u32 f.d, .int .i64 f.dp, .int .u32 f.s, .int .i64 f.sp]) (by simp [results, Tryd.results24, go_sem]) rfl ⟨rfl, bl_al (bl_al (Below.refl _ _) _) _⟩

/-- Is a flow in form? -/
def Fl.good (f : Fl) : Bool := decide ((f.p = 6 ∨ f.p = 17) ∧ (0 ≤ f.sp ∧ f.sp ≤ 65535) ∧ (0 ≤ f.dp ∧ f.dp ≤ 65535))
def portB (n : Int) : Bool := decide (0 ≤ n) && decide (n ≤ 65535)
theorem portB_yes {n : Int} (h : 0 ≤ n ∧ n ≤ 65535) : portB n = true := by simp [portB, h.1, h.2]
theorem portB_no {n : Int} (h : ¬ (0 ≤ n ∧ n ≤ 65535)) : portB n = false := by
  unfold portB
  by_cases h0 : 0 ≤ n
  · have : ¬ n ≤ 65535 := fun h1 => h ⟨h0, h1⟩
    simp [this]
  · simp [h0]
theorem port_any (n : Int) (w : World) : Calls Tryd.prog 45 #[.int .i64 n] w fun e w' => e = .returned (.bool (portB n)) ∧ w = w' := isPort_any n w
/-- What addr.Check answers. -/
def Fl.err (f : Fl) : Value := if f.good = true then .nilIface else errno 9
theorem Fl.err_yes {f : Fl} (h : f.good = true) : f.err = .nilIface := if_pos h
theorem Fl.err_no {f : Fl} (h : ¬ f.good = true) : f.err = errno 9 := if_neg h
theorem check_any (f : Fl) (w : World) :
    Calls Tryd.prog 22 #[f.val] w fun e w' => e = .returned f.err ∧ Below w.heap.size w w' := by
  by_cases hp : f.p = 6 ∨ f.p = 17
  · have hq : ((f.p != 6) = true ∧ (f.p != 17) = false) ∨ ((f.p != 6) = false) := by
      rcases hp with h | h
      · right; simp [h]
      · left; simp [h]
    by_cases hs : 0 ≤ f.sp ∧ f.sp ≤ 65535
    · have ps := portB_yes hs
      by_cases hd : 0 ≤ f.dp ∧ f.dp ≤ 65535
      · have pd := portB_yes hd
        have hg := Lib.hid (show f.good = true from decide_eq_true ⟨hp, hs, hd⟩)
        clear hp hs hd
        rcases hq with ⟨q1, q2⟩ | q1
        all_goals
          go_enter Tryd.func22, Tryd.ntmps22
          go_wp2_with (go_at_call 45; refine (port_any _ _).mono ?_; rintro e w1 ⟨rfl, rfl⟩)
          go_ret
          exact ⟨by rw [Fl.err_yes hg.out]; rfl, bl_al (Below.refl _ _) _⟩
      · have pd := portB_no hd
        have hg := Lib.hid (show ¬ f.good = true by intro h; exact hd (of_decide_eq_true h).2.2)
        clear hp hs hd
        rcases hq with ⟨q1, q2⟩ | q1
        all_goals
          go_enter Tryd.func22, Tryd.ntmps22
          go_wp2_with (go_at_call 45; refine (port_any _ _).mono ?_; rintro e w1 ⟨rfl, rfl⟩)
          go_ret
          exact ⟨by rw [Fl.err_no hg.out]; rfl, bl_al (Below.refl _ _) _⟩
    · have ps := portB_no hs
      have hg := Lib.hid (show ¬ f.good = true by intro h; exact hs (of_decide_eq_true h).2.1)
      clear hp hs
      rcases hq with ⟨q1, q2⟩ | q1
      all_goals
        go_enter Tryd.func22, Tryd.ntmps22
        go_wp2_with (go_at_call 45; refine (port_any _ _).mono ?_; rintro e w1 ⟨rfl, rfl⟩)
        go_ret
        exact ⟨by rw [Fl.err_no hg.out]; rfl, bl_al (Below.refl _ _) _⟩
  · have hg := Lib.hid (show ¬ f.good = true by intro h; exact hp (of_decide_eq_true h).1)
    have q1 : (f.p != 6) = true := by simp; omega
    have q2 : (f.p != 17) = true := by simp; omega
    clear hp
    go_enter Tryd.func22, Tryd.ntmps22
    go_wp2
    go_ret
    exact ⟨by rw [Fl.err_no hg.out]; rfl, bl_al (Below.refl _ _) _⟩

/-- Three flows lie in three new blocks. -/
structure Three (f g h : Fl) (w : World) (W : World) : Prop where
  f : FlAt W w.heap.size f
  g : FlAt W (w.heap.size + 1) g
  h : FlAt W (w.heap.size + 2) h
  below : Below w.heap.size w W
  size : w.heap.size + 3 ≤ W.heap.size
theorem Three.start (f g h : Fl) (w : World) : ∃ W, ((w.alloc f.obj).alloc g.obj).alloc h.obj = W ∧ Three f g h w W := by
  refine ⟨_, rfl, ?_, ?_, ?_, bl_al (bl_al (bl_al (Below.refl _ _) _) _) _, by simp⟩
  · exact flAt_below (flAt_below (flAt_new w f) (bl_al (Below.refl _ _) _) (by simp)) (bl_al (Below.refl _ _) _) (by simp; omega)
  · exact flAt_below (by simpa using flAt_new (w.alloc f.obj) g) (bl_al (Below.refl _ _) _) (by simp)
  · simpa using flAt_new ((w.alloc f.obj).alloc g.obj) h
theorem Three.on {f g h : Fl} {w W W' : World} (t : Three f g h w W) (hb : Below W.heap.size W W') : Three f g h w W' :=
  ⟨flAt_below t.f hb (by have := t.size; omega), flAt_below t.g hb (by have := t.size; omega), flAt_below t.h hb (by have := t.size; omega), t.below.trans (hb.mono (by have := t.size; omega)), by have := t.size; have := hb.size; omega⟩

theorem less_iff (f g : Fl) : f.less g = true ↔ (f.p < g.p ∨ f.p = g.p ∧ (f.s < g.s ∨ f.s = g.s ∧ (f.sp < g.sp ∨ f.sp = g.sp ∧ (f.d < g.d ∨ f.d = g.d ∧ f.dp < g.dp)))) := by
  simp [Fl.less, lx]
theorem less_irr (f : Fl) : f.less f = false := by
  rw [Bool.eq_false_iff, ne_eq, less_iff]
  omega
theorem less_asym {f g : Fl} (h : f.less g = true) : g.less f = false := by
  rw [Bool.eq_false_iff, ne_eq, less_iff]
  rw [less_iff] at h
  omega
theorem less_total {f g : Fl} (hne : f ≠ g) (h : f.less g = false) : g.less f = true := by
  have : ¬ (f.p = g.p ∧ f.s = g.s ∧ f.sp = g.sp ∧ f.d = g.d ∧ f.dp = g.dp) := by
    intro ⟨a, b, c, d, e⟩
    apply hne
    cases f; cases g
    simp_all
  rw [Bool.eq_false_iff, ne_eq, less_iff] at h
  rw [less_iff]
  omega
theorem less_trans {f g h : Fl} (h1 : f.less g = true) (h2 : g.less h = true) : f.less h = true := by
  rw [less_iff] at h1 h2 ⊢
  omega

theorem fl_ne {f g : Fl} (h : f ≠ g) : ¬ (f.p = g.p ∧ f.s = g.s ∧ f.sp = g.sp ∧ f.d = g.d ∧ f.dp = g.dp) := by
  intro ⟨a, b, c, d, e⟩
  apply h
  cases f; cases g
  simp_all
theorem neq_flow (f g : Fl) (h : f ≠ g) (w : World) : (binOp .neq 47 f.val g.val).run Tryd.prog w = .ok (.bool true) w := by
  have h' := fl_ne h
  go_simp
  repeat' split
  all_goals simp_all

/-- What the last statement holds while it runs: the first flow's cells, and that nothing old has turned. -/
theorem keep7 {f : Fl} {w w1 w2 : World} (h : w1.cell? ⟨w.heap.size, 0, none⟩ = some (.int .i64 f.p) ∧ w1.cell? ⟨w.heap.size, 1, none⟩ = some (.int .u32 f.s) ∧ w1.cell? ⟨w.heap.size, 2, none⟩ = some (.int .i64 f.sp) ∧ w1.cell? ⟨w.heap.size, 3, none⟩ = some (.int .u32 f.d) ∧ w1.cell? ⟨w.heap.size, 4, none⟩ = some (.int .i64 f.dp) ∧ Below w.heap.size w w1) (hb : Below w1.heap.size w1 w2) :
    w2.cell? ⟨w.heap.size, 0, none⟩ = some (.int .i64 f.p) ∧ w2.cell? ⟨w.heap.size, 1, none⟩ = some (.int .u32 f.s) ∧ w2.cell? ⟨w.heap.size, 2, none⟩ = some (.int .i64 f.sp) ∧ w2.cell? ⟨w.heap.size, 3, none⟩ = some (.int .u32 f.d) ∧ w2.cell? ⟨w.heap.size, 4, none⟩ = some (.int .i64 f.dp) ∧ Below w.heap.size w w2 := by
  obtain ⟨a, b, c, d, e, h6⟩ := h
  have hlt : w.heap.size < w1.heap.size := World.block_lt_of_cell? _ _ a
  have t := flAt_below (f := f) ⟨a, b, c, d, e⟩ hb hlt
  exact ⟨t.1, t.2.1, t.2.2.1, t.2.2.2.1, t.2.2.2.2, h6.trans (hb.mono h6.size)⟩


theorem reverse_back (f : Fl) (w : World) :
    Calls Tryd.prog 24 #[.agg #[.int .i64 f.p, .int .u32 f.d, .int .i64 f.dp, .int .u32 f.s, .int .i64 f.sp]] w fun e w' => e = .returned (.agg #[.int .i64 f.p, .int .u32 f.s, .int .i64 f.sp, .int .u32 f.d, .int .i64 f.dp]) ∧ Below w.heap.size w w' := reverse_any f.rev w
theorem good_rev (f : Fl) : f.rev.good = f.good := by
  unfold Fl.good Fl.rev
  simp only [decide_eq_decide]
  constructor <;> (rintro ⟨a, b, c⟩; exact ⟨a, c, b⟩)
theorem check_rev (f : Fl) (w : World) :
    Calls Tryd.prog 22 #[.agg #[.int .i64 f.p, .int .u32 f.d, .int .i64 f.dp, .int .u32 f.s, .int .i64 f.sp]] w fun e w' => e = .returned f.err ∧ Below w.heap.size w w' := by
  have h := check_any f.rev w
  rw [show f.rev.err = f.err from by unfold Fl.err; rw [good_rev]] at h
  exact h
theorem err_nil (f : Fl) (w : World) : (binOp .eql 26 f.err .nilIface).run Tryd.prog w = .ok (.bool f.good) w := by
  by_cases h : f.good = true
  · rw [Fl.err_yes h, h]
    go_simp
  · rw [Fl.err_no h, Bool.eq_false_iff.2 h]
    go_simp
theorem err_guard (f : Fl) (t : Nat) (w : World) : (eqGuard BinOp.eql 26 (Operand.tmp t) (Operand.const Value.nilIface) f.err .nilIface).run Tryd.prog w = .ok () w := by
  by_cases h : f.good = true
  · rw [Fl.err_yes h]
    go_simp
  · rw [Fl.err_no h]
    go_simp
end Go.Proofs.YtolkheelmmgnbaaDoor
