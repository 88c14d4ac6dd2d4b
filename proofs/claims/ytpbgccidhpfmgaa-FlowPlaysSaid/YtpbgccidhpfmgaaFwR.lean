/- The document's time, Good and Less. Conditions: addresses fit their kinds. -/
import Derived.Test.YtpbgccidhpfmgaaFwM
import Derived.LoopTactic
import Derived.Deep.QuietTactic
import Derived.Deep.CutRange
namespace Go.Proofs.Ytpbgccidhpfmgaa
open Go Go.RowKit
set_option linter.unusedVariables false
set_option linter.unusedSimpArgs false

def lx : List (Int × Int) → Bool
  | [] => false
  | (x, y) :: r => decide (x < y ∨ x = y ∧ lx r = true)
abbrev Fl.nums (f : Fl) : Obj := .cells #[.int .i64 f.p, .int .i64 f.s, .int .i64 f.sp, .int .i64 f.d, .int .i64 f.dp] 143
def prs (f g : Fl) : List (Int × Int) := [(f.p, g.p), (f.s, g.s), (f.sp, g.sp), (f.d, g.d), (f.dp, g.dp)]
def xAt (f g : Fl) (k : Nat) : Int := ((prs f g).getD k (0, 0)).1
def yAt (f g : Fl) (k : Nat) : Int := ((prs f g).getD k (0, 0)).2
theorem prs_len (f g : Fl) : (prs f g).length = 5 := rfl
theorem lx_step (f g : Fl) (k : Nat) (hk : k < 5) : lx ((prs f g).drop k) = decide (xAt f g k < yAt f g k ∨ xAt f g k = yAt f g k ∧ lx ((prs f g).drop (k + 1)) = true) := by
  have hl : k < (prs f g).length := by rw [prs_len]; exact hk
  rw [List.drop_eq_getElem_cons hl, lx]
  have e : (prs f g)[k]'hl = (prs f g).getD k (0, 0) := by simp [List.getD_eq_getElem?_getD, hl]
  rw [e]
  rfl
theorem lx_skip (f g : Fl) (k : Nat) (hk : k < 5) (h : xAt f g k = yAt f g k) : lx ((prs f g).drop k) = lx ((prs f g).drop (k + 1)) := by
  rw [lx_step f g k hk, h]
  simp
theorem lx_stop (f g : Fl) (k : Nat) (hk : k < 5) (h : xAt f g k ≠ yAt f g k) : lx ((prs f g).drop k) = decide (xAt f g k < yAt f g k) := by
  rw [lx_step f g k hk]
  simp [h]
theorem num_cells (w : World) (a b c d e : Int) : ∀ i, i < 5 → (w.alloc (.cells #[.int .i64 a, .int .i64 b, .int .i64 c, .int .i64 d, .int .i64 e] 143)).cell? ⟨w.heap.size, i, none⟩ = some (.int .i64 ([a, b, c, d, e].getD i 0))
  | 0, _ => by simp [go_sem]
  | 1, _ => by simp [go_sem]
  | 2, _ => by simp [go_sem]
  | 3, _ => by simp [go_sem]
  | 4, _ => by simp [go_sem]
  | k + 5, h => absurd h (by omega)
theorem xAt_is (f g : Fl) : ∀ i, i < 5 → [f.p, f.s, f.sp, f.d, f.dp].getD i 0 = xAt f g i
  | 0, _ => rfl
  | 1, _ => rfl
  | 2, _ => rfl
  | 3, _ => rfl
  | 4, _ => rfl
  | k + 5, h => absurd h (by omega)
theorem yAt_is (f g : Fl) : ∀ i, i < 5 → [g.p, g.s, g.sp, g.d, g.dp].getD i 0 = yAt f g i
  | 0, _ => rfl
  | 1, _ => rfl
  | 2, _ => rfl
  | 3, _ => rfl
  | 4, _ => rfl
  | k + 5, h => absurd h (by omega)
/-- What the loop holds. -/
structure LsRel (f g : Fl) (w W : World) : Prop where
  x : ∀ i, i < 5 → W.cell? ⟨w.heap.size + 1 + 1, i, none⟩ = some (.int .i64 (xAt f g i))
  y : ∀ i, i < 5 → W.cell? ⟨w.heap.size + 1 + 1 + 1, i, none⟩ = some (.int .i64 (yAt f g i))
  below : Below w.heap.size w W
theorem LsRel.start (f g : Fl) (w : World) : ∃ W, (((w.alloc f.obj).alloc g.obj).alloc f.nums).alloc g.nums = W ∧ LsRel f g w W := by
  refine ⟨_, rfl, ?_, ?_, bl_al (bl_al (bl_al (bl_al (Below.refl _ _) _) _) _) _⟩
  · intro i hi
    rw [← xAt_is f g i hi]
    have h := num_cells ((w.alloc f.obj).alloc g.obj) f.p f.s f.sp f.d f.dp i hi
    have hs : ((w.alloc f.obj).alloc g.obj).heap.size = w.heap.size + 1 + 1 := by simp
    rw [hs] at h
    have hb : Below ((((w.alloc f.obj).alloc g.obj).alloc f.nums)).heap.size (((w.alloc f.obj).alloc g.obj).alloc f.nums) ((((w.alloc f.obj).alloc g.obj).alloc f.nums).alloc g.nums) := bl_al (Below.refl _ _) _
    rw [hb.cell (p := ⟨w.heap.size + 1 + 1, i, none⟩) (by simp)]
    exact h
  · intro i hi
    rw [← yAt_is f g i hi]
    have h := num_cells (((w.alloc f.obj).alloc g.obj).alloc f.nums) g.p g.s g.sp g.d g.dp i hi
    have hs : (((w.alloc f.obj).alloc g.obj).alloc f.nums).heap.size = w.heap.size + 1 + 1 + 1 := by simp
    rw [hs] at h
    exact h
theorem LsRel.drew {f g : Fl} {w W : World} (h : LsRel f g w W) : LsRel f g w W.drew :=
  ⟨fun i hi => h.x i hi, fun i hi => h.y i hi, h.below.drew⟩
theorem lt_lx (f g : Fl) : decide (ltF f g) = lx ((prs f g).drop 0) := by
  rw [List.drop_zero]
  unfold prs lx
  apply decide_eq_decide.2
  simp only [lx, decide_eq_true_eq]
  unfold ltF
  simp
theorem ret_b {a b : Bool} (h : a = b) : Ending.returned (.bool a) = .returned (.bool b) := by rw [h]
set_option maxRecDepth 100000 in
theorem refLess_c (f g : Fl) (w : World) (f1 : 0 ≤ f.s ∧ f.s < 4294967296) (f3 : 0 ≤ f.d ∧ f.d < 4294967296) (g1 : 0 ≤ g.s ∧ g.s < 4294967296) (g3 : 0 ≤ g.d ∧ g.d < 4294967296) :
    Calls Try.prog 61 #[f.val, g.val] w fun e w' => e = .returned (.bool (decide (ltF f g))) ∧ Below w.heap.size w w' := by
  obtain ⟨W, hW, hR⟩ := LsRel.start f g w
  have HW := Lib.hid hW
  have HR := Lib.hid hR
  clear hW hR
  go_enter Try.func61, Try.ntmps61
  go_wp2
  rw [HW.out]
  clear HW f1 f3 g1 g3
  go_loopw [7] (fun vi wr => ∃ k : Nat, k ≤ 5 ∧ vi = .int .i64 k ∧ Hid (decide (ltF f g) = lx ((prs f g).drop k)) ∧ Hid (LsRel f g w wr)) (fun vi _ => 5 - (intOf vi).toNat)
  case atStart => exact ⟨0, by omega, rfl, Lib.hid (lt_lx f g), HR⟩
  case round =>
    obtain ⟨k, hk, rfl, ho, hL⟩ := hrel
    clear HR
    by_cases hlt : k < 5
    · have hx := hL.out.x k hlt
      have hy := hL.out.y k hlt
      obtain ⟨x, ex⟩ : ∃ x, x = xAt f g k := ⟨_, rfl⟩
      obtain ⟨y, ey⟩ : ∃ y, y = yAt f g k := ⟨_, rfl⟩
      rw [← ex] at hx
      rw [← ey] at hy
      have EX := Lib.hid ex
      have EY := Lib.hid ey
      clear ex ey
      by_cases h : x = y
      · subst h
        go_wp2
        go_region
        go_wp2
        go_roundw
        case rel => exact ⟨k + 1, by omega, by go_num, Lib.hid (ho.out.trans (lx_skip f g k hlt (EX.out.symm.trans EY.out))), Lib.hid hL.out.drew⟩
        case measure => simp [intOf]; omega
      · have h1 : (x != y) = true := by simp [h]
        have HS := Lib.hid (ho.out.trans (lx_stop f g k hlt (by rw [← EX.out, ← EY.out]; exact h)))
        rw [← EX.out, ← EY.out] at HS
        go_wp2
        go_region
        go_wp2
        go_region
        go_wp2
        go_ret
        exact ⟨congrArg (fun b => Ending.returned (Value.bool b)) HS.out.symm, hL.out.below.drew.drew⟩
    · go_wp2
      go_ret
      exact ⟨congrArg (fun b => Ending.returned (Value.bool b)) (by rw [ho.out, List.drop_eq_nil_of_le (by rw [prs_len]; omega)]; rfl), hL.out.below⟩
theorem ret_good {f : Fl} {b : Bool} (h : b = true ↔ GoodF f) : Ending.returned (.bool b) = .returned (.bool (decide (GoodF f))) := by
  have e : b = decide (GoodF f) := by
    rw [Bool.eq_iff_iff, h, decide_eq_true_iff]
  rw [e]
set_option maxRecDepth 100000 in
theorem refGood_c (f : Fl) (w : World) :
    Calls Try.prog 30 #[f.val] w fun e w' => e = .returned (.bool (decide (GoodF f))) ∧ Below w.heap.size w w' := by
  rcases Decidable.em (f.p = 6) with h | h
  · have q1 : (f.p == 6) = true := by simp [h]
    go_enter Try.func30, Try.ntmps30
    go_wp2
    all_goals (go_ret; refine ⟨ret_good ?_, bl_al (Below.refl _ _) _⟩; unfold GoodF; simp; omega)
  · have q1 : (f.p == 6) = false := by simp [h]
    rcases Decidable.em (f.p = 17) with h2 | h2
    · have q2 : (f.p == 17) = true := by simp [h2]
      go_enter Try.func30, Try.ntmps30
      go_wp2
      all_goals (go_ret; refine ⟨ret_good ?_, bl_al (Below.refl _ _) _⟩; unfold GoodF; simp; omega)
    · have q2 : (f.p == 17) = false := by simp [h2]
      go_enter Try.func30, Try.ntmps30
      go_wp2
      all_goals (go_ret; refine ⟨ret_good ?_, bl_al (Below.refl _ _) _⟩; unfold GoodF; simp; omega)
theorem refTime_c (n : Int) (w : World) : Calls Try.prog 58 #[.int .i64 n] w fun e w' => e = .returned (.bool (decide (OkN n))) ∧ w' = w := by
  by_cases h0 : 0 ≤ n
  · by_cases h1 : n ≤ 1099511627776
    · have HE : Hid (decide (OkN n) = true) := Lib.hid (decide_eq_true (by unfold OkN; omega))
      go_enter Try.func58, Try.ntmps58
      go_wp2
      go_ret
      exact ⟨by rw [HE.out]; rfl, rfl⟩
    · have HE : Hid (decide (OkN n) = false) := Lib.hid (decide_eq_false (by unfold OkN; omega))
      go_enter Try.func58, Try.ntmps58
      go_wp2
      go_ret
      exact ⟨by rw [HE.out]; rfl, rfl⟩
  · have HE : Hid (decide (OkN n) = false) := Lib.hid (decide_eq_false (by unfold OkN; omega))
    go_enter Try.func58, Try.ntmps58
    go_wp2
    go_ret
    exact ⟨by rw [HE.out]; rfl, rfl⟩
end Go.Proofs.Ytpbgccidhpfmgaa
