/- Contracts of cmp.Compare at int and at api.Addr, of cmp.Or at int and of addr.Less: what each call returns; nothing that was there is turned. No conditions but that the cells of cmp.Or's list hold integers. -/
import Derived.Test.YtolkheelmmgnbaaDoorA1
import Derived.StillTailTactics
import Derived.LoopTactic
namespace Go.Proofs.YtolkheelmmgnbaaDoor
open Go Go.RowKit

/-- How two numbers compare. -/
def cmpv (x y : Int) : Int := if x < y then -1 else if y < x then 1 else 0
theorem cmpv_lt {x y : Int} (h : x < y) : cmpv x y = -1 := if_pos h
theorem cmpv_gt {x y : Int} (h : y < x) : cmpv x y = 1 := by rw [cmpv, if_neg (by omega), if_pos h]
theorem cmpv_eq (x : Int) : cmpv x x = 0 := by rw [cmpv, if_neg (by omega), if_neg (by omega)]

theorem compare_int (x y : Int) (w : World) :
    Calls Tryd.prog 49 #[.int .i64 x, .int .i64 y] w fun e w' => e = .returned (.int .i64 (cmpv x y)) ∧ w' = w := by
  rcases Int.lt_trichotomy x y with h | h | h
  · have k := Lib.hid (cmpv_lt h)
    go_enter Tryd.func49, Tryd.ntmps49
    go_wp2
    go_ret
    exact ⟨by rw [k.out]; rfl, rfl⟩
  · subst h
    have k := Lib.hid (cmpv_eq x)
    go_enter Tryd.func49, Tryd.ntmps49
    go_wp2
    go_ret
    exact ⟨by rw [k.out]; rfl, rfl⟩
  · have k := Lib.hid (cmpv_gt h)
    have h2 : ¬ x < y := by omega
    go_enter Tryd.func49, Tryd.ntmps49
    go_wp2
    go_ret
    exact ⟨by rw [k.out]; rfl, rfl⟩

theorem compare_addr (x y : Int) (w : World) :
    Calls Tryd.prog 50 #[.int .u32 x, .int .u32 y] w fun e w' => e = .returned (.int .i64 (cmpv x y)) ∧ w' = w := by
  rcases Int.lt_trichotomy x y with h | h | h
  · have k := Lib.hid (cmpv_lt h)
    go_enter Tryd.func50, Tryd.ntmps50
    go_wp2
    go_ret
    exact ⟨by rw [k.out]; rfl, rfl⟩
  · subst h
    have k := Lib.hid (cmpv_eq x)
    go_enter Tryd.func50, Tryd.ntmps50
    go_wp2
    go_ret
    exact ⟨by rw [k.out]; rfl, rfl⟩
  · have k := Lib.hid (cmpv_gt h)
    have h2 : ¬ x < y := by omega
    go_enter Tryd.func50, Tryd.ntmps50
    go_wp2
    go_ret
    exact ⟨by rw [k.out]; rfl, rfl⟩

/-- The first number that isn't 0; else 0. -/
def orL : List Int → Int
  | [] => 0
  | x :: r => if x = 0 then orL r else x
theorem orL_skip (zs : List Int) (k : Nat) (hk : k < zs.length) (h : zs.getD k 0 = 0) : orL (zs.drop k) = orL (zs.drop (k + 1)) := by
  rw [List.drop_eq_getElem_cons hk, orL, if_pos (by simpa [List.getD_eq_getElem?_getD, hk] using h)]
theorem orL_stop (zs : List Int) (k : Nat) (hk : k < zs.length) (h : zs.getD k 0 ≠ 0) : orL (zs.drop k) = zs.getD k 0 := by
  rw [List.drop_eq_getElem_cons hk, orL, if_neg (by simpa [List.getD_eq_getElem?_getD, hk] using h)]
  simp [List.getD_eq_getElem?_getD, hk]

theorem or_any (zs : List Int) (b : Nat) (n : Nat) (hn : zs.length = n) (hm : n ≤ 1000) (w : World) (hc : ∀ i, i < n → w.cell? ⟨b, i, none⟩ = some (.int .i64 (zs.getD i 0))) :
    Calls Tryd.prog 48 #[.slice (some ⟨b, 0, none⟩) n n] w fun e w' => e = .returned (.int .i64 (orL zs)) ∧ w = w' := by
  have HN := Lib.hid hn
  have HC := Lib.hid hc
  clear hn hc
  go_enter Tryd.func48, Tryd.ntmps48
  go_wp2
  go_loop [8] (fun i => ∃ k : Nat, k ≤ n ∧ i = .int .i64 k ∧ Hid (orL zs = orL (zs.drop k))) (fun i => n - (intOf i).toNat)
  case atStart => exact ⟨0, Nat.zero_le _, rfl, rfl⟩
  case round =>
    obtain ⟨k, hk, rfl, ho⟩ := hrel
    by_cases hlt : k < n
    · have hck := HC.out k hlt
      obtain ⟨z, hz⟩ : ∃ z, z = zs.getD k 0 := ⟨_, rfl⟩
      rw [← hz] at hck
      have HZ := Lib.hid hz
      clear hz
      by_cases h0 : z = 0
      · subst h0
        go_wp2
        go_round
        case rel => exact ⟨k + 1, by omega, by go_num, Lib.hid (ho.out.trans (orL_skip zs k (by have := HN.out; omega) HZ.out.symm))⟩
        case measure => simp [intOf]; omega
      · have h1 : (z != 0) = true := by simp [h0]
        go_wp2
        go_ret
        refine ⟨?_, rfl⟩
        refine ret_int ?_
        have hz := HZ.out
        exact hz.trans ((ho.out.trans (orL_stop zs k (by have := HN.out; omega) (by rw [← hz]; exact h0))).symm)
    · go_wp2
      go_ret
      refine ⟨?_, rfl⟩
      refine ret_int ?_
      rw [ho.out, List.drop_eq_nil_of_le (by have := HN.out; omega)]
      rfl

/-- A flow's five numbers. -/
structure Fl where
  p : Int
  s : Int
  sp : Int
  d : Int
  dp : Int
abbrev Fl.val (f : Fl) : Value := .agg #[.int .i64 f.p, .int .u32 f.s, .int .i64 f.sp, .int .u32 f.d, .int .i64 f.dp]

/-- The order of pairs, the first that differ decides. -/
def lx : List (Int × Int) → Bool
  | [] => false
  | (x, y) :: r => decide (x < y ∨ x = y ∧ lx r = true)
theorem or_cmp : ∀ l : List (Int × Int), decide (orL (l.map fun q => cmpv q.1 q.2) < 0) = lx l
  | [] => rfl
  | (x, y) :: r => by
    rw [List.map_cons, orL, lx, ← or_cmp r]
    rcases Int.lt_trichotomy x y with h | h | h
    · rw [cmpv_lt h]; simp [h]
    · subst h; rw [cmpv_eq]; simp
    · rw [cmpv_gt h]; simp; omega
def Fl.less (f g : Fl) : Bool := lx [(f.p, g.p), (f.s, g.s), (f.sp, g.sp), (f.d, g.d), (f.dp, g.dp)]

/-- A flow lies in a block. -/
def FlAt (w : World) (b : Nat) (f : Fl) : Prop :=
  w.cell? ⟨b, 0, none⟩ = some (.int .i64 f.p) ∧ w.cell? ⟨b, 1, none⟩ = some (.int .u32 f.s) ∧ w.cell? ⟨b, 2, none⟩ = some (.int .i64 f.sp) ∧ w.cell? ⟨b, 3, none⟩ = some (.int .u32 f.d) ∧ w.cell? ⟨b, 4, none⟩ = some (.int .i64 f.dp)
abbrev Fl.obj (f : Fl) : Obj := .cells #[.int .i64 f.p, .int .u32 f.s, .int .i64 f.sp, .int .u32 f.d, .int .i64 f.dp] 47
theorem flAt_new (w : World) (f : Fl) : FlAt (w.alloc f.obj) w.heap.size f := by simp [FlAt, go_sem]
theorem flAt_below {w w' : World} {b : Nat} {f : Fl} (h : FlAt w b f) (hB : Below w.heap.size w w') (hb : b < w.heap.size) : FlAt w' b f := by
  unfold FlAt at *
  rw [hB.cell (p := ⟨b, 0, none⟩) hb, hB.cell (p := ⟨b, 1, none⟩) hb, hB.cell (p := ⟨b, 2, none⟩) hb, hB.cell (p := ⟨b, 3, none⟩) hb, hB.cell (p := ⟨b, 4, none⟩) hb]
  exact h
theorem two_boxes (w : World) (f g : Fl) : ∃ W, (w.alloc f.obj).alloc g.obj = W ∧ FlAt W w.heap.size f ∧ FlAt W (w.heap.size + 1) g ∧ Below w.heap.size w W :=
  ⟨_, rfl, flAt_below (flAt_new w f) (bl_al (Below.refl _ _) _) (by simp), by simpa using flAt_new (w.alloc f.obj) g, bl_al (bl_al (Below.refl _ _) _) _⟩

theorem five_cells (w : World) (a b c d e : Int) : ∀ i, i < 5 → (w.alloc (.cells #[.int .i64 a, .int .i64 b, .int .i64 c, .int .i64 d, .int .i64 e] 3)).cell? ⟨w.heap.size, i, none⟩ = some (.int .i64 ([a, b, c, d, e].getD i 0))
  | 0, _ => by simp [go_sem]
  | 1, _ => by simp [go_sem]
  | 2, _ => by simp [go_sem]
  | 3, _ => by simp [go_sem]
  | 4, _ => by simp [go_sem]
  | k + 5, h => absurd h (by omega)

set_option maxRecDepth 100000 in
set_option maxHeartbeats 1000000 in
theorem less_any (f g : Fl) (w : World) :
    Calls Tryd.prog 28 #[f.val, g.val] w fun e w' => e = .returned (.bool (f.less g)) ∧ Below w.heap.size w w' := by
  obtain ⟨W, hW, ⟨f0, f1, f2, f3, f4⟩, ⟨g0, g1, g2, g3, g4⟩, hb⟩ := two_boxes w f g
  have HW := Lib.hid hW
  clear hW
  go_enter Tryd.func28, Tryd.ntmps28
  go_wp2
  rw [HW.out]
  clear HW
  go_still_tail 25, (by kernel_rfl)
  still_call (compare_int _ _ _)
  repeat still_step
  still_call (compare_addr _ _ _)
  repeat still_step
  still_call (compare_int _ _ _)
  repeat still_step
  still_call (compare_addr _ _ _)
  repeat still_step
  still_call (compare_int _ _ _)
  repeat still_step
  refine wpStill_nil ?_
  change wpList _ _ _ _ _ W.drew
  have hb2 := hb.drew
  generalize W.drew = W2 at hb2 ⊢
  clear f0 f1 f2 f3 f4 g0 g1 g2 g3 g4 hb
  have ho := Lib.hid (or_cmp [(f.p, g.p), (f.s, g.s), (f.sp, g.sp), (f.d, g.d), (f.dp, g.dp)])
  go_wp2_with (go_at_call 48; refine (or_any [cmpv f.p g.p, cmpv f.s g.s, cmpv f.sp g.sp, cmpv f.d g.d, cmpv f.dp g.dp] _ 5 rfl (by decide) _ (five_cells _ _ _ _ _ _)).mono ?_; rintro e w' ⟨rfl, rfl⟩)
  go_ret
  exact ⟨congrArg (fun b => Ending.returned (Value.bool b)) ho.out, bl_al hb2 _⟩
end Go.Proofs.YtolkheelmmgnbaaDoor
