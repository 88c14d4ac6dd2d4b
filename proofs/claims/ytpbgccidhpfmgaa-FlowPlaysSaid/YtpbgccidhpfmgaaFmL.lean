/- Contracts of cmp.Compare, cmp.Or, addr.Less, addr.isPort, addr.Check: what each call returns; blocks of its own apart, nothing is turned. No conditions. -/
import Derived.Test.YtpbgccidhpfmgaaFmC
import Derived.StillTailTactics
import Derived.LoopTactic
import Derived.Sort.Grow
namespace Go.Proofs.Ytpbgccidhpfmgaa
open Go Go.RowKit
set_option linter.unusedVariables false
set_option linter.unusedSimpArgs false

/-- A world with draws and new blocks. -/
def Grw (w w' : World) : Prop := ∃ n os, w' = Go.Sort.grow (w.drewN n) os
theorem Grw.refl (w : World) : Grw w w := ⟨0, #[], by rw [Go.Sort.grow_empty]; rfl⟩
theorem Grw.alloc {w w' : World} (h : Grw w w') (o : Obj) : Grw w (w'.alloc o) := by
  obtain ⟨n, os, rfl⟩ := h
  exact ⟨n, os ++ #[o], by rw [Go.Sort.alloc_eq_grow, Go.Sort.grow_grow]⟩
theorem Grw.drewN {w w' : World} (h : Grw w w') (k : Nat) : Grw w (w'.drewN k) := by
  obtain ⟨n, os, rfl⟩ := h
  exact ⟨n + k, os, by rw [← World.drewN_drewN]; rfl⟩
theorem Grw.drew {w w' : World} (h : Grw w w') : Grw w w'.drew := h.drewN 1
theorem Grw.trans {a b c : World} (h : Grw a b) (h2 : Grw b c) : Grw a c := by
  obtain ⟨n, os, rfl⟩ := h
  obtain ⟨k, os2, rfl⟩ := h2
  exact ⟨n + k, os ++ os2, by rw [← World.drewN_drewN, ← Go.Sort.grow_grow]; rfl⟩
theorem Grw.below {w w' : World} (h : Grw w w') : Below w.heap.size w w' := by
  obtain ⟨n, os, rfl⟩ := h
  exact ⟨rfl, rfl, rfl, by rw [Go.Sort.size_grow]; exact Nat.le_add_right _ _, fun k hk => Go.Sort.heap_grow_old (w.drewN n) os hk⟩
theorem tch_grw (T : Nat → Prop) {w w' : World} (h : Grw w w') : Tch T w w' := (tch_new h.below).mono (fun _ h => h.elim)
def cmpv (x y : Int) : Int := if x < y then -1 else if y < x then 1 else 0
theorem cmpv_lt {x y : Int} (h : x < y) : cmpv x y = -1 := if_pos h
theorem cmpv_gt {x y : Int} (h : y < x) : cmpv x y = 1 := by rw [cmpv, if_neg (by omega), if_pos h]
theorem cmpv_eq (x : Int) : cmpv x x = 0 := by rw [cmpv, if_neg (by omega), if_neg (by omega)]
theorem compare_int (x y : Int) (w : World) : Calls Try.prog 91 #[.int .i64 x, .int .i64 y] w fun e w' => e = .returned (.int .i64 (cmpv x y)) ∧ w' = w := by
  rcases Int.lt_trichotomy x y with h | h | h
  · have k := Lib.hid (cmpv_lt h)
    go_enter Try.func91, Try.ntmps91
    go_wp2
    go_ret
    exact ⟨by rw [k.out]; rfl, rfl⟩
  · subst h
    have k := Lib.hid (cmpv_eq x)
    go_enter Try.func91, Try.ntmps91
    go_wp2
    go_ret
    exact ⟨by rw [k.out]; rfl, rfl⟩
  · have k := Lib.hid (cmpv_gt h)
    have h2 : ¬ x < y := by omega
    go_enter Try.func91, Try.ntmps91
    go_wp2
    go_ret
    exact ⟨by rw [k.out]; rfl, rfl⟩
theorem compare_addr (x y : Int) (w : World) : Calls Try.prog 92 #[.int .u32 x, .int .u32 y] w fun e w' => e = .returned (.int .i64 (cmpv x y)) ∧ w' = w := by
  rcases Int.lt_trichotomy x y with h | h | h
  · have k := Lib.hid (cmpv_lt h)
    go_enter Try.func92, Try.ntmps92
    go_wp2
    go_ret
    exact ⟨by rw [k.out]; rfl, rfl⟩
  · subst h
    have k := Lib.hid (cmpv_eq x)
    go_enter Try.func92, Try.ntmps92
    go_wp2
    go_ret
    exact ⟨by rw [k.out]; rfl, rfl⟩
  · have k := Lib.hid (cmpv_gt h)
    have h2 : ¬ x < y := by omega
    go_enter Try.func92, Try.ntmps92
    go_wp2
    go_ret
    exact ⟨by rw [k.out]; rfl, rfl⟩
def orL : List Int → Int
  | [] => 0
  | x :: r => if x = 0 then orL r else x
theorem orL_skip (zs : List Int) (k : Nat) (hk : k < zs.length) (h : zs.getD k 0 = 0) : orL (zs.drop k) = orL (zs.drop (k + 1)) := by
  rw [List.drop_eq_getElem_cons hk, orL, if_pos (by simpa [List.getD_eq_getElem?_getD, hk] using h)]
theorem orL_stop (zs : List Int) (k : Nat) (hk : k < zs.length) (h : zs.getD k 0 ≠ 0) : orL (zs.drop k) = zs.getD k 0 := by
  rw [List.drop_eq_getElem_cons hk, orL, if_neg (by simpa [List.getD_eq_getElem?_getD, hk] using h)]
  simp [List.getD_eq_getElem?_getD, hk]
theorem or_any (zs : List Int) (b : Nat) (n : Nat) (hn : zs.length = n) (hm : n ≤ 1000) (w : World) (hc : ∀ i, i < n → w.cell? ⟨b, i, none⟩ = some (.int .i64 (zs.getD i 0))) :
    Calls Try.prog 90 #[.slice (some ⟨b, 0, none⟩) n n] w fun e w' => e = .returned (.int .i64 (orL zs)) ∧ w = w' := by
  have HN := Lib.hid hn
  have HC := Lib.hid hc
  clear hn hc
  go_enter Try.func90, Try.ntmps90
  go_wp2
  go_loop [8] (fun i => ∃ k : Nat, k ≤ n ∧ i = .int .i64 k ∧ Hid (orL zs = orL (zs.drop k))) (fun i => n - (intOf i).toNat)
  case atStart => exact ⟨0, Nat.zero_le _, rfl, rfl⟩
  case round =>
    obtain ⟨k, hk, rfl, ho⟩ := hrel
    by_cases hlt : k < n
    · have hck := HC.out k hlt
      obtain ⟨z, hz⟩ : ∃ z, z = zs.getD k 0 := ⟨_, rfl⟩
      rw [← hz] at hck
      have HZ := Lib.hid hz
      clear hz
      by_cases h0 : z = 0
      · subst h0
        go_wp2
        go_round
        case rel => exact ⟨k + 1, by omega, by go_num, Lib.hid (ho.out.trans (orL_skip zs k (by have := HN.out; omega) HZ.out.symm))⟩
        case measure => simp [intOf]; omega
      · have h1 : (z != 0) = true := by simp [h0]
        go_wp2
        go_ret
        refine ⟨?_, rfl⟩
        refine ret_int ?_
        have hz := HZ.out
        exact hz.trans ((ho.out.trans (orL_stop zs k (by have := HN.out; omega) (by rw [← hz]; exact h0))).symm)
    · go_wp2
      go_ret
      refine ⟨?_, rfl⟩
      refine ret_int ?_
      rw [ho.out, List.drop_eq_nil_of_le (by have := HN.out; omega)]
      rfl
theorem or_cmp : ∀ l : List (Int × Int), decide (orL (l.map fun q => cmpv q.1 q.2) < 0) = lx l
  | [] => rfl
  | (x, y) :: r => by
    rw [List.map_cons, orL, lx, ← or_cmp r]
    rcases Int.lt_trichotomy x y with h | h | h
    · rw [cmpv_lt h]; simp [h]
    · subst h; rw [cmpv_eq]; simp
    · rw [cmpv_gt h]; simp; omega
theorem less_lt (f g : Fl) : decide (orL [cmpv f.p g.p, cmpv f.s g.s, cmpv f.sp g.sp, cmpv f.d g.d, cmpv f.dp g.dp] < 0) = decide (ltF f g) := by
  rw [lt_lx, List.drop_zero, ← or_cmp]
  rfl
theorem two_boxes (w : World) (f g : Fl) : ∃ W, (w.alloc f.obj).alloc g.obj = W ∧ FlAt W w.heap.size f ∧ FlAt W (w.heap.size + 1) g ∧ Grw w W :=
  ⟨_, rfl, flAt_below (flAt_new w f) (bl_al (Below.refl _ _) _) (by simp), by simpa using flAt_new (w.alloc f.obj) g, ((Grw.refl w).alloc _).alloc _⟩
theorem five_cells (w : World) (a b c d e : Int) : ∀ i, i < 5 → (w.alloc (.cells #[.int .i64 a, .int .i64 b, .int .i64 c, .int .i64 d, .int .i64 e] 3)).cell? ⟨w.heap.size, i, none⟩ = some (.int .i64 ([a, b, c, d, e].getD i 0))
  | 0, _ => by simp [go_sem]
  | 1, _ => by simp [go_sem]
  | 2, _ => by simp [go_sem]
  | 3, _ => by simp [go_sem]
  | 4, _ => by simp [go_sem]
  | k + 5, h => absurd h (by omega)
set_option maxRecDepth 100000 in
set_option maxHeartbeats 1000000 in
theorem less_g (f g : Fl) (w : World) :
    Calls Try.prog 65 #[f.val, g.val] w fun e w' => e = .returned (.bool (decide (ltF f g))) ∧ Grw w w' := by
  obtain ⟨W, hW, ⟨f0, f1, f2, f3, f4⟩, ⟨g0, g1, g2, g3, g4⟩, hb⟩ := two_boxes w f g
  have HW := Lib.hid hW
  clear hW
  go_enter Try.func65, Try.ntmps65
  go_wp2
  rw [HW.out]
  clear HW
  go_still_tail 25, (by kernel_rfl)
  still_call (compare_int _ _ _)
  repeat still_step
  still_call (compare_addr _ _ _)
  repeat still_step
  still_call (compare_int _ _ _)
  repeat still_step
  still_call (compare_addr _ _ _)
  repeat still_step
  still_call (compare_int _ _ _)
  repeat still_step
  refine wpStill_nil ?_
  change wpList _ _ _ _ _ W.drew
  have hb2 := hb.drew
  generalize W.drew = W2 at hb2 ⊢
  clear f0 f1 f2 f3 f4 g0 g1 g2 g3 g4 hb
  have ho := Lib.hid (less_lt f g)
  go_wp2_with (go_at_call 90; refine (or_any [cmpv f.p g.p, cmpv f.s g.s, cmpv f.sp g.sp, cmpv f.d g.d, cmpv f.dp g.dp] _ 5 rfl (by decide) _ (five_cells _ _ _ _ _ _)).mono ?_; rintro e w' ⟨rfl, rfl⟩)
  go_ret
  exact ⟨congrArg (fun b => Ending.returned (Value.bool b)) ho.out, hb2.alloc _⟩
theorem port_c (n : Int) (w : World) : Calls Try.prog 83 #[.int .i64 n] w fun e w' => e = .returned (.bool (decide (0 ≤ n ∧ n < 65536))) ∧ w = w' := by
  by_cases h1 : 0 ≤ n
  · by_cases h2 : n < 65536
    · have h3 : n ≤ 65535 := by omega
      rw [decide_eq_true (show 0 ≤ n ∧ n < 65536 from ⟨h1, h2⟩)]
      go_enter Try.func83, Try.ntmps83
      go_wp2
      go_ret
      exact ⟨rfl, rfl⟩
    · have h3 : ¬ n ≤ 65535 := by omega
      rw [decide_eq_false (show ¬ (0 ≤ n ∧ n < 65536) from fun h => h2 h.2)]
      go_enter Try.func83, Try.ntmps83
      go_wp2
      go_ret
      exact ⟨rfl, rfl⟩
  · rw [decide_eq_false (show ¬ (0 ≤ n ∧ n < 65536) from fun h => h1 h.1)]
    go_enter Try.func83, Try.ntmps83
    go_wp2
    go_ret
    exact ⟨rfl, rfl⟩
/-- What Check answers. -/
def chkF (f : Fl) : Value := if GoodF f then .nilIface else errnoF 9
set_option maxRecDepth 100000 in
theorem chk_c (f : Fl) (w : World) : Calls Try.prog 54 #[f.val] w fun e w' => e = .returned (chkF f) ∧ Below w.heap.size w w' := by
  by_cases hp : f.p = 6 ∨ f.p = 17
  · have hq : ((f.p != 6) = true ∧ (f.p != 17) = false) ∨ ((f.p != 6) = false) := by
      rcases hp with h | h
      · right; simp [h]
      · left; simp [h]
    have c1 := port_c f.sp
    have c2 := port_c f.dp
    by_cases hs : 0 ≤ f.sp ∧ f.sp < 65536
    · by_cases hd : 0 ≤ f.dp ∧ f.dp < 65536
      · have hr : chkF f = .nilIface := if_pos ⟨hp, hs.1, hs.2, hd.1, hd.2⟩
        rw [hr]
        rw [decide_eq_true hs] at c1
        rw [decide_eq_true hd] at c2
        clear hp hs hd hr
        rcases hq with ⟨q1, q2⟩ | q1
        all_goals
          go_enter Try.func54, Try.ntmps54
          go_wp2_with fail
          refine (c1 _).mono ?_
          rintro e w1 ⟨rfl, rfl⟩
          go_wp2_with fail
          refine (c2 _).mono ?_
          rintro e w1 ⟨rfl, rfl⟩
          go_wp2
          go_ret
          exact ⟨rfl, bl_al (Below.refl _ _) _⟩
      · have hr : chkF f = errnoF 9 := if_neg (fun h => hd ⟨h.2.2.2.1, h.2.2.2.2⟩)
        rw [hr]
        rw [decide_eq_true hs] at c1
        rw [decide_eq_false hd] at c2
        clear hp hs hd hr
        rcases hq with ⟨q1, q2⟩ | q1
        all_goals
          go_enter Try.func54, Try.ntmps54
          go_wp2_with fail
          refine (c1 _).mono ?_
          rintro e w1 ⟨rfl, rfl⟩
          go_wp2_with fail
          refine (c2 _).mono ?_
          rintro e w1 ⟨rfl, rfl⟩
          go_wp2
          go_ret
          exact ⟨rfl, bl_al (Below.refl _ _) _⟩
    · have hr : chkF f = errnoF 9 := if_neg (fun h => hs ⟨h.2.1, h.2.2.1⟩)
      rw [hr]
      rw [decide_eq_false hs] at c1
      clear hp hs hr
      rcases hq with ⟨q1, q2⟩ | q1
      all_goals
        go_enter Try.func54, Try.ntmps54
        go_wp2_with fail
        refine (c1 _).mono ?_
        rintro e w1 ⟨rfl, rfl⟩
        go_wp2
        go_ret
        exact ⟨rfl, bl_al (Below.refl _ _) _⟩
  · have hr : chkF f = errnoF 9 := if_neg (fun h => hp h.1)
    rw [hr]
    have q1 : (f.p != 6) = true := by simp; omega
    have q2 : (f.p != 17) = true := by simp; omega
    clear hp hr
    go_enter Try.func54, Try.ntmps54
    go_wp2
    go_ret
    exact ⟨rfl, bl_al (Below.refl _ _) _⟩
end Go.Proofs.Ytpbgccidhpfmgaa
