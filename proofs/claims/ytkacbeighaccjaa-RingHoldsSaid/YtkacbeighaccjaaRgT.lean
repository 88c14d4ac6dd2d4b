/- Contracts of towpathlaw09's RingKeys and RingLeaves: they return true. Conditions: the members came in. -/
import Derived.Test.YtkacbeighaccjaaRgK
import Derived.Deep.CutRange
namespace Go.Proofs.Ytkacbeighaccjaa
open Go Go.RowKit
set_option linter.unusedVariables false
set_option linter.unusedSimpArgs false

/-- Points, members, a key, a number: as a value; in a cell of its own. -/
abbrev xvR (P : Int) (a : Option Addr) (n c : Nat) (key N : Int) : Value := .agg #[.int .i64 P, .slice a n c, .int .u64 key, .int .i64 N]
abbrev xoR (P : Int) (a : Option Addr) (n c : Nat) (key N : Int) : Obj := .cells #[.int .i64 P, .slice a n c, .int .u64 key, .int .i64 N] 25
structure XAt (w : World) (q : Nat) (P : Int) (a : Option Addr) (n c : Nat) (key N : Int) : Prop where
  c0 : w.cell? ⟨q, 0, none⟩ = some (.int .i64 P)
  c1 : w.cell? ⟨q, 1, none⟩ = some (.slice a n c)
  c2 : w.cell? ⟨q, 2, none⟩ = some (.int .u64 key)
  c3 : w.cell? ⟨q, 3, none⟩ = some (.int .i64 N)
theorem XAt.new (w : World) (P : Int) (a : Option Addr) (n c : Nat) (key N : Int) : XAt (w.alloc (xoR P a n c key N)) w.heap.size P a n c key N := by
  have h := heap_alloc_new w (xoR P a n c key N)
  exact ⟨by rw [cell_of_row _ _ 0 _ _ _ h]; rfl, by rw [cell_of_row _ _ 1 _ _ _ h]; rfl, by rw [cell_of_row _ _ 2 _ _ _ h]; rfl, by rw [cell_of_row _ _ 3 _ _ _ h]; rfl⟩
theorem XAt.below {w w' : World} {q : Nat} {P : Int} {a : Option Addr} {n c : Nat} {key N : Int} (h : XAt w q P a n c key N) (hb : Below w.heap.size w w') : XAt w' q P a n c key N :=
  ⟨cell_later hb h.c0, cell_later hb h.c1, cell_later hb h.c2, cell_later hb h.c3⟩
set_option maxRecDepth 100000 in
theorem ringKeys_t (P key N : Int) (ms : List Int) (a : Option Addr) (n c : Nat) (w : World) (hI : InI w a n c ms) (hn : n ≤ 4611686018427387904) (hP : I64 P) (hN : I64 N) (hk : 0 ≤ key ∧ key < 18446744073709551616) :
    Calls Try.prog 3 #[xvR P a n c key N] w fun e w' => e = .returned (.bool true) ∧ Below w.heap.size w w' := by
  obtain ⟨W, hW⟩ : ∃ W, W = w.alloc (xoR P a n c key N) := ⟨_, rfl⟩
  have hX : XAt W w.heap.size P a n c key N := by rw [hW]; exact XAt.new w P a n c key N
  have hb : Below w.heap.size w W := by rw [hW]; exact bl_al (Below.refl _ _) _
  have CO := Lib.hid (owners_t P key N ms a n c W (hI.below hb) hn hP hN hk)
  obtain ⟨q, hq⟩ : ∃ q, q = w.heap.size := ⟨_, rfl⟩
  rw [← hq] at hX
  obtain ⟨x0, x1, x2, x3⟩ := hX
  have HB := Lib.hid hb
  have HW := Lib.hid (And.intro hW hq)
  clear hI hb hW hq hn hP hN hk
  go_enter Try.func3, Try.ntmps3
  go_upto_region 1 with fail
  rw [← HW.out.1, ← HW.out.2]
  go_wp2_with fail
  refine CO.out.mono ?_
  rintro e w1 ⟨rfl, hb⟩
  have HB1 := Lib.hid (bl_tr HB.out hb)
  clear hb CO
  go_wp2
  go_ret
  exact ⟨rfl, HB1.out⟩
set_option maxRecDepth 100000 in
set_option maxHeartbeats 4000000 in
theorem ringLeaves_t (P key N gone : Int) (ms : List Int) (a : Option Addr) (n c : Nat) (w : World) (hI : InI w a n c ms) (hn : n ≤ 4611686018427387904) (hP : I64 P) (hN : I64 N) (hk : 0 ≤ key ∧ key < 18446744073709551616) (hg : I64 gone) :
    Calls Try.prog 5 #[xvR P a n c key N, .int .i64 gone] w fun e w' => e = .returned (.bool true) ∧ Below w.heap.size w w' := by
  obtain ⟨W, hW⟩ : ∃ W, W = w.alloc (xoR P a n c key N) := ⟨_, rfl⟩
  have hX : XAt W w.heap.size P a n c key N := by rw [hW]; exact XAt.new w P a n c key N
  have hb : Below w.heap.size w W := by rw [hW]; exact bl_al (Below.refl _ _) _
  have HI := Lib.hid (hI.below hb)
  have HF := Lib.hid hI.fit
  obtain ⟨q, hq⟩ : ∃ q, q = w.heap.size := ⟨_, rfl⟩
  rw [← hq] at hX
  have HX := Lib.hid hX
  have HB := Lib.hid hb
  have HW := Lib.hid (And.intro hW hq)
  have CA := Lib.hid (alive9_any W)
  have HP := Lib.hid (And.intro hP (And.intro hN (And.intro hk hg)))
  obtain ⟨z, hz⟩ := goodP_is P ms
  have HZ := Lib.hid hz
  clear hI hb hW hq hX hP hN hk hg hz
  go_enter Try.func5, Try.ntmps5
  go_upto_region 1 with fail
  rw [← HW.out.1, ← HW.out.2]
  go_wp2_with fail
  refine CA.out.mono ?_
  rintro e w1 ⟨rfl, hb⟩
  have HB1 := Lib.hid hb
  have x0 := (HX.out.below hb).c0
  have x1 := (HX.out.below hb).c1
  have CG := Lib.hid (refGood_t P ms a n c w1 (HI.out.below hb) hn z HZ.out)
  clear hb CA
  go_wp2_with fail
  refine CG.out.mono ?_
  rintro e w2 ⟨rfl, hb⟩
  have HB2 := Lib.hid (bl_tr HB1.out hb)
  clear hb CG x0 x1
  by_cases hz0 : z = 0
  · subst hz0
    obtain ⟨hOP, hOM⟩ := goodP_zero HZ.out
    have HOM := Lib.hid hOM
    obtain ⟨p, rfl⟩ : ∃ p : Nat, P = p := ⟨P.toNat, by unfold OkP at hOP; omega⟩
    have hp1 : 0 < p ∧ p ≤ 64 := by unfold OkP at hOP; omega
    have hn64 : n ≤ 64 := by have := hOM.1; have := HI.out.len; omega
    have x0 := (HX.out.below HB2.out).c0
    have x1 := (HX.out.below HB2.out).c1
    have CN := Lib.hid (rnew_t (p : Int) ms a n c w2 (HI.out.below HB2.out) (by omega) (by omega) 0 HZ.out)
    rw [show (p : Int).toNat = p from Int.toNat_natCast p] at CN
    clear hOP hOM
    go_wp2_with fail
    refine CN.out.mono ?_
    rintro e w3 ⟨h | h, hb⟩
    case inr => exact absurd rfl h.1
    obtain ⟨_, r, rfl, hr⟩ := h
    have HB3 := Lib.hid (bl_tr HB2.out hb)
    have HR3 := Lib.hid hr
    have hbY := bl_al (Below.refl w3.heap.size w3) (.cells #[.int .i64 gone] 3)
    have CW := Lib.hid (rwithout_t r p ms [gone] (some ⟨w3.heap.size, 0, none⟩) 1 1 _ (hr.below hbY) (in_oneI w3 gone (by have := HP.out.2.2.2; unfold I64 at this; omega)) (by omega))
    have HBY := Lib.hid (bl_tr HB3.out hbY)
    have HRY := Lib.hid (hr.below hbY)
    clear hb hr CN HB2 x0 x1 hbY HB3 HR3
    go_wp2_with fail
    refine CW.out.mono ?_
    rintro e w4 ⟨h | h, hb⟩
    case inr => exact absurd rfl h.1
    obtain ⟨_, s, rfl, hs⟩ := h
    have HB4 := Lib.hid (bl_tr HBY.out hb)
    have HR4 := Lib.hid (HRY.out.below hb)
    have HS4 := Lib.hid hs
    have x2 := (HX.out.below HB4.out).c2
    have CO := Lib.hid (rowners_t r p ms key 64 w4 HR4.out HP.out.2.2.1 (by omega))
    clear hb hs CW HBY HRY
    go_wp2_with fail
    refine CO.out.mono ?_
    rintro e w5 hG
    have HFO := Lib.hid (fitI_own hp1.1 HOM.out.2.2 key)
    have HOL := Lib.hid (ownR_len hp1.1 HOM.out.2.1 key)
    have HLess := Lib.hid (ownR_less p ms [gone] key)
    have e64 : (ownR p ms key).take (64 : Int).toNat = ownR p ms key := List.take_of_length_le (by have := HOL.out; have := HOM.out.1; simp; omega)
    rw [e64] at hG
    obtain ⟨O, hO⟩ : ∃ O, O = ownR p ms key := ⟨_, rfl⟩
    rw [← hO] at hG HFO HOL HLess
    obtain ⟨ao, co, rfl, hI5, hb⟩ := gotB_in hG HFO.out
    have HB5 := Lib.hid (bl_tr HB4.out hb)
    have HR5 := Lib.hid (HR4.out.below hb)
    have HS5 := Lib.hid (HS4.out.below hb)
    have HO5 := Lib.hid hI5
    have hOl : O.length = n := by have := HOL.out; have := HI.out.len; omega
    have HON := Lib.hid hO
    rw [hOl] at HO5
    rw [hOl]
    clear e64 hG hI5 hb CO HB4 HR4 HS4 x2 hO
    go_upto_region 12 with fail
    have HBx := Lib.hid (show ∀ wx, Below w5.heap.size w5 wx → wx.cell? ⟨q, 1, none⟩ = some (.slice a n c) ∧ wx.cell? ⟨q, 2, none⟩ = some (.int .u64 key) ∧ Below w5.heap.size w5 wx from fun wx h => ⟨((HX.out.below HB5.out).below h).c1, ((HX.out.below HB5.out).below h).c2, h⟩)
    have hd0 : Below w5.heap.size w5 w5.drew := (Below.refl _ _).drew
    have hS0 := HBx.out _ hd0
    have hdA : Below w5.heap.size w5 (w5.alloc (.cells #[.int .i64 gone] 3)).drew := (bl_al (Below.refl _ _) _).drew
    have hSA := HBx.out _ hdA
    have HG := Lib.hid (fun (V : World) => in_oneI V gone (by have := HP.out.2.2.2; unfold I64 at this; omega))
    obtain ⟨O2, hO2⟩ : ∃ O2, O2 = lessI O [gone] := ⟨_, rfl⟩
    obtain ⟨k2, hk2⟩ : ∃ k2, k2 = O2.length := ⟨_, rfl⟩
    have hk64 : k2 ≤ 64 := by rw [hk2, hO2]; exact Nat.le_trans (List.length_filter_le _ _) (by omega)
    have HF2 := Lib.hid (show fitI O2 from fun x hx => by rw [hO2] at hx; exact HFO.out x (List.mem_filter.1 hx).1)
    have CO1 : Hid (∀ V : World, Below w5.heap.size w5 V → Calls Try.prog 23 #[.pointer (some ⟨s, 0, none⟩), .int .u64 key, .int .i64 64] V (fun e w' => ∃ a c, e = .returned (.slice a k2 c) ∧ InI w' a k2 c O2 ∧ Below V.heap.size V w')) := Lib.hid (fun V h => (rowners_t s p (lessI ms [gone]) key 64 V (HS5.out.below h) HP.out.2.2.1 (by omega)).mono (fun e w' hG => by
      rw [HLess.out, ← hO2, List.take_of_length_le (by rw [← hk2]; simp; omega)] at hG
      rw [hk2]
      exact gotB_in hG HF2.out))
    have CW1 : Hid (∀ (V : World) (b : Option Addr) (d : Nat), Below w5.heap.size w5 V → InI V b 1 d [gone] → Calls Try.prog 21 #[.slice ao n co, .slice b 1 d] V (fun e w' => ∃ a c, e = .returned (.slice a k2 c) ∧ InI w' a k2 c O2 ∧ Below V.heap.size V w')) := Lib.hid (fun V b d h hb => (refWithout_t O [gone] ao n co b 1 d V (HO5.out.below h) hb (by omega) (by omega)).mono (fun e w' hG => by
      rw [← hO2] at hG
      rw [hk2]
      exact gotB_in hG HF2.out))
    have CI1 := Lib.hid (fun (V : World) (a1 a2 : Option Addr) (c1 c2 : Nat) (h1 : InI V a1 k2 c1 O2) (h2 : InI V a2 k2 c2 O2) => ints_any O2 O2 a1 a2 k2 c1 k2 c2 V h1 h2 (by omega) true (by simp))
    clear hO2 hk2
    obtain ⟨m, hm⟩ : ∃ m, m = min 2 n := ⟨_, rfl⟩
    have hm1 : m ≤ n := by omega
    have hmo : m ≤ co := by have := HO5.out.room; omega
    have m0 : (0 : Int) ≤ (m : Int) := by omega
    have m1 : (m : Int) ≤ (co : Int) := by omega
    have hmn : ∀ (ts : Array TypeId) (t : TypeId) (V : World), (Builtin.min_ ts t #[.int .i64 2, .int .i64 (n : Int)]).run Try.prog V = .ok (.int .i64 (m : Int)) V := by
      intro ts t V
      rw [run_min_int2]
      congr 2
      split <;> omega
    have HTK : Hid ((ownR p ms key).take (2 : Int).toNat = O.take m) := Lib.hid (by
      rw [← HON.out]
      rcases Nat.lt_or_ge 2 n with h | h
      · rw [show m = 2 by omega]
        rfl
      · rw [List.take_of_length_le (by simp; omega), List.take_of_length_le (by omega)])
    clear hm
    have HT : Hid (∀ V : World, Below w5.heap.size w5 V → InI V ao m co (O.take m)) := Lib.hid (fun V h => (HO5.out.below h).take m (by omega))
    have HTL : Hid ((O.take m).length = m) := Lib.hid (by rw [List.length_take]; omega)
    have CO2 : Hid (∀ V : World, Below w5.heap.size w5 V → Calls Try.prog 23 #[.pointer (some ⟨r, 0, none⟩), .int .u64 key, .int .i64 2] V (fun e w' => ∃ a c, e = .returned (.slice a m c) ∧ InI w' a m c (O.take m) ∧ Below V.heap.size V w')) := Lib.hid (fun V h => (rowners_t r p ms key 2 V (HR5.out.below h) HP.out.2.2.1 (by omega)).mono (fun e w' hG => by
      rw [HTK.out] at hG
      have h2 := gotB_in hG (fitI_take HFO.out _)
      rw [HTL.out] at h2
      exact h2))
    have CI2 := Lib.hid (fun (V : World) (a1 : Option Addr) (c1 : Nat) (h1 : InI V a1 m c1 (O.take m)) (h2 : InI V ao m co (O.take m)) => ints_any (O.take m) (O.take m) a1 ao m c1 m co V h1 h2 (by omega) true (by simp))
    have hnc : n ≤ co := HO5.out.room
    have hmc : m ≤ co := by omega
    clear HP HTL
    go_region_held3 (fun wx => wx.cell? ⟨q, 1, none⟩ = some (.slice a n c) ∧ wx.cell? ⟨q, 2, none⟩ = some (.int .u64 key) ∧ Below w5.heap.size w5 wx) (first | (with_reducible exact hS0) | (with_reducible exact hSA) | (with_reducible exact HBx.out _ hb7) | (with_reducible exact HBx.out _ (bl_al hb7 _)) | (with_reducible exact HBx.out _ hb8) | (with_reducible exact HBx.out _ hb9) | (with_reducible exact HBx.out _ hb10) | (with_reducible exact HBx.out _ hb11) | (with_reducible assumption) | fail)
      (first | (go_at_call 23; (with_reducible refine (CO1.out _ hd0).mono ?_); rintro e w7 ⟨a7, c7, rfl, hI7, hb⟩; have hb7 := bl_tr hd0 hb; have hG7 := HG.out w7; have hI7' := hI7.below (bl_al (Below.refl w7.heap.size w7) (.cells #[.int .i64 gone] 3)); have hbG := bl_al hb7 (.cells #[.int .i64 gone] 3)) | (go_at_call 23; (with_reducible refine (CO1.out _ hdA).mono ?_); rintro e w7 ⟨a7, c7, rfl, hI7', hb⟩; have hb7 := bl_tr hdA hb; have hG7 := ((HG.out w5).below ((Below.refl _ _).drew)).below hb; have hbG := hb7) | (go_at_call 21; (with_reducible refine (CW1.out _ _ _ hbG hG7).mono ?_); rintro e w8 ⟨a8, c8, rfl, hI8, hb⟩; have hb8 := bl_tr hbG hb; have hI8' := hI7'.below hb) | (go_at_call 17; (with_reducible refine (CI1.out _ _ _ _ _ hI8' hI8).mono ?_); rintro e w9 ⟨rfl, hb⟩; have hb9 := bl_tr hb8 hb) | (go_at_call 23; (with_reducible refine (CO2.out _ hb9).mono ?_); rintro e w10 ⟨a10, c10, rfl, hI10, hb⟩; have hb10 := bl_tr hb9 hb; have hT10 := HT.out _ hb10) | (go_at_call 17; (with_reducible refine (CI2.out _ _ _ hI10 hT10).mono ?_); rintro e w11 ⟨rfl, hb⟩; have hb11 := bl_tr hb10 hb) | fail)
    all_goals
      rename_i hHeld
      have HBE := Lib.hid (bl_tr HB.out (bl_tr HB5.out hHeld.2.2))
      clear hHeld
      go_wp2
      go_ret
      exact ⟨rfl, HBE.out⟩
  · have hzb : (z != 0) = true := by simpa using hz0
    have HBE := Lib.hid (bl_tr HB.out HB2.out)
    go_wp2
    go_ret
    exact ⟨rfl, HBE.out⟩
end Go.Proofs.Ytkacbeighaccjaa
