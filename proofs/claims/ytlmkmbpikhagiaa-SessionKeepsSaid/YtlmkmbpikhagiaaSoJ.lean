/- slices.Clone, Equal, Index, Contains, Compact at rows of addresses; the document's same. Conditions: those stated. -/
import Derived.Test.YtlmkmbpikhagiaaSoI
import Derived.Test.YtlmkmbpikhagiaaMsA
namespace Go.Proofs.Ytlmkmbpikhagiaa
open Go Go.RowKit Go.Sort Go.Lib
set_option linter.unusedVariables false
set_option linter.unusedSimpArgs false

/-- Addresses in new memory. -/
def GotA (w : World) (l : List Int) (e : Ending) (w' : World) : Prop :=
  ∃ a n c, e = .returned (.slice a n c) ∧ n = l.length ∧ w'.ownsRow w.heap.size 44 1 (.slice a n c) n (a32s l) ∧ Below w.heap.size w w'
set_option maxRecDepth 100000 in
theorem clone_a (l : List Int) (a : Option Addr) (n cap : Nat) (w : World) (hA : InA w a n cap l) (hn : n ≤ 17592186043904) :
    Calls Try.prog 54 #[.slice a n cap] w (GotA w l) := by
  obtain ⟨i0, hi0, hz0, hz1, hz2⟩ := info_parts infoA
  have HA := Lib.hid hA
  cases a with
  | none =>
    obtain ⟨rfl, rfl⟩ := hA.zero rfl
    have hnil : ∀ w : World, (binOp .eql 33 (.slice none 0 0) (.slice none 0 0)).run Try.prog w = .ok (.bool true) w := fun w => by
      simp only [binOp]
      simp [Op.equal, Op.maxDepth, Lib.run_equalIn_slice_nil w 9999 33 44 none 0 0 0 0 Try.underlying33]
    clear hA
    go_enter Try.func54, Try.ntmps54
    go_wp2
    go_ret
    have hl : l = [] := List.eq_nil_of_length_eq_zero HA.out.len
    subst hl
    exact ⟨none, 0, 0, rfl, rfl, World.ownsRow_nil _ _ _ _, Below.refl _ _⟩
  | some ad =>
    clear hA
    have hnil : ∀ w : World, (binOp .eql 33 (.slice (some ad) n cap) (.slice none 0 0)).run Try.prog w = .ok (.bool false) w := fun w => by
      simp only [binOp]
      simp [Op.equal, Op.maxDepth, Lib.run_equalIn_slice_nil w 9999 33 44 (some ad) n cap 0 0 Try.underlying33]
    go_enter Try.func54, Try.ntmps54
    have own0 := World.ownsRow_made (e := 44) (size := 1) w #[] 0 (Nat.le_refl _) (by decide) rfl
    have HA1 := Lib.hid (HA.out.below (bl_al (Below.refl _ _) (.cells #[] 44)))
    go_wp2_with (at_builtin; refine append_any rfl (.tmp 5) (.tmp 6) 33 rfl w.heap.size 44 i0 (.int .u32 0) 1 4 Try.underlying33 hi0 hz0 hz1 hz2 rfl (by decide) _ 0 [] rfl own0 (some ad) n cap (a32s l) rfl HA1.out.zero ?c1 HA1.out.cells (a32s_one l) ?c2 ?c3 ?c4 ?_)
    case c1 => unfold a32s; rw [List.length_map, HA.out.len]; omega
    case c2 => unfold maxLen; omega
    case c3 => omega
    case c4 => simp
    intro v1 w2 hown hgrow
    have HB2 := Lib.hid ((bl_al (Below.refl w.heap.size w) (.cells #[] 44)).grown hgrow (by simp) (fun k hk => by cases hk; exact Nat.le_refl _))
    obtain ⟨ao, c1, rfl⟩ := own_form hown
    have HO := Lib.hid hown
    clear hgrow own0 HA1 hown
    go_wp2
    go_ret
    exact ⟨ao, n, c1, rfl, HA.out.len.symm, HO.out, HB2.out⟩

set_option maxRecDepth 100000 in
set_option maxHeartbeats 1000000 in
theorem equal_a (l m : List Int) (a b : Option Addr) (n c k d : Nat) (w : World) (hI : InA w a n c l) (hJ : InA w b k d m) (hn : n ≤ 4611686018427387904) (z : Bool) (hz : z = true ↔ l = m) :
    Calls Try.prog 36 #[.slice a n c, .slice b k d] w fun e w' => e = .returned (.bool z) ∧ Below w.heap.size w w' := by
  have HI := Lib.hid hI
  have HJ := Lib.hid hJ
  have HZ := Lib.hid hz
  have HB0 := Lib.hid (Below.refl w.heap.size w)
  by_cases hk : n = k
  · subst hk
    clear hI hJ hz
    go_enter Try.func36, Try.ntmps36
    go_wp2
    go_loopw [5, 13] (fun v i wr => ∃ j : Nat, j ≤ n ∧ i = .int .i64 j ∧ Hid (l.take j = m.take j) ∧ Hid (Below w.heap.size w wr)) (fun _ i _ => n - (intOf i).toNat)
    case atStart => exact ⟨0, by omega, rfl, Lib.hid rfl, HB0⟩
    case round =>
      obtain ⟨j, hj, rfl, hE, hB⟩ := hrel
      clear HB0
      by_cases hlj : j < n
      · obtain ⟨b1, o1, rfl⟩ := in_blockA HI.out (by omega)
        obtain ⟨b2, o2, rfl⟩ := in_blockA HJ.out (by omega)
        have c1 := in_cellA (HI.out.below hB.out) j hlj
        have c2 := in_cellA (HJ.out.below hB.out) j hlj
        have ilj : (j : Int) < (n : Int) := by omega
        have hdj : decide ((j : Int) < (n : Int)) = true := decide_eq_true ilj
        have j0 : (0 : Int) ≤ (j : Int) := by omega
        by_cases e : l.getD j 0 = m.getD j 0
        · have HS := Lib.hid (take_step hE.out (by rw [HI.out.len]; exact hlj) (by rw [HJ.out.len]; exact hlj) e)
          rw [← e] at c2
          obtain ⟨x, hx⟩ : ∃ x, x = l.getD j 0 := ⟨_, rfl⟩
          rw [← hx] at c1 c2
          have qx : (x != x) = false := by simp
          clear hx e
          go_wp2
          go_quiet (fail)
          go_wp2
          go_roundw
          case rel => exact ⟨j + 1, by omega, by go_num, HS, Lib.hid (below_drewN hB.out _)⟩
          case measure => simp [intOf]; omega
        · have hzf : z = false := by
            cases hzz : z with
            | false => rfl
            | true => exact absurd (HZ.out.1 hzz) (differ e)
          obtain ⟨x, hx⟩ : ∃ x, x = l.getD j 0 := ⟨_, rfl⟩
          obtain ⟨y, hy⟩ : ∃ y, y = m.getD j 0 := ⟨_, rfl⟩
          rw [← hx] at c1
          rw [← hy] at c2
          have qx : (x != y) = true := by rw [hx, hy]; simpa using e
          have HZF := Lib.hid hzf
          clear hx hy e hzf
          go_wp2
          go_quiet (fail)
          go_wp2
          go_ret
          exact ⟨congrArg (fun z => Ending.returned (Value.bool z)) HZF.out.symm, below_drewN hB.out _⟩
      · have hzt : z = true := HZ.out.2 (take_end hE.out HI.out.len HJ.out.len hlj)
        have HZT := Lib.hid hzt
        have ilj : ¬ ((j : Int) < (n : Int)) := by omega
        clear hzt
        go_wp2
        go_ret
        exact ⟨congrArg (fun z => Ending.returned (Value.bool z)) HZT.out.symm, hB.out⟩
  · have hzf : z = false := by
      cases hzz : z with
      | false => rfl
      | true => exact absurd (by rw [← hI.len, ← hJ.len, hz.1 hzz]) hk
    subst hzf
    have qk : ((n : Int) != (k : Int)) = true := by simp; omega
    clear hI hJ hz hk
    go_enter Try.func36, Try.ntmps36
    go_wp2
    go_ret
    exact ⟨rfl, HB0.out⟩

set_option maxRecDepth 100000 in
set_option maxHeartbeats 1000000 in
theorem sameR_a (l m : List Int) (a b : Option Addr) (n c k d : Nat) (w : World) (hI : InA w a n c l) (hJ : InA w b k d m) (hn : n ≤ 4611686018427387904) (z : Bool) (hz : z = true ↔ l = m) :
    Calls Try.prog 38 #[.slice a n c, .slice b k d] w fun e w' => e = .returned (.bool z) ∧ Below w.heap.size w w' := by
  have HI := Lib.hid hI
  have HJ := Lib.hid hJ
  have HZ := Lib.hid hz
  have HB0 := Lib.hid (Below.refl w.heap.size w)
  by_cases hk : n = k
  · subst hk
    clear hI hJ hz
    go_enter Try.func38, Try.ntmps38
    go_wp2
    go_loopw [5] (fun i wr => ∃ j : Nat, j ≤ n ∧ i = .int .i64 j ∧ Hid (l.take j = m.take j) ∧ Hid (Below w.heap.size w wr)) (fun i _ => n - (intOf i).toNat)
    case atStart => exact ⟨0, by omega, rfl, Lib.hid rfl, HB0⟩
    case round =>
      obtain ⟨j, hj, rfl, hE, hB⟩ := hrel
      clear HB0
      by_cases hlj : j < n
      · obtain ⟨b1, o1, rfl⟩ := in_blockA HI.out (by omega)
        obtain ⟨b2, o2, rfl⟩ := in_blockA HJ.out (by omega)
        have c1 := in_cellA (HI.out.below hB.out) j hlj
        have c2 := in_cellA (HJ.out.below hB.out) j hlj
        have ilj : (j : Int) < (n : Int) := by omega
        have hdj : decide ((j : Int) < (n : Int)) = true := decide_eq_true ilj
        have j0 : (0 : Int) ≤ (j : Int) := by omega
        by_cases e : l.getD j 0 = m.getD j 0
        · have HS := Lib.hid (take_step hE.out (by rw [HI.out.len]; exact hlj) (by rw [HJ.out.len]; exact hlj) e)
          rw [← e] at c2
          obtain ⟨x, hx⟩ : ∃ x, x = l.getD j 0 := ⟨_, rfl⟩
          rw [← hx] at c1 c2
          have qx : (x != x) = false := by simp
          clear hx e
          go_wp2
          go_quiet (fail)
          go_wp2
          go_roundw
          case rel => exact ⟨j + 1, by omega, by go_num, HS, Lib.hid (below_drewN hB.out _)⟩
          case measure => simp [intOf]; omega
        · have hzf : z = false := by
            cases hzz : z with
            | false => rfl
            | true => exact absurd (HZ.out.1 hzz) (differ e)
          obtain ⟨x, hx⟩ : ∃ x, x = l.getD j 0 := ⟨_, rfl⟩
          obtain ⟨y, hy⟩ : ∃ y, y = m.getD j 0 := ⟨_, rfl⟩
          rw [← hx] at c1
          rw [← hy] at c2
          have qx : (x != y) = true := by rw [hx, hy]; simpa using e
          have HZF := Lib.hid hzf
          clear hx hy e hzf
          go_wp2
          go_quiet (fail)
          go_wp2
          go_ret
          exact ⟨congrArg (fun z => Ending.returned (Value.bool z)) HZF.out.symm, below_drewN hB.out _⟩
      · have hzt : z = true := HZ.out.2 (take_end hE.out HI.out.len HJ.out.len hlj)
        have HZT := Lib.hid hzt
        have ilj : ¬ ((j : Int) < (n : Int)) := by omega
        clear hzt
        go_wp2
        go_ret
        exact ⟨congrArg (fun z => Ending.returned (Value.bool z)) HZT.out.symm, hB.out⟩
  · have hzf : z = false := by
      cases hzz : z with
      | false => rfl
      | true => exact absurd (by rw [← hI.len, ← hJ.len, hz.1 hzz]) hk
    subst hzf
    have qk : ((n : Int) != (k : Int)) = true := by simp; omega
    clear hI hJ hz hk
    go_enter Try.func38, Try.ntmps38
    go_wp2
    go_ret
    exact ⟨rfl, HB0.out⟩

/-- The first place of x in l from j on. -/
def idxA (x : Int) : List Int → Nat → Int
  | [], _ => -1
  | y :: l, j => if x = y then (j : Int) else idxA x l (j + 1)
theorem idxA_geq (x : Int) : ∀ (l : List Int) (j : Nat), decide (0 ≤ idxA x l j) = decide (x ∈ l)
  | [], j => by simp [idxA]
  | y :: l, j => by
    unfold idxA
    by_cases h : x = y
    · rw [if_pos h]; simp [h]
    · rw [if_neg h, idxA_geq x l (j + 1)]; simp [h]
set_option maxRecDepth 100000 in
set_option maxHeartbeats 1000000 in
theorem index_a (x : Int) (l : List Int) (a : Option Addr) (n c : Nat) (w : World) (hI : InA w a n c l) (hn : n ≤ 4611686018427387904) :
    Calls Try.prog 58 #[.slice a n c, .int .u32 x] w fun e w' => e = .returned (.int .i64 (idxA x l 0)) ∧ w = w' := by
  have HI := Lib.hid hI
  clear hI
  go_enter Try.func58, Try.ntmps58
  go_wp2
  go_loop [5, 8] (fun _ i => ∃ j : Nat, j ≤ n ∧ i = .int .i64 j ∧ Hid (idxA x (l.drop j) j = idxA x l 0)) (fun _ i => n - (intOf i).toNat)
  case atStart => exact ⟨0, by omega, rfl, Lib.hid rfl⟩
  case round =>
    obtain ⟨j, hj, rfl, hE⟩ := hrel
    by_cases hlj : j < n
    · obtain ⟨b1, o1, rfl⟩ := in_blockA HI.out (by omega)
      have c1 := in_cellA HI.out j hlj
      have ilj : (j : Int) < (n : Int) := by omega
      have hd : l.drop j = l.getD j 0 :: l.drop (j + 1) := by
        rw [List.drop_eq_getElem_cons (by rw [HI.out.len]; exact hlj), List.getD_eq_getElem?_getD, List.getElem?_eq_getElem (by rw [HI.out.len]; exact hlj)]
        rfl
      have HD := Lib.hid hd
      obtain ⟨y, hy⟩ : ∃ y, y = l.getD j 0 := ⟨_, rfl⟩
      rw [← hy] at c1
      have HY := Lib.hid hy
      clear hd hy
      by_cases e : x = y
      · have qx : (x == y) = true := by simp [e]
        have HV := Lib.hid (show idxA x l 0 = (j : Int) by rw [← hE.out, HD.out, ← HY.out]; unfold idxA; rw [if_pos e])
        clear e
        go_wp2
        go_ret
        exact ⟨by rw [HV.out]; rfl, rfl⟩
      · have qx : (x == y) = false := by simp [e]
        have HV := Lib.hid (show idxA x (l.drop (j + 1)) (j + 1) = idxA x l 0 by rw [← hE.out, HD.out, ← HY.out]; conv => rhs; unfold idxA; rw [if_neg e])
        clear e
        go_wp2
        go_round
        case rel => exact ⟨j + 1, by omega, by go_num, HV⟩
        case measure => simp [intOf]; omega
    · have ilj : ¬ ((j : Int) < (n : Int)) := by omega
      have HV := Lib.hid (show idxA x l 0 = -1 by rw [← hE.out, List.drop_eq_nil_of_le (by rw [HI.out.len]; omega)]; rfl)
      go_wp2
      go_ret
      exact ⟨by rw [HV.out]; rfl, rfl⟩
theorem contains_a (x : Int) (l : List Int) (a : Option Addr) (n c : Nat) (w : World) (hI : InA w a n c l) (hn : n ≤ 4611686018427387904) :
    Calls Try.prog 47 #[.slice a n c, .int .u32 x] w fun e w' => e = .returned (.bool (decide (x ∈ l))) ∧ w = w' := by
  have H := Lib.hid (index_a x l a n c w hI hn)
  have HQ := Lib.hid (idxA_geq x l 0)
  obtain ⟨z, hz⟩ : ∃ z, z = idxA x l 0 := ⟨_, rfl⟩
  rw [← hz] at H HQ
  clear hI hz
  go_enter Try.func47, Try.ntmps47
  go_wp2_with fail
  refine H.out.mono ?_
  rintro e w1 ⟨rfl, rfl⟩
  go_wp2
  go_ret
  exact ⟨by rw [← HQ.out]; try rfl, rfl⟩
theorem compact_nil (c : Nat) (w : World) : Calls Try.prog 53 #[.slice none 0 c] w fun e w' => e = .returned (.slice none 0 c) ∧ w = w' := by
  go_enter Try.func53, Try.ntmps53
  go_wp2
  go_ret
  exact ⟨rfl, rfl⟩
theorem compact_a (l : List Int) (v : Value) (n B : Nat) (w : World) (h : w.ownsRow B 44 1 v n (a32s l)) (hn : n < 4611686018427387904) :
    Calls Try.prog 53 #[v] w fun e w' => ∃ v' k, e = .returned v' ∧ k = (Lib.compact l).length ∧ w'.ownsRow B 44 1 v' k (a32s (Lib.compact l)) ∧ Tch (fun b => v.ownBlock = some b) w w' := by
  have hl : l.length = n := by have := h.1; rw [a32s_len] at this; omega
  rcases h.2 with ⟨e0, h0⟩ | ⟨g, cap, cur, e0, hb, hg, h1, h2, h3, h4⟩
  · subst e0 h0
    have hl0 : l = [] := List.eq_nil_of_length_eq_zero hl
    refine (compact_nil 0 w).mono ?_
    rintro e w' ⟨rfl, rfl⟩
    subst hl0
    exact ⟨_, 0, rfl, rfl, h, Tch.refl _ _⟩
  · subst e0
    have hcur : cur = ([] ++ rowC l.toArray ++ cur.toList.drop n).toArray := by
      rw [rowC_list, List.nil_append]
      have h5 := List.take_append_drop n cur.toList
      rw [Nat.mul_one] at h4
      rw [h4] at h5
      rw [h5]
    have hS : Sr g 0 [] (cur.toList.drop n) n w l.toArray w := Sr.start (by simpa using hl) (by rw [← hcur]; exact hg) rfl
    refine (compact_row g 0 cap [] (cur.toList.drop n) n l.toArray w hS h1 hn).mono ?_
    rintro e w' ⟨k, d', rfl, hk, ht, hlen, hs⟩
    have hds : l.toArray.size = n := by simpa using hl
    have e0 : compactUpTo l.toArray l.toArray.size = Lib.compact l := by unfold Lib.compact; rw [List.size_toArray]
    rw [e0] at ht hlen
    refine ⟨_, k, rfl, hlen.symm, ⟨by rw [a32s_len, hlen]; omega, .inr ⟨g, cap, _, rfl, hb, hs.row, by omega, h2, ?_, ?_⟩⟩, hs.tch.mono (fun b e => by rw [e]; rfl)⟩
    · have hc := congrArg Array.size hcur
      have e1 : (rowC d').length = n := by rw [rowC_len, hs.len]
      have e2 : (rowC l.toArray).length = n := by rw [rowC_len, hds]
      simp only [List.size_toArray, List.length_append, e1, e2, List.length_nil] at hc ⊢
      omega
    · rw [rowC_arr, Nat.mul_one, List.nil_append, List.take_append_of_le_length (by rw [a32s_len, Array.length_toList, hs.len]; exact hk), ← ht]
      unfold a32s
      rw [List.map_take]
end Go.Proofs.Ytlmkmbpikhagiaa
