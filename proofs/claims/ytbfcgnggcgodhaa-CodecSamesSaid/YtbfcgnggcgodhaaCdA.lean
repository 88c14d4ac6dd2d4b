/- Contracts of bytes.Equal, bytes.Clone, slices.Equal and slices.Clone of numbers, addr.isPort, addr.Check, codec.appendNumber. Conditions: rows came in; those stated. -/
import Derived.Test.YtbfcgnggcgodhaaMgF
import Derived.Test.YtbfcgnggcgodhaaQStep
import Derived.Deep.CutRange
namespace Go.Proofs.Ytbfcgnggcgodhaa
open Go Go.RowKit
set_option linter.unusedVariables false
set_option linter.unusedSimpArgs false

set_option maxRecDepth 100000 in
theorem equal_any (l m : List Int) (a b : Option Addr) (n k c d : Nat) (w : World) (hA : At w (.slice a n c) l) (hB : At w (.slice b k d) m) (hn : l.length = n) (hk : m.length = k) (hl : fit l) (hm : fit m) :
    Calls Try.prog 37 #[.slice a n c, .slice b k d] w fun e w' => e = .returned (.bool (same l m)) ∧ w = w' := by
  have s1 := str_of hA hn
  have s2 := str_of hB hk
  have q := str_eq hl hm
  obtain ⟨s, hs⟩ : ∃ s, s = strOfNums l := ⟨_, rfl⟩
  obtain ⟨t, ht⟩ : ∃ t, t = strOfNums m := ⟨_, rfl⟩
  rw [← hs] at s1 q
  rw [← ht] at s2 q
  obtain ⟨z, hz⟩ : ∃ z, z = same l m := ⟨_, rfl⟩
  rw [← hz] at q
  rw [← hz]
  clear hA hB hn hk hl hm hs ht hz
  go_enter Try.func37, Try.ntmps37
  go_wp2
  go_ret
  exact ⟨by rw [← q]; rfl, rfl⟩

set_option maxRecDepth 100000 in
theorem bclone_any (l : List Int) (ad : Addr) (n cap : Nat) (w : World) (hA : In w (some ad) n cap l) (hn : n ≤ 1048576) :
    Calls Try.prog 38 #[.slice (some ad) n cap] w fun e w' => ∃ ao cp, e = .returned (.slice ao n cp) ∧ w'.ownsRow w.heap.size 5 1 (.slice ao n cp) n (u8s l) ∧ Below w.heap.size w w' := by
  obtain ⟨i0, hi0, hz0, hz1, hz2⟩ := info_parts info5
  have HA := Lib.hid hA
  clear hA
  have hnil : ∀ w : World, (binOp .eql 23 (.slice (some ad) n cap) (.slice none 0 0)).run Try.prog w = .ok (.bool false) w := fun w => by
    simp only [binOp]
    simp [Op.equal, Op.maxDepth, Lib.run_equalIn_slice_nil w 9999 23 5 (some ad) n cap 0 0 Try.underlying23]
  go_enter Try.func38, Try.ntmps38
  have own0 := World.ownsRow_made (e := 5) (size := 1) w #[] 0 (Nat.le_refl _) (by decide) rfl
  have HA1 := Lib.hid (HA.out.below (bl_al (Below.refl _ _) (.cells #[] 5)))
  go_wp2_with (at_builtin; refine append_any rfl (.tmp 5) (.tmp 6) 23 rfl w.heap.size 5 i0 (.int .u8 0) 1 1 Try.underlying23 hi0 hz0 hz1 hz2 rfl (by decide) _ 0 [] rfl own0 (some ad) n cap (u8s l) rfl HA1.out.zero ?c1 HA1.out.cells (u8s_one l) ?c2 ?c3 ?c4 ?_)
  case c1 => unfold u8s; rw [List.length_map, HA.out.len]; omega
  case c2 => unfold maxLen; omega
  case c3 => omega
  case c4 => simp
  intro v1 w2 hown hgrow
  have HB2 := Lib.hid ((bl_al (Below.refl w.heap.size w) (.cells #[] 5)).grown hgrow (by simp) (fun k hk => by cases hk; exact Nat.le_refl _))
  obtain ⟨ao, c1, rfl⟩ := own_form hown
  have HO := Lib.hid hown
  clear hgrow own0 HA1 hown
  go_wp2
  go_ret
  exact ⟨ao, c1, rfl, HO.out, HB2.out⟩

set_option maxRecDepth 100000 in
theorem iclone_any (l : List Int) (a : Option Addr) (n cap : Nat) (w : World) (hA : InI w a n cap l) (hn : n ≤ 17592186043904) :
    Calls Try.prog 41 #[.slice a n cap] w (GotI w l) := by
  obtain ⟨i0, hi0, hz0, hz1, hz2⟩ := info_parts info3
  have HA := Lib.hid hA
  cases a with
  | none =>
    obtain ⟨rfl, rfl⟩ := hA.zero rfl
    have hnil : ∀ w : World, (binOp .eql 22 (.slice none 0 0) (.slice none 0 0)).run Try.prog w = .ok (.bool true) w := fun w => by
      simp only [binOp]
      simp [Op.equal, Op.maxDepth, Lib.run_equalIn_slice_nil w 9999 22 3 none 0 0 0 0 Try.underlying22]
    clear hA
    go_enter Try.func41, Try.ntmps41
    go_wp2
    go_ret
    have hl : l = [] := List.eq_nil_of_length_eq_zero HA.out.len
    subst hl
    exact ⟨none, 0, 0, rfl, rfl, World.ownsRow_nil _ _ _ _, Below.refl _ _⟩
  | some ad =>
    clear hA
    have hnil : ∀ w : World, (binOp .eql 22 (.slice (some ad) n cap) (.slice none 0 0)).run Try.prog w = .ok (.bool false) w := fun w => by
      simp only [binOp]
      simp [Op.equal, Op.maxDepth, Lib.run_equalIn_slice_nil w 9999 22 3 (some ad) n cap 0 0 Try.underlying22]
    go_enter Try.func41, Try.ntmps41
    have own0 := World.ownsRow_made (e := 3) (size := 1) w #[] 0 (Nat.le_refl _) (by decide) rfl
    have HA1 := Lib.hid (HA.out.below (bl_al (Below.refl _ _) (.cells #[] 3)))
    go_wp2_with (at_builtin; refine append_any rfl (.tmp 5) (.tmp 6) 22 rfl w.heap.size 3 i0 (.int .i64 0) 1 8 Try.underlying22 hi0 hz0 hz1 hz2 rfl (by decide) _ 0 [] rfl own0 (some ad) n cap (i64s l) rfl HA1.out.zero ?c1 HA1.out.cells (i64s_one l) ?c2 ?c3 ?c4 ?_)
    case c1 => unfold i64s; rw [List.length_map, HA.out.len]; omega
    case c2 => unfold maxLen; omega
    case c3 => omega
    case c4 => simp
    intro v1 w2 hown hgrow
    have HB2 := Lib.hid ((bl_al (Below.refl w.heap.size w) (.cells #[] 3)).grown hgrow (by simp) (fun k hk => by cases hk; exact Nat.le_refl _))
    obtain ⟨ao, c1, rfl⟩ := own_form hown
    have HO := Lib.hid hown
    clear hgrow own0 HA1 hown
    go_wp2
    go_ret
    exact ⟨ao, n, c1, rfl, HA.out.len.symm, HO.out, HB2.out⟩

set_option maxRecDepth 100000 in
set_option maxHeartbeats 1000000 in
theorem iequal_any (l m : List Int) (a b : Option Addr) (n c k d : Nat) (w : World) (hI : InI w a n c l) (hJ : InI w b k d m) (hn : n ≤ 4611686018427387904) (z : Bool) (hz : z = true ↔ l = m) :
    Calls Try.prog 39 #[.slice a n c, .slice b k d] w fun e w' => e = .returned (.bool z) ∧ Below w.heap.size w w' := by
  have HI := Lib.hid hI
  have HJ := Lib.hid hJ
  have HZ := Lib.hid hz
  have HB0 := Lib.hid (Below.refl w.heap.size w)
  by_cases hk : n = k
  · subst hk
    clear hI hJ hz
    go_enter Try.func39, Try.ntmps39
    go_wp2
    go_loopw [5, 13] (fun v i wr => ∃ j : Nat, j ≤ n ∧ i = .int .i64 j ∧ Hid (l.take j = m.take j) ∧ Hid (Below w.heap.size w wr)) (fun _ i _ => n - (intOf i).toNat)
    case atStart => exact ⟨0, by omega, rfl, Lib.hid rfl, HB0⟩
    case round =>
      obtain ⟨j, hj, rfl, hE, hB⟩ := hrel
      clear HB0
      by_cases hlj : j < n
      · obtain ⟨b1, o1, rfl⟩ := in_blockI HI.out (by omega)
        obtain ⟨b2, o2, rfl⟩ := in_blockI HJ.out (by omega)
        have c1 := in_cellI (HI.out.below hB.out) j hlj
        have c2 := in_cellI (HJ.out.below hB.out) j hlj
        have ilj : (j : Int) < (n : Int) := by omega
        have hdj : decide ((j : Int) < (n : Int)) = true := decide_eq_true ilj
        have j0 : (0 : Int) ≤ (j : Int) := by omega
        by_cases e : l.getD j 0 = m.getD j 0
        · have HS := Lib.hid (take_step hE.out (by rw [HI.out.len]; exact hlj) (by rw [HJ.out.len]; exact hlj) e)
          rw [← e] at c2
          obtain ⟨x, hx⟩ : ∃ x, x = l.getD j 0 := ⟨_, rfl⟩
          rw [← hx] at c1 c2
          have qx : (x != x) = false := by simp
          clear hx e
          go_wp2
          go_quiet (fail)
          go_wp2
          go_roundw
          case rel => exact ⟨j + 1, by omega, by go_num, HS, Lib.hid (below_drewN hB.out _)⟩
          case measure => simp [intOf]; omega
        · have hzf : z = false := by
            cases hzz : z with
            | false => rfl
            | true => exact absurd (HZ.out.1 hzz) (differ e)
          obtain ⟨x, hx⟩ : ∃ x, x = l.getD j 0 := ⟨_, rfl⟩
          obtain ⟨y, hy⟩ : ∃ y, y = m.getD j 0 := ⟨_, rfl⟩
          rw [← hx] at c1
          rw [← hy] at c2
          have qx : (x != y) = true := by rw [hx, hy]; simpa using e
          have HZF := Lib.hid hzf
          clear hx hy e hzf
          go_wp2
          go_quiet (fail)
          go_wp2
          go_ret
          exact ⟨congrArg (fun z => Ending.returned (Value.bool z)) HZF.out.symm, below_drewN hB.out _⟩
      · have hzt : z = true := HZ.out.2 (take_end hE.out HI.out.len HJ.out.len hlj)
        have HZT := Lib.hid hzt
        have ilj : ¬ ((j : Int) < (n : Int)) := by omega
        clear hzt
        go_wp2
        go_ret
        exact ⟨congrArg (fun z => Ending.returned (Value.bool z)) HZT.out.symm, hB.out⟩
  · have hzf : z = false := by
      cases hzz : z with
      | false => rfl
      | true => exact absurd (by rw [← hI.len, ← hJ.len, hz.1 hzz]) hk
    subst hzf
    have qk : ((n : Int) != (k : Int)) = true := by simp; omega
    clear hI hJ hz hk
    go_enter Try.func39, Try.ntmps39
    go_wp2
    go_ret
    exact ⟨rfl, HB0.out⟩

def inB (n lo hi : Int) : Bool := decide (lo ≤ n) && decide (n ≤ hi)
theorem inB_yes {n lo hi : Int} (h : lo ≤ n ∧ n ≤ hi) : inB n lo hi = true := by simp [inB, h.1, h.2]
theorem inB_no {n lo hi : Int} (h : ¬ (lo ≤ n ∧ n ≤ hi)) : inB n lo hi = false := by
  unfold inB
  by_cases h0 : lo ≤ n
  · have : ¬ n ≤ hi := fun h1 => h ⟨h0, h1⟩
    simp [this]
  · simp [h0]
theorem port_any (n : Int) (w : World) : Calls Try.prog 45 #[.int .i64 n] w fun e w' => e = .returned (.bool (inB n 0 65535)) ∧ w = w' := by
  by_cases h0 : 0 ≤ n
  · have HB : Hid (inB n 0 65535 = decide (n ≤ 65535)) := Lib.hid (by simp [inB, h0])
    go_enter Try.func45, Try.ntmps45
    go_wp2
    go_ret
    exact ⟨by rw [HB.out]; rfl, rfl⟩
  · have HB : Hid (inB n 0 65535 = false) := Lib.hid (by simp [inB, h0])
    go_enter Try.func45, Try.ntmps45
    go_wp2
    go_ret
    exact ⟨by rw [HB.out]; rfl, rfl⟩
/-- The numbers of a flow in form. -/
def FlowOk (pr sp dp : Int) : Prop := (pr = 6 ∨ pr = 17) ∧ (0 ≤ sp ∧ sp ≤ 65535) ∧ (0 ≤ dp ∧ dp ≤ 65535)
theorem flow_ok (pr s sp d dp : Int) (h : FlowOk pr sp dp) (w : World) : Calls Try.prog 40 #[fv pr s sp d dp] w fun e w' => e = .returned .nilIface ∧ Below w.heap.size w w' := by
  obtain ⟨hp, hs, hd⟩ := h
  have ps := inB_yes hs
  have pd := inB_yes hd
  have hq : ((pr != 6) = true ∧ (pr != 17) = false) ∨ ((pr != 6) = false) := by
    rcases hp with h | h
    · right; simp [h]
    · left; simp [h]
  clear hp hs hd
  rcases hq with ⟨q1, q2⟩ | q1
  all_goals
    go_enter Try.func40, Try.ntmps40
    go_wp2_with (go_at_call 45; refine (port_any _ _).mono ?_; rintro e w1 ⟨rfl, rfl⟩)
    go_ret
    exact ⟨rfl, bl_al (Below.refl _ _) _⟩
theorem flow_no (pr s sp d dp : Int) (h : ¬ FlowOk pr sp dp) (w : World) : Calls Try.prog 40 #[fv pr s sp d dp] w fun e w' => e = .returned (errnoM 9) ∧ Below w.heap.size w w' := by
  by_cases hp : pr = 6 ∨ pr = 17
  · have hq : ((pr != 6) = true ∧ (pr != 17) = false) ∨ ((pr != 6) = false) := by
      rcases hp with h | h
      · right; simp [h]
      · left; simp [h]
    by_cases hs : 0 ≤ sp ∧ sp ≤ 65535
    · have hd : ¬ (0 ≤ dp ∧ dp ≤ 65535) := fun hd => h ⟨hp, hs, hd⟩
      have ps := inB_yes hs
      have pd := inB_no hd
      clear hp hs hd h
      rcases hq with ⟨q1, q2⟩ | q1
      all_goals
        go_enter Try.func40, Try.ntmps40
        go_wp2_with (go_at_call 45; refine (port_any _ _).mono ?_; rintro e w1 ⟨rfl, rfl⟩)
        go_ret
        exact ⟨rfl, bl_al (Below.refl _ _) _⟩
    · have ps := inB_no hs
      clear hp hs h
      rcases hq with ⟨q1, q2⟩ | q1
      all_goals
        go_enter Try.func40, Try.ntmps40
        go_wp2_with (go_at_call 45; refine (port_any _ _).mono ?_; rintro e w1 ⟨rfl, rfl⟩)
        go_ret
        exact ⟨rfl, bl_al (Below.refl _ _) _⟩
  · have q1 : (pr != 6) = true := by simp; omega
    have q2 : (pr != 17) = true := by simp; omega
    clear hp h
    go_enter Try.func40, Try.ntmps40
    go_wp2
    go_ret
    exact ⟨rfl, bl_al (Below.refl _ _) _⟩
end Go.Proofs.Ytbfcgnggcgodhaa
