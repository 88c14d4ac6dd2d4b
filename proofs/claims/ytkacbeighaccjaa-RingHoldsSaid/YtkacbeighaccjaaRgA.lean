/- The document's has, At, Without. Conditions: the rows came in. -/
import Derived.Test.YtkacbeighaccjaaRgQ
import Derived.Test.YtkacbeighaccjaaHsR
import Derived.Test.YtkacbeighaccjaaIntA
import Derived.LoopTactic
import Derived.LoopN
import Derived.Deep.CutRange
import Derived.Deep.AppendLies
namespace Go.Proofs.Ytkacbeighaccjaa
open Go Go.RowKit
set_option linter.unusedVariables false
set_option linter.unusedSimpArgs false

theorem contains_at {l : List Int} {j : Nat} {x : Int} (hj : j < l.length) (e : l.getD j 0 = x) : l.contains x = true := by
  rw [List.contains_iff_mem, ← e, List.getD_eq_getElem?_getD, List.getElem?_eq_getElem hj]
  exact List.getElem_mem hj
theorem notin_step {l : List Int} {j : Nat} {x : Int} (hj : j < l.length) (h : x ∉ l.take j) (e : ¬ l.getD j 0 = x) : x ∉ l.take (j + 1) := by
  rw [take_more l 0 hj, List.mem_append, List.mem_singleton]
  exact fun h2 => h2.elim h (fun h3 => e h3.symm)
set_option maxRecDepth 100000 in
theorem has_t (l : List Int) (a : Option Addr) (n c : Nat) (x : Int) (w : World) (hI : InI w a n c l) (hn : n ≤ 4611686018427387904) (z : Bool) (hz : z = l.contains x) :
    Calls Try.prog 38 #[.slice a n c, .int .i64 x] w fun e w' => e = .returned (.bool z) ∧ w = w' := by
  have HI := Lib.hid hI
  have HZ := Lib.hid hz
  clear hI hz
  go_enter Try.func38, Try.ntmps38
  go_wp2
  go_loop [5] (fun i => ∃ j : Nat, j ≤ n ∧ i = .int .i64 j ∧ Hid (x ∉ l.take j)) (fun i => n - (intOf i).toNat)
  case atStart => exact ⟨0, by omega, rfl, Lib.hid (by simp)⟩
  case round =>
    obtain ⟨j, hj, rfl, hE⟩ := hrel
    by_cases hlj : j < n
    · obtain ⟨b1, o1, rfl⟩ := in_blockI HI.out (by omega)
      have c1 := in_cellI HI.out j hlj
      have ilj : (j : Int) < (n : Int) := by omega
      have j0 : (0 : Int) ≤ (j : Int) := by omega
      by_cases e : l.getD j 0 = x
      · have HT : Hid (z = true) := Lib.hid (by rw [HZ.out]; exact contains_at (by rw [HI.out.len]; exact hlj) e)
        rw [e] at c1
        have qx : (x == x) = true := by simp
        clear e
        go_wp2
        go_ret
        exact ⟨congrArg (fun z => Ending.returned (Value.bool z)) HT.out.symm, rfl⟩
      · have HS := Lib.hid (notin_step (by rw [HI.out.len]; exact hlj) hE.out e)
        obtain ⟨y, hy⟩ : ∃ y, y = l.getD j 0 := ⟨_, rfl⟩
        rw [← hy] at c1 e
        have qx : (y == x) = false := by simpa using e
        clear e hy
        go_wp2
        go_round
        case rel => exact ⟨j + 1, by omega, by go_num, HS⟩
        case measure => simp [intOf]; omega
    · have HF : Hid (z = false) := Lib.hid (by
        rw [HZ.out]
        have := hE.out
        rw [List.take_of_length_le (by rw [HI.out.len]; omega)] at this
        simpa using this)
      have ilj : ¬ ((j : Int) < (n : Int)) := by omega
      go_wp2
      go_ret
      exact ⟨congrArg (fun z => Ending.returned (Value.bool z)) HF.out.symm, rfl⟩
set_option maxRecDepth 100000 in
theorem at_t (m : Int) (j : Nat) (hm : 0 ≤ m ∧ m ≤ 65535) (hj : j < 1000) (w : World) :
    Calls Try.prog 49 #[.int .i64 m, .int .i64 j] w fun e w' => e = .returned (.int .u64 (ptOf m j)) ∧ Below w.heap.size w w' := by
  have CH := Lib.hid (refHash (j : Int) ⟨0, m, 0, 0, 0⟩ w (by simp only; omega) (by simp only; omega))
  have HV : Hid (ptOf m j = hashF (j : Int) ⟨0, m, 0, 0, 0⟩) := Lib.hid rfl
  obtain ⟨h, hh⟩ : ∃ h, h = hashF (j : Int) ⟨0, m, 0, 0, 0⟩ := ⟨_, rfl⟩
  rw [← hh] at CH HV
  unfold Fl.val at CH
  clear hh
  have m0 := hm.1
  have m1 := hm.2
  have j0 : (0 : Int) ≤ (j : Int) := by omega
  go_enter Try.func49, Try.ntmps49
  go_wp2_with fail
  refine CH.out.mono ?_
  rintro e w1 ⟨rfl, hb⟩
  have HB := Lib.hid hb
  clear hb CH
  go_wp2
  go_ret
  exact ⟨by rw [HV.out]; rfl, HB.out⟩
/-- What a call leaves that answers a row of numbers. -/
def GotB (w : World) (l : List Int) (e : Ending) (w' : World) : Prop := ∃ a c, e = .returned (.slice a l.length c) ∧ w'.ownsRow w.heap.size 3 1 (.slice a l.length c) l.length (i64s l) ∧ Below w.heap.size w w'
/-- A row of numbers that grows. -/
structure Gro (B : Nat) (w0 w : World) (l : List Int) (a : Option Addr) (k c : Nat) : Prop where
  own : w.ownsRow B 3 1 (.slice a k c) k (i64s l)
  bel : Below B w0 w
theorem Gro.len {B : Nat} {w0 w : World} {l : List Int} {a : Option Addr} {k c : Nat} (h : Gro B w0 w l a k c) : l.length = k := by have := h.own.1; unfold i64s at this; simpa using this
theorem Gro.nil (w : World) (B : Nat) : Gro B w w [] none 0 0 := ⟨World.ownsRow_nil _ _ _ _, Below.refl _ _⟩
theorem Gro.more {B : Nat} {w0 w w8 : World} {l : List Int} {a : Option Addr} {k c g8 c8 : Nat} {x : Int} (h : Gro B w0 w l a k c) (hB : B ≤ w.heap.size) (o : Obj)
    (hown : w8.ownsRow B 3 1 (.slice (some ⟨g8, 0, none⟩) (k + 1) c8) (k + 1) (i64s l ++ [.int .i64 x])) (hg : (w.alloc o).grownBy w8 (Value.slice a k c).ownBlock) : Gro B w0 w8 (l ++ [x]) (some ⟨g8, 0, none⟩) (k + 1) c8 :=
  ⟨by unfold i64s at hown ⊢; rw [List.map_append]; exact hown, (h.bel.alloc hB o).grown hg (by simp; omega) (fun q hq => (h.own.lt q hq).1)⟩
theorem Gro.bels {B : Nat} {w0 w w' : World} {l : List Int} {a : Option Addr} {k c : Nat} (h : Gro B w0 w l a k c) (hB : B ≤ w.heap.size) (hb : Below w.heap.size w w') : Gro B w0 w' l a k c :=
  ⟨owns_bel h.own hb, h.bel.trans (hb.mono hB)⟩
theorem lessI_yes {l g : List Int} {j : Nat} (hj : j < l.length) (h : g.contains (l.getD j 0) = false) : lessI (l.take (j + 1)) g = lessI (l.take j) g ++ [l.getD j 0] := by
  rw [take_more l 0 hj]
  unfold lessI
  rw [List.filter_append]
  simp only [List.filter_cons, h, Bool.not_false, if_true, List.filter_nil]
theorem lessI_no {l g : List Int} {j : Nat} (hj : j < l.length) (h : g.contains (l.getD j 0) = true) : lessI (l.take (j + 1)) g = lessI (l.take j) g := by
  rw [take_more l 0 hj]
  unfold lessI
  rw [List.filter_append]
  simp only [List.filter_cons, h, Bool.not_true, Bool.false_eq_true, if_false, List.filter_nil, List.append_nil]
set_option maxRecDepth 100000 in
set_option maxHeartbeats 2000000 in
theorem refWithout_t (l g : List Int) (a : Option Addr) (n c : Nat) (b : Option Addr) (m d : Nat) (w : World) (hI : InI w a n c l) (hJ : InI w b m d g) (hn : n ≤ 1048576) (hm : m ≤ 4611686018427387904) :
    Calls Try.prog 21 #[.slice a n c, .slice b m d] w (GotB w (lessI l g)) := by
  obtain ⟨j0', hj0', hy0, hy1, hy2⟩ := info_parts info3
  have HI := Lib.hid hI
  have HJ := Lib.hid hJ
  have B0 : Hid (Gro w.heap.size w w (lessI (l.take 0) g) none 0 0) := Lib.hid (Gro.nil w _)
  clear hI hJ
  go_enter Try.func21, Try.ntmps21
  go_wp2
  go_loopw [5, 6] (fun v i wr => ∃ (j k : Nat) (a : Option Addr) (d : Nat), j ≤ n ∧ k ≤ j ∧ i = .int .i64 j ∧ v = .slice a k d ∧ Hid (Gro w.heap.size w wr (lessI (l.take j) g) a k d)) (fun _ i _ => n - (intOf i).toNat)
  case atStart => exact ⟨0, 0, none, 0, by omega, by omega, rfl, rfl, B0⟩
  case round =>
    obtain ⟨j, k, a2, d2, hj, hk, rfl, rfl, HB⟩ := hrel
    clear B0
    have hl := HI.out.len
    by_cases hlj : j < n
    · obtain ⟨b1, o1, rfl⟩ := in_blockI HI.out (by omega)
      have HIr := HI.out.below (HB.out.bel)
      have c1 := in_cellI HIr j hlj
      have CH := Lib.hid (has_t g b m d (l.getD j 0) wr (HJ.out.below HB.out.bel) hm _ rfl)
      have HY := Lib.hid (lessI_yes (g := g) (show j < l.length by omega))
      have HX := Lib.hid (lessI_no (g := g) (show j < l.length by omega))
      obtain ⟨x, hx⟩ : ∃ x, x = l.getD j 0 := ⟨_, rfl⟩
      rw [← hx] at c1 CH HY HX
      have ij : (j : Int) < (n : Int) := by omega
      have i0 : (0 : Int) ≤ (j : Int) := by omega
      have HS : Hid (w.heap.size ≤ wr.heap.size) := Lib.hid HB.out.bel.size
      clear HIr hx
      obtain ⟨z, hz⟩ : ∃ z, z = g.contains x := ⟨_, rfl⟩
      rw [← hz] at CH HY HX
      clear hz
      cases z with
      | true =>
        have HN : Hid (Gro w.heap.size w wr (lessI (l.take (j + 1)) g) a2 k d2) := Lib.hid (by rw [HX.out rfl]; exact HB.out)
        clear HY HX
        go_wp2_with fail
        refine CH.out.mono ?_
        rintro e w1 ⟨rfl, rfl⟩
        clear CH
        go_wp2
        go_roundw
        case rel => exact ⟨j + 1, k, _, _, by omega, by omega, by go_num, rfl, HN⟩
        case measure => simp [intOf]; omega
      | false =>
        have HS2 := Lib.hid (HY.out rfl)
        clear HY HX
        go_wp2_with fail
        refine CH.out.mono ?_
        rintro e w1 ⟨rfl, rfl⟩
        clear CH
        go_wp2_with (at_builtin; refine wpList_append_lies _ rfl (.tmp 20) (.tmp 25) 22 rfl w.heap.size 3 j0' (.int .i64 0) 1 8 Try.underlying22 hj0' hy0 hy1 hy2 rfl (by decide) _ k (i64s (lessI (l.take j) g)) rfl (HB.out.own.alloc _) ⟨wr.heap.size, 0, none⟩ 1 1 [.int .i64 x] rfl rfl (cell_one_new wr _ _) ?c1 (by decide) ?c2 ?c3 ?c4 _ rfl ?_)
        case c1 => first | rfl | (intro u hu; simp at hu; subst hu; rfl)
        case c2 => unfold maxLen; omega
        case c3 => omega
        case c4 => have := HS.out; simp; omega
        intro g8 c8 w8 hown hg hlie hlt
        have HN : Hid (Gro w.heap.size w w8 (lessI (l.take (j + 1)) g) (some ⟨g8, 0, none⟩) (k + 1) c8) := Lib.hid (by rw [HS2.out]; exact HB.out.more HS.out _ hown hg)
        clear hown hg hlie hlt HB
        go_wp2
        go_roundw
        case rel => exact ⟨j + 1, k + 1, _, _, by omega, by omega, by go_num, rfl, HN⟩
        case measure => simp [intOf]; omega
    · have ij : ¬ (j : Int) < (n : Int) := by omega
      have hE := HB.out
      rw [List.take_of_length_le (by omega)] at hE
      have hk2 := hE.len
      have HE : Hid (GotB w (lessI l g) (.returned (.slice a2 k d2)) wr) := Lib.hid (by
        subst hk2
        exact ⟨_, _, rfl, hE.own, hE.bel⟩)
      clear hE hk2 HB
      go_wp2
      go_ret
      exact HE.out
end Go.Proofs.Ytkacbeighaccjaa
