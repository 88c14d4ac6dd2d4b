/- Ints of like rows; the rows that Waiting answers are written over. No conditions but those stated. -/
import Derived.Test.YtkiccdgfhahdlaaPlA
import Derived.Deep.QuietTactic
import Derived.BigQuiet
namespace Go.Proofs.Ytkiccdgfhahdlaa
open Go Go.RowKit
set_option linter.unusedVariables false
set_option linter.unusedSimpArgs false

set_option maxRecDepth 100000 in
set_option maxHeartbeats 1000000 in
theorem ints_t (l : List Int) (a b : Option Addr) (n c d : Nat) (w : World) (hA : AtI w (.slice a n c) l) (hB : AtI w (.slice b n d) l) (hn : n = l.length) (h4 : n ≤ 1048576) :
    Calls Try.prog 25 #[.slice a n c, .slice b n d] w fun e w' => e = .returned (.bool true) ∧ Below w.heap.size w w' := by
  have HA := Lib.hid hA
  have HB := Lib.hid hB
  have HN := Lib.hid hn
  have B0 := Lib.hid (Below.refl w.heap.size w)
  clear hA hB hn
  go_enter Try.func25, Try.ntmps25
  go_wp2
  go_loopw [5, 13] (fun v i wr => ∃ j : Nat, j ≤ n ∧ i = .int .i64 j ∧ Hid (Below w.heap.size w wr)) (fun _ i _ => n - (intOf i).toNat)
  case atStart => exact ⟨0, by omega, rfl, B0⟩
  case round =>
    obtain ⟨j, hj, rfl, HBl⟩ := hrel
    clear B0
    by_cases hlj : j < n
    · obtain ⟨a1, c1, e1, h1⟩ := HA.out
      obtain ⟨a2, c2, e2, h2⟩ := HB.out
      have f1 : a = a1 := by cases e1; rfl
      have f2 : b = a2 := by cases e2; rfl
      rcases h1 with h0 | ⟨g, off, rfl, hc⟩
      · have := HN.out; rw [h0] at this; simp at this; omega
      rcases h2 with h0 | ⟨g', off', rfl, hc'⟩
      · have := HN.out; rw [h0] at this; simp at this; omega
      have p1 := cell_later HBl.out (hc j (by have := HN.out; omega))
      have p2 := cell_later HBl.out (hc' j (by have := HN.out; omega))
      obtain ⟨x, hx⟩ : ∃ x, x = l.getD j 0 := ⟨_, rfl⟩
      rw [← hx] at p1 p2
      subst f1 f2
      have ij : (j : Int) < (n : Int) := by omega
      have i0 : (0 : Int) ≤ (j : Int) := by omega
      have dj : decide ((j : Int) < (n : Int)) = true := decide_eq_true ij
      have qx : (x != x) = false := by simp
      clear e1 e2 hc hc' hx
      go_wp2
      go_quiet (fail)
      go_wp2
      go_roundw
      case rel => exact ⟨j + 1, by omega, by go_num, Lib.hid (below_drewN HBl.out _)⟩
      case measure => simp [intOf]; omega
    · have ij : ¬ (j : Int) < (n : Int) := by omega
      go_wp2
      go_ret
      exact ⟨rfl, HBl.out⟩
/-- Behind q rows of Waiting's answer written over. -/
structure WtI (w0 w : World) (ao : Option Addr) (n c : Nat) (ls : List Lt) (vs : List Value) (q : Nat) : Prop where
  row : w.ownsRow w0.heap.size tyL 5 (.slice ao n c) n (cellsL ls vs)
  rest : Rws w w0.heap.size (vs.drop q) ((ls.drop q).map (·.bs))
  tch : Below w0.heap.size w0 w
theorem WtI.step {w0 w w' : World} {ao : Option Addr} {n c : Nat} {ls : List Lt} {vs : List Value} {q : Nat} (h : WtI w0 w ao n c ls vs q) (hq : q < vs.length) (hl : vs.length = ls.length) (ha : vs.Pairwise Aprt) (ht : Tch (fun k => (vs.getD q undef).ownBlock = some k) w w') : WtI w0 w' ao n c ls vs (q + 1) := by
  have hr := h.rest
  have hd : vs.drop q = vs.getD q undef :: vs.drop (q + 1) := by
    rw [List.drop_eq_getElem_cons hq, List.getD_eq_getElem?_getD, List.getElem?_eq_getElem hq]
    rfl
  have hd2 : ls.drop q = ls.getD q lt0 :: ls.drop (q + 1) := by
    rw [List.drop_eq_getElem_cons (by omega), List.getD_eq_getElem?_getD, List.getElem?_eq_getElem (by omega)]
    rfl
  rw [hd, hd2, List.map_cons] at hr
  have hap : ∀ u ∈ vs.drop (q + 1), Aprt (vs.getD q undef) u := by
    have h1 : (vs.drop q).Pairwise Aprt := ha.sublist (List.drop_sublist _ _)
    rw [hd] at h1
    exact (List.pairwise_cons.1 h1).1
  refine ⟨ht.own h.row (fun k hk e => own_kinds h.row hr.1.1 (by decide) k hk e), hr.2.keep ht (fun u hu k hk e => hap u hu k e hk), h.tch.trans (ht.below (fun k hk => (hr.1.1.lt k hk).1) h.tch.size)⟩
end Go.Proofs.Ytkiccdgfhahdlaa
