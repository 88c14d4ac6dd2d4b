/- Rows of letters to be read; Same of like rows. Conditions: those stated. -/
import Derived.Test.YtkiccdgfhahdlaaLkA
namespace Go.Proofs.Ytkiccdgfhahdlaa
open Go Go.RowKit
set_option linter.unusedVariables false
set_option linter.unusedSimpArgs false

/-- A row of letters to be read. -/
structure LRd (w : World) (ao : Option Addr) (ls : List Lt) (vs : List Value) : Prop where
  here : ls.length = 0 ∨ ∃ g, ao = some ⟨g, 0, none⟩ ∧ ∀ j, j < ls.length → ∀ i, i < 5 → w.cell? ⟨g, j * 5 + i, none⟩ = ((ls.getD j lt0).cs (vs.getD j undef))[i]?
  rows : ∀ j, j < ls.length → ∃ a c, vs.getD j undef = .slice a (ls.getD j lt0).bs.length c ∧ At w (.slice a (ls.getD j lt0).bs.length c) (ls.getD j lt0).bs
theorem cs_some (l : Lt) (v : Value) {i : Nat} (hi : i < 5) : ∃ u, (l.cs v)[i]? = some u := ⟨_, List.getElem?_eq_getElem (by simp [Lt.cs]; omega)⟩
theorem LRd.below {w w' : World} {ao : Option Addr} {ls : List Lt} {vs : List Value} (h : LRd w ao ls vs) (hb : Below w.heap.size w w') : LRd w' ao ls vs :=
  ⟨h.here.imp id (fun ⟨g, e, hc⟩ => ⟨g, e, fun j hj i hi => by
    obtain ⟨u, hu⟩ := cs_some (ls.getD j lt0) (vs.getD j undef) hi
    have := hc j hj i hi
    rw [hu] at this ⊢
    exact cell_later hb this⟩), fun j hj => by
    obtain ⟨a, c, e, hA⟩ := h.rows j hj
    exact ⟨a, c, e, hA.below hb⟩⟩
/-- A row of letters of the call's own, to be read. -/
theorem lrd_own {w : World} {B B' n c : Nat} {ao : Option Addr} {ls : List Lt} {vs : List Value} (h : w.ownsRow B tyL 5 (.slice ao n c) n (cellsL ls vs)) (hr : Rws w B' vs (ls.map (·.bs))) : LRd w ao ls vs ∧ n = ls.length := by
  have hv : vs.length = ls.length := by have := hr.len; simpa using this
  have hl : n = ls.length := by have := h.1; rw [cellsL_len hv] at this; omega
  refine ⟨⟨?_, fun j hj => ?_⟩, hl⟩
  · rcases h.2 with ⟨e, h0⟩ | ⟨g, cap, cur, e, _, hg, h1, h2, h3, h4⟩
    · exact .inl (by omega)
    · cases e
      refine .inr ⟨g, rfl, fun j hj i hi => ?_⟩
      rw [← cellsL_at hv hj hi, ← h4, List.getElem?_take, if_pos (by omega), cell_of_row w g (j * 5 + i) _ _ _ hg, Array.getElem?_toList]
  · have := hr.at (j := j) (by simpa using hj)
    have e : (ls.map (·.bs)).getD j [] = (ls.getD j lt0).bs := by
      rw [List.getD_eq_getElem?_getD, List.getD_eq_getElem?_getD, List.getElem?_map, List.getElem?_eq_getElem hj]
      rfl
    rw [e] at this
    obtain ⟨a, c', ev⟩ := own_form this.1
    rw [ev] at this
    exact ⟨a, c', ev, (own_in this.1 rfl this.2).here⟩
set_option maxRecDepth 100000 in
set_option maxHeartbeats 4000000 in
theorem same_t (a b : Option Addr) (n c d : Nat) (ls : List Lt) (vs us : List Value) (w : World) (hA : LRd w a ls vs) (hB : LRd w b ls us) (hn : n = ls.length) (h4 : n ≤ 1048576) :
    Calls Try.prog 30 #[.slice a n c, .slice b n d] w fun e w' => e = .returned (.bool true) ∧ Below w.heap.size w w' := by
  have HA := Lib.hid hA
  have HB := Lib.hid hB
  have HN := Lib.hid hn
  have B0 := Lib.hid (Below.refl w.heap.size w)
  clear hA hB hn
  go_enter Try.func30, Try.ntmps30
  go_wp2
  go_loopw [5] (fun i wr => ∃ (j : Nat), j ≤ n ∧ i = .int .i64 j ∧ Hid (Below w.heap.size w wr)) (fun i _ => n - (intOf i).toNat)
  case atStart => exact ⟨0, by omega, rfl, B0⟩
  case round =>
    obtain ⟨j, hj, rfl, HBl⟩ := hrel
    clear B0
    by_cases hlj : j < n
    · have hAr := HA.out.below HBl.out
      have hBr := HB.out.below HBl.out
      have hjl : j < ls.length := by have := HN.out; omega
      rcases hAr.here with h0 | ⟨g, rfl, hc⟩
      · omega
      rcases hBr.here with h0 | ⟨g', rfl, hc'⟩
      · omega
      obtain ⟨a1, c1, e1, hA1⟩ := hAr.rows j hjl
      obtain ⟨a2, c2, e2, hA2⟩ := hBr.rows j hjl
      have hc := hc j hjl
      have hc' := hc' j hjl
      rw [e1] at hc
      rw [e2] at hc'
      obtain ⟨l, hl⟩ : ∃ l, l = ls.getD j lt0 := ⟨_, rfl⟩
      rw [← hl] at hc hc' hA1 hA2
      have CL := Lib.hid (fun U (hU : Below wr.heap.size wr U) => like_t l a1 a2 l.bs.length c1 l.bs.length c2 U (hA1.below hU) rfl (hA2.below hU) rfl)
      obtain ⟨id', frm, dst, ctl, bs⟩ := l
      unfold Lt.val at CL
      simp only at CL
      obtain ⟨nb, hnb⟩ : ∃ k, k = bs.length := ⟨_, rfl⟩
      simp only [← hnb] at CL hc hc'
      have p0 : wr.cell? ⟨g, j * 5, none⟩ = some (.int .i64 id') := hc 0 (by omega)
      have p1 : wr.cell? ⟨g, j * 5 + 1, none⟩ = some (.int .i64 frm) := hc 1 (by omega)
      have p2 : wr.cell? ⟨g, j * 5 + 2, none⟩ = some (.int .i64 dst) := hc 2 (by omega)
      have p3 : wr.cell? ⟨g, j * 5 + 3, none⟩ = some (.bool ctl) := hc 3 (by omega)
      have p4 : wr.cell? ⟨g, j * 5 + 4, none⟩ = some (.slice a1 nb c1) := hc 4 (by omega)
      have q0 : wr.cell? ⟨g', j * 5, none⟩ = some (.int .i64 id') := hc' 0 (by omega)
      have q1 : wr.cell? ⟨g', j * 5 + 1, none⟩ = some (.int .i64 frm) := hc' 1 (by omega)
      have q2 : wr.cell? ⟨g', j * 5 + 2, none⟩ = some (.int .i64 dst) := hc' 2 (by omega)
      have q3 : wr.cell? ⟨g', j * 5 + 3, none⟩ = some (.bool ctl) := hc' 3 (by omega)
      have q4 : wr.cell? ⟨g', j * 5 + 4, none⟩ = some (.slice a2 nb c2) := hc' 4 (by omega)
      have ij : (j : Int) < (n : Int) := by omega
      have i0 : (0 : Int) ≤ (j : Int) := by omega
      clear hAr hBr hc hc' e1 e2 hA1 hA2 hl hnb hjl
      go_upto_region 6 with fail
      have hS0 : wr.drew.cell? ⟨g, j * 5, none⟩ = some (.int .i64 id') ∧ wr.drew.cell? ⟨g, j * 5 + 1, none⟩ = some (.int .i64 frm) ∧ wr.drew.cell? ⟨g, j * 5 + 2, none⟩ = some (.int .i64 dst) ∧ wr.drew.cell? ⟨g, j * 5 + 3, none⟩ = some (.bool ctl) ∧ wr.drew.cell? ⟨g, j * 5 + 4, none⟩ = some (.slice a1 nb c1) ∧ wr.drew.cell? ⟨g', j * 5, none⟩ = some (.int .i64 id') ∧ wr.drew.cell? ⟨g', j * 5 + 1, none⟩ = some (.int .i64 frm) ∧ wr.drew.cell? ⟨g', j * 5 + 2, none⟩ = some (.int .i64 dst) ∧ wr.drew.cell? ⟨g', j * 5 + 3, none⟩ = some (.bool ctl) ∧ wr.drew.cell? ⟨g', j * 5 + 4, none⟩ = some (.slice a2 nb c2) := ⟨p0, p1, p2, p3, p4, q0, q1, q2, q3, q4⟩
      have hb0 : Below wr.heap.size wr wr.drew := (Below.refl _ _).drew
      go_region_held3 (fun wx => wx.cell? ⟨g, j * 5, none⟩ = some (.int .i64 id') ∧ wx.cell? ⟨g, j * 5 + 1, none⟩ = some (.int .i64 frm) ∧ wx.cell? ⟨g, j * 5 + 2, none⟩ = some (.int .i64 dst) ∧ wx.cell? ⟨g, j * 5 + 3, none⟩ = some (.bool ctl) ∧ wx.cell? ⟨g, j * 5 + 4, none⟩ = some (.slice a1 nb c1) ∧ wx.cell? ⟨g', j * 5, none⟩ = some (.int .i64 id') ∧ wx.cell? ⟨g', j * 5 + 1, none⟩ = some (.int .i64 frm) ∧ wx.cell? ⟨g', j * 5 + 2, none⟩ = some (.int .i64 dst) ∧ wx.cell? ⟨g', j * 5 + 3, none⟩ = some (.bool ctl) ∧ wx.cell? ⟨g', j * 5 + 4, none⟩ = some (.slice a2 nb c2)) (first | (with_reducible exact hS0) | (with_reducible exact hS5) | fail)
        (first | (go_at_call 20; (with_reducible refine (CL.out _ hb0).mono ?_); rintro e w5 ⟨rfl, ht5⟩; have f5 := fun (p : Addr) (v : Value) (h : wr.drew.cell? p = some v) => ht5.cell h (fun h => h); have hS5 := And.intro (f5 _ _ p0) (And.intro (f5 _ _ p1) (And.intro (f5 _ _ p2) (And.intro (f5 _ _ p3) (And.intro (f5 _ _ p4) (And.intro (f5 _ _ q0) (And.intro (f5 _ _ q1) (And.intro (f5 _ _ q2) (And.intro (f5 _ _ q3) (f5 _ _ q4))))))))); have hB5 := Lib.hid (HBl.out.trans ((hb0.trans (ht5.below (fun k hk => hk.elim) hb0.size)).mono HBl.out.size))) | fail)
      all_goals
        clear hS0 hS5 f5 ht5 hb0 CL p0 p1 p2 p3 p4 q0 q1 q2 q3 q4
        go_wp2
        go_roundw
        case rel => exact ⟨j + 1, by omega, by go_num, hB5⟩
        case measure => simp [intOf]; omega
    · have ij : ¬ (j : Int) < (n : Int) := by omega
      go_wp2
      go_ret
      exact ⟨rfl, HBl.out⟩
end Go.Proofs.Ytkiccdgfhahdlaa
