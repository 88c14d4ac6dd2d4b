/- The document's fabric: Between. Conditions: those stated. -/
import Derived.Test.YtkiccdgfhahdlaaRfT
import Derived.Test.YtkiccdgfhahdlaaRowI
import Derived.LoopTactic
namespace Go.Proofs.Ytkiccdgfhahdlaa
open Go Go.RowKit
set_option linter.unusedVariables false
set_option linter.unusedSimpArgs false

theorem infoN : (Try.prog.info? 3).map (fun i => (i.zero, i.size, i.bytes)) = some (some (.int .i64 0), 1, 8) := by kernel_rfl
theorem btw_app (ls ms : List Lt) (frm dst : Int) : btw (ls ++ ms) frm dst = btw ls frm dst ++ btw ms frm dst := by
  unfold btw
  rw [List.filter_append, List.map_append]
theorem btw_len (ls : List Lt) (frm dst : Int) : (btw ls frm dst).length ≤ ls.length := by
  unfold btw
  rw [List.length_map]
  exact List.length_filter_le _ _
theorem btw_yes {ls : List Lt} {j : Nat} (hj : j < ls.length) {frm dst : Int} (h : (ls.getD j lt0).frm = frm ∧ (ls.getD j lt0).dst = dst) : btw (ls.take (j + 1)) frm dst = btw (ls.take j) frm dst ++ [(ls.getD j lt0).id] := by
  rw [List.take_succ_eq_append_getElem hj, btw_app]
  have e : ls.getD j lt0 = ls[j] := by rw [List.getD_eq_getElem?_getD, List.getElem?_eq_getElem hj]; rfl
  rw [e] at h ⊢
  simp [btw, h]
theorem btw_no {ls : List Lt} {j : Nat} (hj : j < ls.length) {frm dst : Int} (h : ¬ ((ls.getD j lt0).frm = frm ∧ (ls.getD j lt0).dst = dst)) : btw (ls.take (j + 1)) frm dst = btw (ls.take j) frm dst := by
  rw [List.take_succ_eq_append_getElem hj, btw_app]
  have e : ls.getD j lt0 = ls[j] := by rw [List.getD_eq_getElem?_getD, List.getElem?_eq_getElem hj]; rfl
  rw [e] at h
  have : btw [ls[j]] frm dst = [] := by simp [btw, h]
  rw [this, List.append_nil]
/-- What a call leaves that answers a row of numbers. -/
def GotB (w : World) (l : List Int) (e : Ending) (w' : World) : Prop := ∃ a c, e = .returned (.slice a l.length c) ∧ w'.ownsRow w.heap.size 3 1 (.slice a l.length c) l.length (i64s l) ∧ Below w.heap.size w w'
/-- Behind j letters of Between. -/
structure BtI (w0 w : World) (ls : List Lt) (frm dst : Int) (j k : Nat) (a : Option Addr) (c : Nat) : Prop where
  own : w.ownsRow w0.heap.size 3 1 (.slice a k c) k (i64s (btw (ls.take j) frm dst))
  bel : Below w0.heap.size w0 w
set_option maxRecDepth 100000 in
set_option maxHeartbeats 2000000 in
theorem refBetween_t (B m last : Nat) (F : Nat → Prop) (ls : List Lt) (frm dst : Int) (w : World) (hL : LSt w B F m ls last) (h4 : ls.length ≤ 4096) :
    Calls Try.prog 27 #[.pointer (some ⟨m, 0, none⟩), .int .i64 frm, .int .i64 dst] w (GotB w (btw ls frm dst)) := by
  obtain ⟨j0', hj0', hy0, hy1, hy2⟩ := info_parts infoN
  obtain ⟨ao, n, c, vs, hM, hF⟩ := hL.here
  have hn := hM.len
  have HM := Lib.hid hM
  have HN := Lib.hid hn
  have B0 : Hid (BtI w w ls frm dst 0 0 none 0) := Lib.hid ⟨World.ownsRow_nil _ _ _ _, Below.refl _ _⟩
  have hn4 : n ≤ 4096 := by omega
  clear hL hM hF hn h4
  go_enter Try.func27, Try.ntmps27
  go_wp2
  go_loopw [7, 8] (fun v i wr => ∃ (j k : Nat) (a : Option Addr) (d : Nat), j ≤ n ∧ k ≤ j ∧ i = .int .i64 j ∧ v = .slice a k d ∧ Hid (BtI w wr ls frm dst j k a d)) (fun _ i _ => n - (intOf i).toNat)
  case atStart => exact ⟨0, 0, none, 0, by omega, by omega, rfl, rfl, B0⟩
  case round =>
    obtain ⟨j, k, a, d, hj, hk, rfl, rfl, HB⟩ := hrel
    clear B0
    have e0 := (HB.out.bel.cell (p := ⟨m, 0, none⟩) (HM.out.lt)).trans HM.out.c0
    by_cases hlj : j < n
    · obtain ⟨g, rfl, hc0⟩ := HM.out.cell (j := j) (i := 0) hlj (by omega)
      have hcl : ∀ i, i < 5 → wr.cell? ⟨g, j * 5 + i, none⟩ = ((ls.getD j lt0).cs (vs.getD j undef))[i]? := fun i hi => by
        obtain ⟨g2, e2, hc⟩ := HM.out.cell (j := j) (i := i) hlj hi
        cases e2
        have hs : ∃ u, ((ls.getD j lt0).cs (vs.getD j undef))[i]? = some u := ⟨_, List.getElem?_eq_getElem (by simp [Lt.cs]; omega)⟩
        obtain ⟨u, hu⟩ := hs
        rw [hu] at hc ⊢
        exact cell_later HB.out.bel hc
      have c0 : wr.cell? ⟨g, j * 5, none⟩ = some (.int .i64 (ls.getD j lt0).id) := hcl 0 (by omega)
      have c1 : wr.cell? ⟨g, j * 5 + 1, none⟩ = some (.int .i64 (ls.getD j lt0).frm) := hcl 1 (by omega)
      have c2 : wr.cell? ⟨g, j * 5 + 2, none⟩ = some (.int .i64 (ls.getD j lt0).dst) := hcl 2 (by omega)
      have HY := Lib.hid (btw_yes (frm := frm) (dst := dst) (show j < ls.length by have := HN.out; omega))
      have HX := Lib.hid (btw_no (frm := frm) (dst := dst) (show j < ls.length by have := HN.out; omega))
      obtain ⟨x, hx⟩ : ∃ x, x = (ls.getD j lt0).frm := ⟨_, rfl⟩
      obtain ⟨y, hy⟩ : ∃ y, y = (ls.getD j lt0).dst := ⟨_, rfl⟩
      obtain ⟨z, hz⟩ : ∃ z, z = (ls.getD j lt0).id := ⟨_, rfl⟩
      rw [← hz] at c0 HY
      rw [← hx] at c1 HY HX
      rw [← hy] at c2 HY HX
      have ij : (j : Int) < (n : Int) := by omega
      have i0 : (0 : Int) ≤ (j : Int) := by omega
      clear hc0 hcl hx hy hz
      by_cases hp : x = frm
      · subst hp
        by_cases hq : y = dst
        · subst hq
          have HS : Hid (btw (ls.take (j + 1)) x y = btw (ls.take j) x y ++ [z]) := Lib.hid (HY.out ⟨rfl, rfl⟩)
          have qx : (x == x) = true := by simp
          have qy : (y == y) = true := by simp
          clear HY HX
          go_wp2_with (at_builtin; refine wpList_append_lies _ rfl (.tmp 40) (.tmp 49) 54 rfl w.heap.size 3 j0' (.int .i64 0) 1 8 Try.underlying54 hj0' hy0 hy1 hy2 rfl (by decide) _ k (i64s (btw (ls.take j) x y)) rfl (HB.out.own.alloc _) ⟨wr.heap.size, 0, none⟩ 1 1 [.int .i64 z] rfl rfl (cell_one_new wr _ _) ?c1 (by decide) ?c2 ?c3 ?c4 _ rfl ?_)
          case c1 => first | rfl | (intro u hu; simp at hu; subst hu; rfl)
          case c2 => unfold maxLen; omega
          case c3 => omega
          case c4 => have := HB.out.bel.size; simp; omega
          intro g8 c8 w8 hown hg hlie hlt
          have HB9 : Hid (BtI w w8 ls x y (j + 1) (k + 1) (some ⟨g8, 0, none⟩) c8) := Lib.hid ⟨by
            rw [HS.out]
            unfold i64s at hown ⊢
            rw [List.map_append]
            exact hown, (bl_al HB.out.bel _).grown hg (by have := HB.out.bel.size; simp; omega) (fun q hq => (HB.out.own.lt q hq).1)⟩
          clear hown hg hlie hlt HB
          go_wp2
          go_roundw
          case rel => exact ⟨j + 1, k + 1, _, _, by omega, by omega, by go_num, rfl, HB9⟩
          case measure => simp [intOf]; omega
        · have HS := HX.out (fun h => hq h.2)
          have HB9 : Hid (BtI w wr ls x dst (j + 1) k a d) := Lib.hid ⟨by rw [HS]; exact HB.out.own, HB.out.bel⟩
          have qx : (x == x) = true := by simp
          have qy : (y == dst) = false := by rw [beq_eq_false_iff_ne]; exact hq
          clear HY HX HS HB
          go_wp2
          go_roundw
          case rel => exact ⟨j + 1, k, _, _, by omega, by omega, by go_num, rfl, HB9⟩
          case measure => simp [intOf]; omega
      · have HS := HX.out (fun h => hp h.1)
        have HB9 : Hid (BtI w wr ls frm dst (j + 1) k a d) := Lib.hid ⟨by rw [HS]; exact HB.out.own, HB.out.bel⟩
        have qx : (x == frm) = false := by rw [beq_eq_false_iff_ne]; exact hp
        clear HY HX HS HB
        go_wp2
        go_roundw
        case rel => exact ⟨j + 1, k, _, _, by omega, by omega, by go_num, rfl, HB9⟩
        case measure => simp [intOf]; omega
    · have ij : ¬ (j : Int) < (n : Int) := by omega
      have hown := HB.out.own
      rw [List.take_of_length_le (by have := HN.out; omega)] at hown
      have hk2 : k = (btw ls frm dst).length := by have := hown.1; unfold i64s at this; simpa using this.symm
      have HE : Hid (GotB w (btw ls frm dst) (.returned (.slice a k d)) wr) := Lib.hid (by
        subst hk2
        exact ⟨a, d, rfl, hown, HB.out.bel⟩)
      clear hown hk2 HB
      go_wp2
      go_ret
      exact HE.out
end Go.Proofs.Ytkiccdgfhahdlaa
