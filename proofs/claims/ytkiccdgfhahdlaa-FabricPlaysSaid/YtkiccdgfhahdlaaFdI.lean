/- Between. -/
import Derived.Test.YtkiccdgfhahdlaaFdH
namespace Go.Proofs.Ytkiccdgfhahdlaa
open Go Go.RowKit
set_option linter.unusedVariables false
set_option linter.unusedSimpArgs false

theorem rws_form {w : World} {B : Nat} : ∀ {vs : List Value} {ps : List (List Int)}, Rws w B vs ps → ∀ v ∈ vs, ∃ (l : List Value) (n : Nat), w.ownsRow B 5 1 v n l
  | [], _, _, v, hv => by simp at hv
  | u :: vs, [], h, v, hv => h.elim
  | u :: vs, p :: ps, h, v, hv => by
    rcases List.mem_cons.1 hv with rfl | hv
    · exact ⟨_, _, h.1.1⟩
    · exact rws_form h.2 v hv
set_option maxRecDepth 100000 in
set_option maxHeartbeats 2000000 in
theorem fbetween_c (B m last : Nat) (F : Nat → Prop) (ls : List Lt) (frm dst : Int) (w : World) (hL : FSt w B F m ls last) (h4 : ls.length ≤ 4096) :
    Calls Try.prog 26 #[.pointer (some ⟨m, 0, none⟩), .int .i64 frm, .int .i64 dst] w (GotB w (btw ls frm dst)) := by
  obtain ⟨j0', hj0', hy0, hy1, hy2⟩ := info_parts infoN
  obtain ⟨ao, n, c, vs, hM, hF⟩ := hL.here
  have hn := hM.len
  have HM := Lib.hid hM
  have HN := Lib.hid hn
  have B0 : Hid (BtI w w ls frm dst 0 0 none 0) := Lib.hid ⟨World.ownsRow_nil _ _ _ _, Below.refl _ _⟩
  have hn4 : n ≤ 4096 := by omega
  have CU := Lib.hid (fund_c m n c ao w hM.c0)
  clear hL hM hF hn h4
  go_enter Try.func26, Try.ntmps26
  go_wp2_with fail
  refine CU.out.mono ?_
  rintro e w1 ⟨rfl, rfl⟩
  clear CU
  go_wp2
  go_loopw [7, 13] (fun v i wr => ∃ (j k : Nat) (a : Option Addr) (d : Nat), j ≤ n ∧ k ≤ j ∧ i = .int .i64 j ∧ v = .slice a k d ∧ Hid (BtI w wr ls frm dst j k a d)) (fun _ i _ => n - (intOf i).toNat)
  case atStart => exact ⟨0, 0, none, 0, by omega, by omega, rfl, rfl, B0⟩
  case round =>
    obtain ⟨j, k, a, d, hj, hk, rfl, rfl, HB⟩ := hrel
    clear B0
    by_cases hlj : j < n
    · obtain ⟨g, rfl, hc0⟩ := HM.out.cell (j := j) (i := 0) hlj (by omega)
      have hcl : ∀ i, i < 5 → wr.cell? ⟨g, j * 5 + i, none⟩ = ((ls.getD j lt0).cs (vs.getD j undef))[i]? := fun i hi => by
        obtain ⟨g2, e2, hc⟩ := HM.out.cell (j := j) (i := i) hlj hi
        cases e2
        have hs : ∃ u, ((ls.getD j lt0).cs (vs.getD j undef))[i]? = some u := ⟨_, List.getElem?_eq_getElem (by simp [Lt.cs]; omega)⟩
        obtain ⟨u, hu⟩ := hs
        rw [hu] at hc ⊢
        exact cell_later HB.out.bel hc
      have c3 : wr.cell? ⟨g, j * 5 + 3, none⟩ = some (.bool (ls.getD j lt0).ctl) := hcl 3 (by omega)
      have c4 : wr.cell? ⟨g, j * 5 + 4, none⟩ = some (vs.getD j undef) := hcl 4 (by omega)
      have c0 : wr.cell? ⟨g, j * 5, none⟩ = some (.int .i64 (ls.getD j lt0).id) := hcl 0 (by omega)
      have c1 : wr.cell? ⟨g, j * 5 + 1, none⟩ = some (.int .i64 (ls.getD j lt0).frm) := hcl 1 (by omega)
      have c2 : wr.cell? ⟨g, j * 5 + 2, none⟩ = some (.int .i64 (ls.getD j lt0).dst) := hcl 2 (by omega)
      have HY := Lib.hid (btw_yes (frm := frm) (dst := dst) (show j < ls.length by have := HN.out; omega))
      have HX := Lib.hid (btw_no (frm := frm) (dst := dst) (show j < ls.length by have := HN.out; omega))
      obtain ⟨x, hx⟩ : ∃ x, x = (ls.getD j lt0).frm := ⟨_, rfl⟩
      obtain ⟨y, hy⟩ : ∃ y, y = (ls.getD j lt0).dst := ⟨_, rfl⟩
      obtain ⟨z, hz⟩ : ∃ z, z = (ls.getD j lt0).id := ⟨_, rfl⟩
      obtain ⟨t, ht⟩ : ∃ t, t = (ls.getD j lt0).ctl := ⟨_, rfl⟩
      obtain ⟨v, hv⟩ : ∃ v, v = vs.getD j undef := ⟨_, rfl⟩
      rw [← ht] at c3
      rw [← hv] at c4
      obtain ⟨av, nv, cv, rfl⟩ : ∃ av nv cv, v = .slice av nv cv := by
        have hmv : v ∈ vs := by
          rw [hv, List.getD_eq_getElem?_getD, List.getElem?_eq_getElem (by rw [HM.out.vlen]; have := HN.out; omega)]
          exact List.getElem_mem _
        obtain ⟨l, nl, hl⟩ := rws_form HM.out.rows v hmv
        obtain ⟨a, c, h⟩ := own_form hl
        exact ⟨a, _, c, h⟩
      obtain ⟨W1, hW1⟩ : ∃ W1, W1 = wr.alloc (.cells #[.int .i64 z, .int .i64 x, .int .i64 y, .bool t, .slice av nv cv] tyL) := ⟨_, rfl⟩
      have hx1 : Bx W1 wr.heap.size ⟨z, x, y, t, []⟩ (.slice av nv cv) := by rw [hW1]; exact Bx.new wr ⟨z, x, y, t, []⟩ _
      have HB1 : Hid (BtI w W1 ls frm dst j k a d) := Lib.hid ⟨by rw [hW1]; exact HB.out.own.alloc _, by rw [hW1]; exact bl_al HB.out.bel _⟩
      have hs1 : W1.heap.size = wr.heap.size + 1 := by rw [hW1]; simp
      have HS1 : Hid (w.heap.size ≤ W1.heap.size) := Lib.hid HB1.out.bel.size
      obtain ⟨b0, b1, b2, b3, b4⟩ := hx1.cell
      simp only at b0 b1 b2 b3
      have HW1 := Lib.hid hW1
      obtain ⟨p, hp⟩ : ∃ p, p = wr.heap.size := ⟨_, rfl⟩
      rw [← hp] at b0 b1 b2 b3 b4
      have HP := Lib.hid hp
      clear hs1 hx1 hW1 hp
      rw [← hz] at c0 HY
      rw [← hx] at c1 HY HX
      rw [← hy] at c2 HY HX
      have ij : (j : Int) < (n : Int) := by omega
      have i0 : (0 : Int) ≤ (j : Int) := by omega
      clear hc0 hcl hx hy hz ht hv HB
      go_upto_region 5 with fail
      rw [← HW1.out, ← HP.out]
      clear c0 c1 c2 c3 c4 HW1
      by_cases hp : x = frm
      · subst hp
        by_cases hq : y = dst
        · subst hq
          have HS : Hid (btw (ls.take (j + 1)) x y = btw (ls.take j) x y ++ [z]) := Lib.hid (HY.out ⟨rfl, rfl⟩)
          have qx : (x == x) = true := by simp
          have qy : (y == y) = true := by simp
          clear HY HX
          go_wp2_with (at_builtin; refine wpList_append_lies _ rfl (.tmp 27) (.tmp 30) 54 rfl w.heap.size 3 j0' (.int .i64 0) 1 8 Try.underlying54 hj0' hy0 hy1 hy2 rfl (by decide) _ k (i64s (btw (ls.take j) x y)) rfl (HB1.out.own.alloc _) ⟨W1.heap.size, 0, none⟩ 1 1 [.int .i64 z] rfl rfl (cell_one_new W1 _ _) ?c1 (by decide) ?c2 ?c3 ?c4 _ rfl ?_)
          case c1 => first | rfl | (intro u hu; simp at hu; subst hu; rfl)
          case c2 => unfold maxLen; omega
          case c3 => omega
          case c4 => have := HB1.out.bel.size; simp; omega
          intro g8 c8 w8 hown hg hlie hlt
          have HB9 : Hid (BtI w w8 ls x y (j + 1) (k + 1) (some ⟨g8, 0, none⟩) c8) := Lib.hid ⟨by
            rw [HS.out]
            unfold i64s at hown ⊢
            rw [List.map_append]
            exact hown, (bl_al HB1.out.bel _).grown hg (by have := HB1.out.bel.size; simp; omega) (fun q hq => (HB1.out.own.lt q hq).1)⟩
          clear hown hg hlie hlt HB1
          go_wp2
          go_roundw
          case rel => exact ⟨j + 1, k + 1, _, _, by omega, by omega, by go_num, rfl, HB9⟩
          case measure => simp [intOf]; omega
        · have HS := HX.out (fun h => hq h.2)
          have HB9 : Hid (BtI w W1 ls x dst (j + 1) k a d) := Lib.hid ⟨by rw [HS]; exact HB1.out.own, HB1.out.bel⟩
          have qx : (x == x) = true := by simp
          have qy : (y == dst) = false := by rw [beq_eq_false_iff_ne]; exact hq
          clear HY HX HS HB1
          go_wp2
          go_roundw
          case rel => exact ⟨j + 1, k, _, _, by omega, by omega, by go_num, rfl, HB9⟩
          case measure => simp [intOf]; omega
      · have HS := HX.out (fun h => hp h.1)
        have HB9 : Hid (BtI w W1 ls frm dst (j + 1) k a d) := Lib.hid ⟨by rw [HS]; exact HB1.out.own, HB1.out.bel⟩
        have qx : (x == frm) = false := by rw [beq_eq_false_iff_ne]; exact hp
        clear HY HX HS HB1
        go_wp2
        go_roundw
        case rel => exact ⟨j + 1, k, _, _, by omega, by omega, by go_num, rfl, HB9⟩
        case measure => simp [intOf]; omega
    · have ij : ¬ (j : Int) < (n : Int) := by omega
      have hown := HB.out.own
      rw [List.take_of_length_le (by have := HN.out; omega)] at hown
      have hk2 : k = (btw ls frm dst).length := by have := hown.1; unfold i64s at this; simpa using this.symm
      have HE : Hid (GotB w (btw ls frm dst) (.returned (.slice a k d)) wr) := Lib.hid (by
        subst hk2
        exact ⟨a, d, rfl, hown, HB.out.bel⟩)
      clear hown hk2 HB
      go_wp2
      go_ret
      exact HE.out
end Go.Proofs.Ytkiccdgfhahdlaa
