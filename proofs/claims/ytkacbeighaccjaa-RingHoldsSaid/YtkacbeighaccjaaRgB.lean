/- The document's Sorted. Conditions: the row came in. -/
import Derived.Test.YtkacbeighaccjaaRgA
namespace Go.Proofs.Ytkacbeighaccjaa
open Go Go.RowKit
set_option linter.unusedVariables false
set_option linter.unusedSimpArgs false

/-- How far the next list has come. -/
def nxI (S : List Int) (x : Int) (r j : Nat) : List Int := (putI x S).take (j + if r < j then 1 else 0)
structure Spl (S : List Int) (x : Int) (r : Nat) : Prop where
  le : r ≤ S.length
  lo : ∀ j, j < r → S.getD j 0 ≤ x
  hi : r < S.length → x < S.getD r 0
  one : ∀ j, j < r → (putI x S).getD j 0 = S.getD j 0
  here : (putI x S).getD r 0 = x
  two : ∀ j, r ≤ j → j < S.length → (putI x S).getD (j + 1) 0 = S.getD j 0
theorem spl_is (S : List Int) (x : Int) : ∃ r, Spl S x r := by
  obtain ⟨p, q, e1, e2, h3, h4⟩ := putI_split x S
  refine ⟨p.length, ?_, fun j hj => ?_, fun hr => ?_, fun j hj => ?_, ?_, fun j hj hl => ?_⟩
  · rw [e1, List.length_append]; omega
  · rw [e1, List.getD_eq_getElem?_getD, List.getElem?_append_left hj, List.getElem?_eq_getElem hj]
    exact h3 _ (List.getElem_mem hj)
  · rw [e1, List.length_append] at hr
    rw [e1, List.getD_eq_getElem?_getD, List.getElem?_append_right (Nat.le_refl _), Nat.sub_self]
    cases q with
    | nil => simp at hr
    | cons y q => exact h4 y rfl
  · rw [e2, e1, List.getD_eq_getElem?_getD, List.getD_eq_getElem?_getD, List.getElem?_append_left hj, List.getElem?_append_left hj]
  · rw [e2, List.getD_eq_getElem?_getD, List.getElem?_append_right (Nat.le_refl _), Nat.sub_self]
    rfl
  · rw [e2, e1, List.getD_eq_getElem?_getD, List.getD_eq_getElem?_getD, List.getElem?_append_right (by omega), List.getElem?_append_right hj, show j + 1 - p.length = (j - p.length) + 1 by omega, List.getElem?_cons_succ]
theorem putI_len (x : Int) (S : List Int) : (putI x S).length = S.length + 1 := (putI_perm x S).length_eq
section
variable {S : List Int} {x : Int} {r j : Nat}
theorem nx_a (h : Spl S x r) (hj : j < r) : nxI S x r (j + 1) = nxI S x r j ++ [S.getD j 0] := by
  unfold nxI
  rw [if_neg (by omega), if_neg (by omega)]
  simp only [Nat.add_zero]
  rw [take_more _ 0 (by rw [putI_len]; have := h.le; omega), h.one j hj]
theorem nx_b (h : Spl S x r) (hr : r < S.length) : nxI S x r (r + 1) = (nxI S x r r ++ [x]) ++ [S.getD r 0] := by
  unfold nxI
  rw [if_pos (by omega), if_neg (by omega)]
  simp only [Nat.add_zero]
  rw [take_more _ 0 (by rw [putI_len]; omega), h.two r (Nat.le_refl _) hr, take_more _ 0 (by rw [putI_len]; omega), h.here]
theorem nx_c (h : Spl S x r) (hj : r < j) (hl : j < S.length) : nxI S x r (j + 1) = nxI S x r j ++ [S.getD j 0] := by
  unfold nxI
  rw [if_pos (by omega), if_pos (by omega), take_more _ 0 (by rw [putI_len]; omega), h.two j (by omega) hl]
theorem nx_end (h : Spl S x r) (hr : r < S.length) : nxI S x r S.length = putI x S := by
  unfold nxI
  rw [if_pos hr, List.take_of_length_le (by rw [putI_len]; exact Nat.le_refl _)]
theorem nx_last (h : Spl S x r) (hr : ¬ r < S.length) : nxI S x r S.length ++ [x] = putI x S := by
  have e : r = S.length := by have := h.le; omega
  unfold nxI
  rw [if_neg hr, Nat.add_zero]
  have h2 := h.here
  rw [e] at h2
  have h3 := take_more (putI x S) 0 (k := S.length) (by rw [putI_len]; omega)
  rw [h2] at h3
  rw [← h3, List.take_of_length_le (by rw [putI_len]; exact Nat.le_refl _)]
end
theorem fitI_perm {l m : List Int} (h : l.Perm m) (hf : fitI m) : fitI l := fun x hx => hf x (h.mem_iff.1 hx)
theorem srtI_step {l : List Int} {i : Nat} (hi : i < l.length) : srtI (l.take (i + 1)) = putI (l.getD i 0) (srtI (l.take i)) := by rw [take_more l 0 hi, srtI_app]
theorem srtI_takelen {l : List Int} {i : Nat} (hi : i ≤ l.length) : (srtI (l.take i)).length = i := by rw [srtI_len, List.length_take]; omega
theorem below_drewN' {B : Nat} {w w' : World} (h : Below B w w') (n : Nat) : Below B w (w'.drewN n) := by
  induction n with
  | zero => exact h
  | succ n ih => exact ih.drew
set_option maxRecDepth 100000 in
set_option maxHeartbeats 4000000 in
theorem refSorted_t (l : List Int) (a : Option Addr) (n c : Nat) (w : World) (hI : InI w a n c l) (hn : n ≤ 1048576) :
    Calls Try.prog 19 #[.slice a n c] w (GotB w (srtI l)) := by
  obtain ⟨j0', hj0', hy0, hy1, hy2⟩ := info_parts info3
  have HI := Lib.hid hI
  have B0 : Hid (Gro w.heap.size w w (srtI (l.take 0)) none 0 0) := Lib.hid (Gro.nil w _)
  clear hI
  go_enter Try.func19, Try.ntmps19
  go_wp2
  go_loopw [3, 4] (fun v i wr => ∃ (j : Nat) (a : Option Addr) (d : Nat), j ≤ n ∧ i = .int .i64 j ∧ v = .slice a j d ∧ Hid (Gro w.heap.size w wr (srtI (l.take j)) a j d)) (fun _ i _ => n - (intOf i).toNat)
  case atStart => exact ⟨0, none, 0, by omega, rfl, rfl, B0⟩
  case round =>
    obtain ⟨i, a2, d2, hi, rfl, rfl, HB⟩ := hrel
    obtain ⟨w2, rfl⟩ : ∃ v, v = wr := ⟨_, rfl⟩
    clear B0
    have hl := HI.out.len
    by_cases hli : i < n
    · obtain ⟨b1, o1, rfl⟩ := in_blockI HI.out (by omega)
      have HIr := Lib.hid (HI.out.below HB.out.bel)
      have HSt := Lib.hid (srtI_step (l := l) (i := i) (by omega))
      have hSl := srtI_takelen (l := l) (i := i) (by omega)
      have hIS : InI w2 a2 i d2 (srtI (l.take i)) := own_inI HB.out.own hSl (fitI_perm (srtI_perm _) (fitI_take HI.out.fit i))
      obtain ⟨S, hS⟩ : ∃ S, S = srtI (l.take i) := ⟨_, rfl⟩
      rw [← hS] at HSt hSl hIS
      have HIS := Lib.hid hIS
      have hcx := in_cellI HI.out i hli
      obtain ⟨x, hx⟩ : ∃ x, x = l.getD i 0 := ⟨_, rfl⟩
      rw [← hx] at HSt
      obtain ⟨r, hr⟩ := spl_is S x
      have HR := Lib.hid hr
      have HX := Lib.hid hx
      have ij : (i : Int) < (n : Int) := by omega
      have i0 : (0 : Int) ≤ (i : Int) := by omega
      have HSL := Lib.hid hSl
      have N0 : Hid (Gro w2.heap.size w2 w2 (nxI S x r 0) none 0 0) := Lib.hid (by
        have : nxI S x r 0 = [] := by unfold nxI; rw [if_neg (by omega)]; simp
        rw [this]
        exact Gro.nil w2 _)
      have hN0 : decide (r < 0) = false := by simp
      clear hIS hS hcx hx hr hSl
      go_wp2
      go_loopw [5, 6, 7] (fun v b jv wr => ∃ (j k : Nat) (z : Bool) (a : Option Addr) (d : Nat), j ≤ i ∧ k ≤ j + 1 ∧ jv = .int .i64 j ∧ b = .bool z ∧ z = decide (r < j) ∧ v = .slice a k d ∧ Hid (Gro w2.heap.size w2 wr (nxI S x r j) a k d)) (fun _ _ jv _ => i - (intOf jv).toNat)
      case atStart => exact ⟨0, 0, false, none, 0, by omega, by omega, rfl, rfl, by simp, rfl, N0⟩
      case round =>
        obtain ⟨j, k, z, a3, d3, hj, hk, rfl, rfl, hz, rfl, HN⟩ := hrel
        clear N0 hN0
        have cx := in_cellI (HIr.out.below HN.out.bel) i hli
        rw [← HX.out] at cx
        have hsz := HN.out.bel.size
        by_cases hlj : j < i
        · obtain ⟨b2, o2, rfl⟩ := in_blockI HIS.out (by omega)
          have cs := in_cellI (HIS.out.below HN.out.bel) j hlj
          have jj : (j : Int) < (i : Int) := by omega
          have j0 : (0 : Int) ≤ (j : Int) := by omega
          rcases Nat.lt_trichotomy j r with hjr | hjr | hjr
          · -- ahead of the place
            have hzf : z = false := by rw [hz]; simp; omega
            have HE := Lib.hid (nx_a HR.out hjr)
            have hlo := HR.out.lo j hjr
            obtain ⟨y, hy⟩ : ∃ y, y = S.getD j 0 := ⟨_, rfl⟩
            rw [← hy] at cs HE hlo
            have nlt : ¬ x < y := by omega
            clear hlo
            have HD : Hid (false = decide (r < j + 1)) := Lib.hid (by simp; omega)
            subst hzf
            clear hy hz hjr
            go_wp2
            go_quiet (fail)
            rename_i nq
            have HG : Hid (Gro w2.heap.size w2 (wr.drewN nq) (nxI S x r j) a3 k d3) := Lib.hid (HN.out.bels HN.out.bel.size (below_drewN' (Below.refl _ _) nq))
            have cs2 := (below_drewN' (Below.refl wr.heap.size wr) nq).cell (p := ⟨b2, o2 + j, none⟩) (block_lt_of_cell cs) |>.trans cs
            obtain ⟨wq, hwq⟩ : ∃ v, v = wr.drewN nq := ⟨_, rfl⟩
            rw [← hwq] at HG cs2
            rw [← hwq]
            clear cs cx hwq
            go_wp2_with (at_builtin; refine wpList_append_lies _ rfl (.tmp 40) (.tmp 45) 22 rfl w2.heap.size 3 j0' (.int .i64 0) 1 8 Try.underlying22 hj0' hy0 hy1 hy2 rfl (by decide) _ k (i64s (nxI S x r j)) rfl (HG.out.own.alloc _) ⟨(wq).heap.size, 0, none⟩ 1 1 [.int .i64 y] rfl rfl (cell_one_new (wq) _ _) ?c1 (by decide) ?c2 ?c3 ?c4 _ rfl ?_)
            case c1 => first | rfl | (intro u hu; simp at hu; subst hu; rfl)
            case c2 => unfold maxLen; omega
            case c3 => omega
            case c4 => have := HG.out.bel.size; simp; omega
            intro g8 c8 w8 hown hg hlie hlt
            have HN9 : Hid (Gro w2.heap.size w2 w8 (nxI S x r (j + 1)) (some ⟨g8, 0, none⟩) (k + 1) c8) := Lib.hid (by rw [HE.out]; exact HG.out.more HG.out.bel.size _ hown hg)
            clear hown hg hlie hlt HG HN cs2
            go_wp2
            go_roundw
            case rel => exact ⟨j + 1, k + 1, false, _, _, by omega, by omega, by go_num, rfl, HD.out, rfl, HN9⟩
            case measure => simp [intOf]; omega
          · -- at the place
            subst hjr
            have hlt' : j < S.length := by have := HSL.out; omega
            have hzf : z = false := by rw [hz]; simp
            have HE := Lib.hid (nx_b HR.out hlt')
            have hhi := HR.out.hi hlt'
            have hkj : k ≤ j := by have := HN.out.len; unfold nxI at this; rw [List.length_take, if_neg (by omega)] at this; omega
            obtain ⟨y, hy⟩ : ∃ y, y = S.getD j 0 := ⟨_, rfl⟩
            rw [← hy] at cs HE hhi
            have HD : Hid (true = decide (j < j + 1)) := Lib.hid (by simp)
            subst hzf
            have HY := Lib.hid hy
            clear hy hz
            go_wp2
            go_quiet (fail)
            rename_i nq
            have HG : Hid (Gro w2.heap.size w2 (wr.drewN nq) (nxI S x j j) a3 k d3) := Lib.hid (HN.out.bels HN.out.bel.size (below_drewN' (Below.refl _ _) nq))
            have cs2 := (below_drewN' (Below.refl wr.heap.size wr) nq).cell (p := ⟨b2, o2 + j, none⟩) (block_lt_of_cell cs) |>.trans cs
            have cx2 := (below_drewN' (Below.refl wr.heap.size wr) nq).cell (p := ⟨b1, o1 + i, none⟩) (block_lt_of_cell cx) |>.trans cx
            have HIq := Lib.hid (HIS.out.below (HG.out.bel))
            obtain ⟨wq, hwq⟩ : ∃ v, v = wr.drewN nq := ⟨_, rfl⟩
            rw [← hwq] at HG cs2 cx2 HIq
            rw [← hwq]
            clear cs cx hwq
            go_wp2_with (at_builtin; refine wpList_append_lies _ rfl (.tmp 33) (.tmp 38) 22 rfl w2.heap.size 3 j0' (.int .i64 0) 1 8 Try.underlying22 hj0' hy0 hy1 hy2 rfl (by decide) _ k (i64s (nxI S x j j)) rfl (HG.out.own.alloc _) ⟨(wq).heap.size, 0, none⟩ 1 1 [.int .i64 x] rfl rfl (cell_one_new (wq) _ _) ?c1 (by decide) ?c2 ?c3 ?c4 _ rfl ?_)
            case c1 => first | rfl | (intro u hu; simp at hu; subst hu; rfl)
            case c2 => unfold maxLen; omega
            case c3 => omega
            case c4 => have := HG.out.bel.size; simp; omega
            intro g7 c7 w7 hown hg hlie hlt
            have HM : Hid (Gro w2.heap.size w2 w7 (nxI S x j j ++ [x]) (some ⟨g7, 0, none⟩) (k + 1) c7) := Lib.hid (HG.out.more HG.out.bel.size _ hown hg)
            have cs3 := in_cellI (HIS.out.below HM.out.bel) j hlj
            rw [← HY.out] at cs3
            clear hown hg hlie hlt HG HN cs2 cx2 HIq
            go_wp2_with (at_builtin; refine wpList_append_lies _ rfl (.tmp 40) (.tmp 45) 22 rfl w2.heap.size 3 j0' (.int .i64 0) 1 8 Try.underlying22 hj0' hy0 hy1 hy2 rfl (by decide) _ (k + 1) (i64s (nxI S x j j ++ [x])) rfl (HM.out.own.alloc _) ⟨(w7).heap.size, 0, none⟩ 1 1 [.int .i64 y] rfl rfl (cell_one_new (w7) _ _) ?c1 (by decide) ?c2 ?c3 ?c4 _ rfl ?_)
            case c1 => first | rfl | (intro u hu; simp at hu; subst hu; rfl)
            case c2 => unfold maxLen; omega
            case c3 => omega
            case c4 => have := HM.out.bel.size; simp; omega
            intro g8 c8 w8 hown hg hlie hlt
            have HN9 : Hid (Gro w2.heap.size w2 w8 (nxI S x j (j + 1)) (some ⟨g8, 0, none⟩) (k + 1 + 1) c8) := Lib.hid (by rw [HE.out]; exact HM.out.more HM.out.bel.size _ hown hg)
            clear hown hg hlie hlt HM cs3
            go_wp2
            go_roundw
            case rel => exact ⟨j + 1, k + 1 + 1, true, _, _, by omega, by omega, by go_num, rfl, HD.out, rfl, HN9⟩
            case measure => simp [intOf]; omega
          · -- behind it
            have hzt : z = true := by rw [hz]; simp; omega
            have HE := Lib.hid (nx_c HR.out hjr (by have := HSL.out; omega))
            obtain ⟨y, hy⟩ : ∃ y, y = S.getD j 0 := ⟨_, rfl⟩
            rw [← hy] at cs HE
            have HD : Hid (true = decide (r < j + 1)) := Lib.hid (by simp; omega)
            subst hzt
            clear hy hz hjr
            go_wp2
            go_quiet (fail)
            rename_i nq
            have HG : Hid (Gro w2.heap.size w2 (wr.drewN nq) (nxI S x r j) a3 k d3) := Lib.hid (HN.out.bels HN.out.bel.size (below_drewN' (Below.refl _ _) nq))
            have cs2 := (below_drewN' (Below.refl wr.heap.size wr) nq).cell (p := ⟨b2, o2 + j, none⟩) (block_lt_of_cell cs) |>.trans cs
            obtain ⟨wq, hwq⟩ : ∃ v, v = wr.drewN nq := ⟨_, rfl⟩
            rw [← hwq] at HG cs2
            rw [← hwq]
            clear cs cx hwq
            go_wp2_with (at_builtin; refine wpList_append_lies _ rfl (.tmp 40) (.tmp 45) 22 rfl w2.heap.size 3 j0' (.int .i64 0) 1 8 Try.underlying22 hj0' hy0 hy1 hy2 rfl (by decide) _ k (i64s (nxI S x r j)) rfl (HG.out.own.alloc _) ⟨(wq).heap.size, 0, none⟩ 1 1 [.int .i64 y] rfl rfl (cell_one_new (wq) _ _) ?c1 (by decide) ?c2 ?c3 ?c4 _ rfl ?_)
            case c1 => first | rfl | (intro u hu; simp at hu; subst hu; rfl)
            case c2 => unfold maxLen; omega
            case c3 => omega
            case c4 => have := HG.out.bel.size; simp; omega
            intro g8 c8 w8 hown hg hlie hlt
            have HN9 : Hid (Gro w2.heap.size w2 w8 (nxI S x r (j + 1)) (some ⟨g8, 0, none⟩) (k + 1) c8) := Lib.hid (by rw [HE.out]; exact HG.out.more HG.out.bel.size _ hown hg)
            clear hown hg hlie hlt HG HN cs2
            go_wp2
            go_roundw
            case rel => exact ⟨j + 1, k + 1, true, _, _, by omega, by omega, by go_num, rfl, HD.out, rfl, HN9⟩
            case measure => simp [intOf]; omega
        · -- the list's end
          have nj : ¬ (j : Int) < (i : Int) := by omega
          obtain rfl : j = i := by omega
          by_cases hri : r < j
          · have hzt : z = true := by rw [hz]; simp; omega
            have HG : Hid (Gro w.heap.size w wr (srtI (l.take (j + 1))) a3 k d3 ∧ k = j + 1) := Lib.hid (by
              have e := nx_end HR.out (by have := HSL.out; omega)
              have hN := HN.out
              rw [← HSL.out] at hN
              rw [e, ← HSt.out] at hN
              have hb : w.heap.size ≤ w2.heap.size := HB.out.bel.size
              exact ⟨⟨own_base hN.own hb, HB.out.bel.trans (hN.bel.mono hb)⟩, by have := hN.len; rw [srtI_len, List.length_take] at this; omega⟩)
            subst hzt
            have hk2 := HG.out.2
            subst hk2
            have HG2 := Lib.hid HG.out.1
            clear hz hri HN HG cx
            go_wp2
            go_roundw
            case rel => exact ⟨j + 1, _, _, by omega, by go_num, rfl, HG2⟩
            case measure => simp [intOf]; omega
          · have hzf : z = false := by rw [hz]; simp; omega
            have HL : Hid (nxI S x r j ++ [x] = srtI (l.take (j + 1))) := Lib.hid (by
              have e := nx_last HR.out (by have := HSL.out; omega)
              rw [HSL.out] at e
              rw [e, HSt.out])
            subst hzf
            clear hz hri
            go_wp2_with (at_builtin; refine wpList_append_lies _ rfl (.tmp 49) (.tmp 54) 22 rfl w2.heap.size 3 j0' (.int .i64 0) 1 8 Try.underlying22 hj0' hy0 hy1 hy2 rfl (by decide) _ k (i64s (nxI S x r j)) rfl (HN.out.own.alloc _) ⟨wr.heap.size, 0, none⟩ 1 1 [.int .i64 x] rfl rfl (cell_one_new wr _ _) ?c1 (by decide) ?c2 ?c3 ?c4 _ rfl ?_)
            case c1 => first | rfl | (intro u hu; simp at hu; subst hu; rfl)
            case c2 => unfold maxLen; omega
            case c3 => omega
            case c4 => have := HN.out.bel.size; simp; omega
            intro g8 c8 w8 hown hg hlie hlt
            have HG : Hid (Gro w.heap.size w w8 (srtI (l.take (j + 1))) (some ⟨g8, 0, none⟩) (k + 1) c8 ∧ k = j) := Lib.hid (by
              have hN := HN.out.more HN.out.bel.size _ hown hg
              rw [HL.out] at hN
              have hb : w.heap.size ≤ w2.heap.size := HB.out.bel.size
              exact ⟨⟨own_base hN.own hb, HB.out.bel.trans (hN.bel.mono hb)⟩, by have := hN.len; rw [srtI_len, List.length_take] at this; omega⟩)
            have hk2 := HG.out.2
            subst hk2
            have HG2 := Lib.hid HG.out.1
            clear hown hg hlie hlt HN HG cx
            go_wp2
            go_roundw
            case rel => exact ⟨k + 1, _, _, by omega, by go_num, rfl, HG2⟩
            case measure => simp [intOf]; omega
    · have ij : ¬ (i : Int) < (n : Int) := by omega
      obtain rfl : i = n := by omega
      have hE := HB.out
      rw [List.take_of_length_le (by omega)] at hE
      have HE : Hid (GotB w (srtI l) (.returned (.slice a2 i d2)) w2) := Lib.hid (by
        have e := hE.len
        rw [← e] at hE ⊢
        exact ⟨_, _, rfl, hE.own, hE.bel⟩)
      clear hE HB
      go_wp2
      go_ret
      exact HE.out
end Go.Proofs.Ytkacbeighaccjaa
