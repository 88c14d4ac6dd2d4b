/- The document's with. Conditions: the list came in and is in form. -/
import Derived.Test.YtanajblldlgalaaDoorRfC
namespace Go.Proofs.YtanajblldlgalaaDoor
open Go Go.RowKit
set_option linter.unusedVariables false
set_option linter.unusedSimpArgs false

/-- What 'with' has made behind the first i leases. -/
structure WIt (x : Ls) (l : List Ls) (i : Nat) (d : Bool) (m : List Ls) : Prop where
  is : m = (l.take i).filter (fun y => ltL y x) ++ (if d then x :: (l.take i).filter (fun y => ltL x y) else [])
  no : d = false → ∀ y ∈ l.take i, ltL y x = true
  yes : d = true → ∃ y ∈ l.take i, ltL y x = false
theorem WIt.start (x : Ls) (l : List Ls) : WIt x l 0 false [] := ⟨by simp, fun _ y h => by simp at h, (by intro h; cases h)⟩
theorem WIt.len {x : Ls} {l : List Ls} {i : Nat} {d : Bool} {m : List Ls} (h : WIt x l i d m) : m.length ≤ 2 * i + 1 := by
  rw [h.is, List.length_append]
  have h1 := List.length_filter_le (fun y => ltL y x) (l.take i)
  have h2 := List.length_filter_le (fun y => ltL x y) (l.take i)
  have h3 : (l.take i).length ≤ i := by rw [List.length_take]; omega
  split
  · rw [List.length_cons]; omega
  · rw [List.length_nil]; omega
theorem filt1 {p : Ls → Bool} {l : List Ls} {i : Nat} (hi : i < l.length) : (l.take (i + 1)).filter p = (l.take i).filter p ++ (if p (l.getD i ls0) then [l.getD i ls0] else []) := filt_more hi
theorem lt_asym {a b : Ls} (h : ltL a b = true) : ltL b a = false := by
  cases hz : ltL b a with
  | false => rfl
  | true =>
    have := ltL_tr h hz
    rw [ltL_irr] at this
    cases this
theorem same_no {a b : Ls} (h : ltL a b = true) : sameK a b = false := by
  rw [ltL_iff] at h
  unfold sameK
  exact decide_eq_false (by omega)
theorem same_no' {a b : Ls} (h : ltL b a = true) : sameK a b = false := by
  rw [ltL_iff] at h
  unfold sameK
  exact decide_eq_false (by omega)
theorem WIt.s1 {x : Ls} {l : List Ls} {i : Nat} {m : List Ls} (h : WIt x l i false m) (hi : i < l.length) (hy : ltL (l.getD i ls0) x = true) : WIt x l (i + 1) false (m ++ [l.getD i ls0]) := by
  refine ⟨?_, fun _ y hm => ?_, (by intro h; cases h)⟩
  · rw [filt1 hi, hy, h.is]
    simp
  · rw [take_moreL l hi, List.mem_append, List.mem_singleton] at hm
    rcases hm with hm | hm
    · exact h.no rfl y hm
    · rw [hm]; exact hy
theorem WIt.gts {x : Ls} {l : List Ls} {i : Nat} {m : List Ls} (h : WIt x l i false m) : (l.take i).filter (fun y => ltL x y) = [] := List.filter_eq_nil_iff.2 (fun y hy => by rw [lt_asym (h.no rfl y hy)]; exact Bool.false_ne_true)
theorem WIt.s2 {x : Ls} {l : List Ls} {i : Nat} {m : List Ls} (h : WIt x l i false m) (hi : i < l.length) (hy : ltL (l.getD i ls0) x = false) (hk : sameK (l.getD i ls0) x = true) : WIt x l (i + 1) true (m ++ [x]) := by
  have hg : ltL x (l.getD i ls0) = false := by
    cases hz : ltL x (l.getD i ls0) with
    | false => rfl
    | true =>
      rw [same_no' hz] at hk
      cases hk
  refine ⟨?_, (by intro h; cases h), fun _ => ⟨l.getD i ls0, by rw [take_moreL l hi]; simp, hy⟩⟩
  rw [filt1 hi, filt1 hi, hy, hg, h.gts, h.is]
  simp
theorem WIt.s3 {x : Ls} {l : List Ls} {i : Nat} {m : List Ls} (h : WIt x l i false m) (hi : i < l.length) (hy : ltL (l.getD i ls0) x = false) (hk : sameK (l.getD i ls0) x = false) : WIt x l (i + 1) true (m ++ [x] ++ [l.getD i ls0]) := by
  have hg : ltL x (l.getD i ls0) = true := by
    cases hz : ltL x (l.getD i ls0) with
    | true => rfl
    | false =>
      rw [sameK_iff.2 (ltL_or hy hz)] at hk
      cases hk
  refine ⟨?_, (by intro h; cases h), fun _ => ⟨l.getD i ls0, by rw [take_moreL l hi]; simp, hy⟩⟩
  rw [filt1 hi, filt1 hi, hy, hg, h.gts, h.is]
  simp
theorem WIt.gt {x : Ls} {l : List Ls} {i : Nat} {m : List Ls} (h : WIt x l i true m) (hi : i < l.length) (hs : l.Pairwise (fun a b => ltL a b = true)) : ltL x (l.getD i ls0) = true := by
  obtain ⟨y, hy, hn⟩ := h.yes rfl
  have h1 : (l.take (i + 1)).Pairwise (fun a b => ltL a b = true) := hs.sublist (List.take_sublist _ _)
  rw [take_moreL l hi, List.pairwise_append] at h1
  have h2 := h1.2.2 y hy (l.getD i ls0) (by simp)
  cases hz : ltL x (l.getD i ls0) with
  | true => rfl
  | false =>
    have h3 : ltL x y = true ∨ sameK y x = true := by
      cases hxy : ltL x y with
      | true => exact .inl rfl
      | false => exact .inr (sameK_iff.2 (ltL_or hn hxy))
    rcases h3 with h3 | h3
    · rw [ltL_tr h3 h2] at hz
      cases hz
    · have h4 := sameK_iff.1 h3
      rw [ltL_iff] at h2
      unfold ltL at hz
      rw [decide_eq_false_iff_not] at hz
      omega
theorem WIt.s4 {x : Ls} {l : List Ls} {i : Nat} {m : List Ls} (h : WIt x l i true m) (hi : i < l.length) (hs : l.Pairwise (fun a b => ltL a b = true)) : sameK (l.getD i ls0) x = false ∧ WIt x l (i + 1) true (m ++ [l.getD i ls0]) := by
  have hg := h.gt hi hs
  refine ⟨same_no' hg, ?_, (by intro h; cases h), fun _ => ?_⟩
  · rw [filt1 hi, filt1 hi, lt_asym hg, hg, h.is]
    simp
  · obtain ⟨y, hy, hn⟩ := h.yes rfl
    exact ⟨y, by rw [take_moreL l hi]; exact List.mem_append_left _ hy, hn⟩
theorem WIt.endF {x : Ls} {l m : List Ls} {n : Nat} (h : WIt x l n false m) (hn : l.length = n) : m ++ [x] = withL x l := by
  have h1 := h.is
  have h2 := h.gts
  rw [List.take_of_length_le (by omega)] at h1 h2
  unfold withL
  rw [h1, h2]
  simp
theorem WIt.endT {x : Ls} {l m : List Ls} {n : Nat} (h : WIt x l n true m) (hn : l.length = n) : m = withL x l := by
  have h1 := h.is
  rw [List.take_of_length_le (by omega)] at h1
  unfold withL
  rw [h1]
  simp
theorem keep8x {w W : World} {b o q o1 o2 o3 : Nat} {u0 u1 u2 u3 v0 v1 v2 v3 : Value} (h : (w.cell? ⟨b, o, none⟩ = some u0 ∧ w.cell? ⟨b, o + 1, none⟩ = some u1 ∧ w.cell? ⟨b, o + 2, none⟩ = some u2 ∧ w.cell? ⟨b, o + 3, none⟩ = some u3) ∧ w.cell? ⟨q, 0, none⟩ = some v0 ∧ w.cell? ⟨q, o1, none⟩ = some v1 ∧ w.cell? ⟨q, o2, none⟩ = some v2 ∧ w.cell? ⟨q, o3, none⟩ = some v3) (hb : Below w.heap.size w W) :
    (W.cell? ⟨b, o, none⟩ = some u0 ∧ W.cell? ⟨b, o + 1, none⟩ = some u1 ∧ W.cell? ⟨b, o + 2, none⟩ = some u2 ∧ W.cell? ⟨b, o + 3, none⟩ = some u3) ∧ W.cell? ⟨q, 0, none⟩ = some v0 ∧ W.cell? ⟨q, o1, none⟩ = some v1 ∧ W.cell? ⟨q, o2, none⟩ = some v2 ∧ W.cell? ⟨q, o3, none⟩ = some v3 := keep8' h hb
set_option maxRecDepth 100000 in
set_option maxHeartbeats 8000000 in
theorem refWith_c (x : Ls) (l : List Ls) (a : Option Addr) (n c : Nat) (w : World) (hI : InL w a n c l) (hn : n ≤ 1048576) (hs : l.Pairwise (fun a b => ltL a b = true)) :
    Calls Tryd.prog 36 #[.slice a n c, x.val] w fun e w' => (∃ v, e = .returned v ∧ PkL w.heap.size w' v (withL x l)) ∧ Below w.heap.size w w' := by
  obtain ⟨i0, hi0, hz0, hz1, hz2⟩ := info_parts infoL
  have hlen := hI.len
  obtain ⟨W, g, hW, hg, hA, hbW, hgW⟩ := boxed w x
  have HI := Lib.hid (hI.below hbW)
  have HBW := Lib.hid hbW
  have HA := Lib.hid hA
  have HGW := Lib.hid hgW
  have HS := Lib.hid hs
  have HW := Lib.hid (And.intro hW hg)
  have HLN := Lib.hid hlen
  have HCB := Lib.hid (fun y W => refless_c y x W)
  have S0 := Lib.hid (WIt.start x l)
  have P0 : Hid (PkL W.heap.size W (.slice none 0 0) []) := Lib.hid (pkL_nil _ _)
  obtain ⟨x0, x1, x2, x3⟩ := x
  clear hI hW hg hA hbW hgW hs
  go_enter Tryd.func36, Tryd.ntmps36
  go_upto_region 1 with fail
  rw [show w.alloc (.cells #[.int .u32 x0, .int .i64 x1, .int .u32 x2, .int .i64 x3] tyL) = W from HW.out.1.symm, ← HW.out.2]
  go_wp2
  go_loopw [5, 6, 7] (fun pv dv iv wr => ∃ (i : Nat) (v : Value) (d : Bool) (m : List Ls), v = pv ∧ dv = .bool d ∧ i ≤ n ∧ iv = .int .i64 i ∧ Hid (WIt ⟨x0, x1, x2, x3⟩ l i d m) ∧ Hid (PkL W.heap.size wr v m) ∧ Hid (Below W.heap.size W wr)) (fun _ _ iv _ => n - (intOf iv).toNat)
  case atStart => exact ⟨0, _, false, [], rfl, rfl, by omega, rfl, S0, P0, Lib.hid (Below.refl _ _)⟩
  case round =>
    obtain ⟨i, v, d, m, rfl, rfl, hi, rfl, HWI, HK, HBX⟩ := hrel
    obtain ⟨w2, rfl⟩ : ∃ v, v = wr := ⟨_, rfl⟩
    clear S0 P0
    have HL := Lib.hid HWI.out.len
    by_cases hlt : i < n
    · have ii : (i : Int) < (n : Int) := by omega
      have j0 : (0 : Int) ≤ (i : Int) := by omega
      have vi : ∀ [Inhabited Nat], IntKind.i64.wrap (i : Int) = (i : Int) := by intro _; exact IntWalk.i64_in _ (by omega)
      obtain ⟨b, off, rfl⟩ := HI.out.block (by omega)
      have hx := (HI.out.below HBX.out).cell hlt
      have hA2 := HA.out.below HBX.out HGW.out
      have HYX : Hid (∀ W', Below W.heap.size W W' → LsAt W' b (off + i * 4) (l.getD i ls0) ∧ LsAt W' g 0 ⟨x0, x1, x2, x3⟩) := Lib.hid (fun W' hb => ⟨(HI.out.below hb).cell hlt, HA.out.below hb HGW.out⟩)
      cases d with
      | false =>
        have H1 := Lib.hid (HWI.out.s1 (by omega))
        have H2 := Lib.hid (HWI.out.s2 (by omega))
        have H3 := Lib.hid (HWI.out.s3 (by omega))
        obtain ⟨y, ey⟩ : ∃ y, y = l.getD i ls0 := ⟨_, rfl⟩
        rw [← ey] at hx H1 H2 H3 HYX
        have CB := Lib.hid (HCB.out y)
        obtain ⟨z, hz⟩ : ∃ z, z = ltL y ⟨x0, x1, x2, x3⟩ := ⟨_, rfl⟩
        rw [← hz] at CB H1 H2 H3
        obtain ⟨y0, y1, y2, y3⟩ := y
        have hT0 : (w2.drew.cell? ⟨b, off + i * 4, none⟩ = some (.int .u32 y0) ∧ w2.drew.cell? ⟨b, off + i * 4 + 1, none⟩ = some (.int .i64 y1) ∧ w2.drew.cell? ⟨b, off + i * 4 + 2, none⟩ = some (.int .u32 y2) ∧ w2.drew.cell? ⟨b, off + i * 4 + 3, none⟩ = some (.int .i64 y3)) ∧ w2.drew.cell? ⟨g, 0, none⟩ = some (.int .u32 x0) ∧ w2.drew.cell? ⟨g, 0 + 1, none⟩ = some (.int .i64 x1) ∧ w2.drew.cell? ⟨g, 0 + 2, none⟩ = some (.int .u32 x2) ∧ w2.drew.cell? ⟨g, 0 + 3, none⟩ = some (.int .i64 x3) := ⟨hx, hA2⟩
        have HZ := Lib.hid hz
        clear hx hA2 ey hz
        cases z with
        | true =>
          have HWn := Lib.hid (H1.out rfl)
          have HNS : Hid (¬ (y0 = x0 ∧ y1 = x1)) := Lib.hid (by
            have := ltL_iff.1 HZ.out.symm
            simp only at this
            omega)
          clear H1 H2 H3
          go_upto_region 6 with fail
          refine wp_region_held_drew (S := (fun wx => (wx.cell? ⟨b, off + i * 4, none⟩ = some (.int .u32 y0) ∧ wx.cell? ⟨b, off + i * 4 + 1, none⟩ = some (.int .i64 y1) ∧ wx.cell? ⟨b, off + i * 4 + 2, none⟩ = some (.int .u32 y2) ∧ wx.cell? ⟨b, off + i * 4 + 3, none⟩ = some (.int .i64 y3)) ∧ wx.cell? ⟨g, 0, none⟩ = some (.int .u32 x0) ∧ wx.cell? ⟨g, 0 + 1, none⟩ = some (.int .i64 x1) ∧ wx.cell? ⟨g, 0 + 2, none⟩ = some (.int .u32 x2) ∧ wx.cell? ⟨g, 0 + 3, none⟩ = some (.int .i64 x3))) (by kernel_rfl) hT0 (fun hHeld => ?_)
          refine wpAnyH_take (i := 0) (v := ?_) rfl (by kernel_rfl) (by kernel_rfl) (by kernel_rfl) (fun _ _ _ h => h) (Or.inl ⟨by rfl, ?_⟩) (by assumption) ?_
          rotate_left
          · intro wz hSw; (try dsimp only at hSw); (try simp only [List.getElem_toArray, List.getElem_cons_zero, List.getElem_cons_succ]); go_simp; first | done | with_reducible rfl
          try simp only [Act.put, List.setIfInBounds_toArray, List.set_cons_zero, List.set_cons_succ, List.getElem_toArray, List.getElem_cons_zero, List.getElem_cons_succ]
          refine wpAnyH_take (i := 1) (v := ?_) rfl (by kernel_rfl) (by kernel_rfl) (by kernel_rfl) (fun _ _ _ h => h) (Or.inl ⟨by rfl, ?_⟩) (by assumption) ?_
          rotate_left
          · intro wz hSw; (try dsimp only at hSw); (try simp only [List.getElem_toArray, List.getElem_cons_zero, List.getElem_cons_succ]); go_simp; first | done | with_reducible rfl
          try simp only [Act.put, List.setIfInBounds_toArray, List.set_cons_zero, List.set_cons_succ, List.getElem_toArray, List.getElem_cons_zero, List.getElem_cons_succ]
          refine wpAnyH_take (i := 2) (v := ?_) rfl (by kernel_rfl) (by kernel_rfl) (by kernel_rfl) (fun _ _ _ h => h) (Or.inl ⟨by rfl, ?_⟩) (by assumption) ?_
          rotate_left
          · intro wz hSw; (try dsimp only at hSw); (try simp only [List.getElem_toArray, List.getElem_cons_zero, List.getElem_cons_succ]); go_simp; first | done | with_reducible rfl
          try simp only [Act.put, List.setIfInBounds_toArray, List.set_cons_zero, List.set_cons_succ, List.getElem_toArray, List.getElem_cons_zero, List.getElem_cons_succ]
          refine wpAnyH_take (i := 3) (v := ?_) rfl (by kernel_rfl) (by kernel_rfl) (by kernel_rfl) (fun _ _ _ h => h) (Or.inl ⟨by rfl, ?_⟩) (by assumption) ?_
          rotate_left
          · intro wz hSw; (try dsimp only at hSw); (try simp only [List.getElem_toArray, List.getElem_cons_zero, List.getElem_cons_succ]); go_simp; first | done | with_reducible rfl
          try simp only [Act.put, List.setIfInBounds_toArray, List.set_cons_zero, List.set_cons_succ, List.getElem_toArray, List.getElem_cons_zero, List.getElem_cons_succ]
          refine wpAnyH_take (i := 4) (v := ?_) rfl (by kernel_rfl) (by kernel_rfl) (by kernel_rfl) (fun _ _ _ h => h) (Or.inl ⟨by rfl, ?_⟩) (by assumption) ?_
          rotate_left
          · intro wz hSw; (try dsimp only at hSw); (try simp only [List.getElem_toArray, List.getElem_cons_zero, List.getElem_cons_succ]); go_simp; first | done | with_reducible rfl
          try simp only [Act.put, List.setIfInBounds_toArray, List.set_cons_zero, List.set_cons_succ, List.getElem_toArray, List.getElem_cons_zero, List.getElem_cons_succ]
          refine wpAnyH_take (i := 5) (v := ?_) rfl (by kernel_rfl) (by kernel_rfl) (by kernel_rfl) (fun _ _ _ h => h) (Or.inl ⟨by rfl, ?_⟩) (by assumption) ?_
          rotate_left
          · intro wz hSw; (try dsimp only at hSw); (try simp only [List.getElem_toArray, List.getElem_cons_zero, List.getElem_cons_succ]); go_simp; first | done | with_reducible rfl
          try simp only [Act.put, List.setIfInBounds_toArray, List.set_cons_zero, List.set_cons_succ, List.getElem_toArray, List.getElem_cons_zero, List.getElem_cons_succ]
          refine wpAnyH_take (i := 6) (v := ?_) rfl (by kernel_rfl) (by kernel_rfl) (by kernel_rfl) (fun _ _ _ h => h) (Or.inl ⟨by rfl, ?_⟩) (by assumption) ?_
          rotate_left
          · intro wz hSw; (try dsimp only at hSw); (try simp only [List.getElem_toArray, List.getElem_cons_zero, List.getElem_cons_succ]); go_simp; first | done | with_reducible rfl
          try simp only [Act.put, List.setIfInBounds_toArray, List.set_cons_zero, List.set_cons_succ, List.getElem_toArray, List.getElem_cons_zero, List.getElem_cons_succ]
          refine wpAnyH_take (i := 7) (v := ?_) rfl (by kernel_rfl) (by kernel_rfl) (by kernel_rfl) (fun _ _ _ h => h) (Or.inl ⟨by rfl, ?_⟩) (by assumption) ?_
          rotate_left
          · intro wz hSw; (try dsimp only at hSw); (try simp only [List.getElem_toArray, List.getElem_cons_zero, List.getElem_cons_succ]); go_simp; first | done | with_reducible rfl
          try simp only [Act.put, List.setIfInBounds_toArray, List.set_cons_zero, List.set_cons_succ, List.getElem_toArray, List.getElem_cons_zero, List.getElem_cons_succ]
          refine wpAnyH_ready (rs := [8]) (by kernel_rfl) (by simp) ?_
          refine AllReadyH.cons rfl (fun K hK => ?_) AllReadyH.nil
          try simp only [List.getElem_toArray, List.getElem_cons_zero, List.getElem_cons_succ]
          go_simp
          refine (CB.out _).mono ?_
          rintro e w3 ⟨rfl, hb⟩
          have HB3 := Lib.hid (bl_tr HBX.out.drew hb)
          have HK3 : Hid (PkL W.heap.size w3 v m) := Lib.hid (owns_bel (w := w2.drew) HK.out hb)
          have hT1 := keep8' hT0 hb
          go_wp2_with fail
          refine hK.out _ _ ?_ (fun hHeld1 => ?_)
          · exact hT1
          clear hK K hb
          try simp only [Act.put, List.setIfInBounds_toArray, List.set_cons_zero, List.set_cons_succ]
          refine wpAnyH_take (i := 9) (v := ?_) rfl (by kernel_rfl) (by kernel_rfl) (by kernel_rfl) (fun _ _ _ h => h) (Or.inl ⟨by rfl, ?_⟩) (by assumption) ?_
          rotate_left
          · intro wz hSw; (try dsimp only at hSw); (try simp only [List.getElem_toArray, List.getElem_cons_zero, List.getElem_cons_succ]); go_simp; first | done | with_reducible rfl
          try simp only [Act.put, List.setIfInBounds_toArray, List.set_cons_zero, List.set_cons_succ, List.getElem_toArray, List.getElem_cons_zero, List.getElem_cons_succ]
          refine wpAnyH_take (i := 10) (v := ?_) rfl (by kernel_rfl) (by kernel_rfl) (by kernel_rfl) (fun _ _ _ h => h) (Or.inl ⟨by rfl, ?_⟩) (by assumption) ?_
          rotate_left
          · intro wz hSw; (try dsimp only at hSw); (try simp only [List.getElem_toArray, List.getElem_cons_zero, List.getElem_cons_succ]); go_simp; first | done | with_reducible rfl
          try simp only [Act.put, List.setIfInBounds_toArray, List.set_cons_zero, List.set_cons_succ, List.getElem_toArray, List.getElem_cons_zero, List.getElem_cons_succ]
          refine wpAnyH_done (by kernel_rfl) ?_ _
          obtain ⟨⟨c0, c1, c2, c3⟩, a0, a1, a2, a3⟩ := hT1
          clear hT0
          by_cases qv : y0 = x0
          · have qw : ¬ y1 = x1 := fun e => HNS.out ⟨qv, e⟩
            have q0 : (y0 != x0) = false := by simpa using qv
            have q1 : (y1 != x1) = true := by simpa using qw
            clear qv qw
            go_wp2
            go_quiet (fail)
            have HBq := Lib.hid (below_drewNT HB3.out nq)
            obtain ⟨wq, hwq⟩ : ∃ wq, wq = w3.drewN nq := ⟨_, rfl⟩
            have HKq : Hid (PkL W.heap.size wq v (m)) := Lib.hid (by rw [hwq]; exact HK3.out)
            rw [← hwq] at HBq ⊢
            have HCq : Hid (wq.cell? ⟨b, off + i * 4, none⟩ = some (.int .u32 y0) ∧ wq.cell? ⟨b, off + i * 4 + 1, none⟩ = some (.int .i64 y1) ∧ wq.cell? ⟨b, off + i * 4 + 2, none⟩ = some (.int .u32 y2) ∧ wq.cell? ⟨b, off + i * 4 + 3, none⟩ = some (.int .i64 y3)) := Lib.hid (by rw [hwq]; exact ⟨c0, c1, c2, c3⟩)
            clear hwq c0 c1 c2 c3 a0 a1 a2 a3
            obtain ⟨c0, c1, c2, c3⟩ := HCq.out
            have HOwn1 : Hid ((wq.alloc (.cells #[.int .u32 y0, .int .i64 y1, .int .u32 y2, .int .i64 y3] tyL)).ownsRow W.heap.size tyL 4 v (m).length (cellsL (m))) := Lib.hid (HKq.out.alloc _)
            have hs1 := HBq.out.size
            have K1 := app_side wq W.heap.size ⟨y0, y1, y2, y3⟩ (m := (m).length) (by have := HL.out; omega) hs1
            go_wp2_with (at_builtin; refine append_any rfl _ _ 22 rfl W.heap.size tyL i0 (.agg #[.int .u32 0, .int .i64 0, .int .u32 0, .int .i64 0]) 4 32 Tryd.underlying22 hi0 hz0 hz1 hz2 rfl (by decide) _ _ _ rfl HOwn1.out (some ⟨wq.heap.size, 0, none⟩) 1 1 (Ls.cs ⟨y0, y1, y2, y3⟩) rfl K1.out.1 rfl K1.out.2.1 (cs_one _) K1.out.2.2.1 K1.out.2.2.2.1 K1.out.2.2.2.2 ?_)
            intro vz w6 ho hg
            have HBn1 := Lib.hid ((HBq.out.alloc hs1 (.cells #[.int .u32 y0, .int .i64 y1, .int .u32 y2, .int .i64 y3] tyL)).grown hg (by simp; omega) (fun k hk => own_blkL HOwn1.out hk))
            have HKn1 : Hid (PkL W.heap.size w6 vz (m ++ [⟨y0, y1, y2, y3⟩])) := Lib.hid (by
              unfold PkL
              rw [List.length_append, cellsL_app, cellsL_one]
              first | exact ho | (rw [List.length_append]; exact ho))
            clear ho hg HOwn1 K1 hs1
            go_wp2
            go_roundw
            case rel => exact ⟨i + 1, _, _, _, rfl, rfl, by omega, by go_num, HWn, HKn1, HBn1⟩
            case measure => simp [intOf]; omega
          · have q0 : (y0 != x0) = true := by simpa using qv
            clear qv
            go_wp2
            go_quiet (fail)
            have HBq := Lib.hid (below_drewNT HB3.out nq)
            obtain ⟨wq, hwq⟩ : ∃ wq, wq = w3.drewN nq := ⟨_, rfl⟩
            have HKq : Hid (PkL W.heap.size wq v (m)) := Lib.hid (by rw [hwq]; exact HK3.out)
            rw [← hwq] at HBq ⊢
            have HCq : Hid (wq.cell? ⟨b, off + i * 4, none⟩ = some (.int .u32 y0) ∧ wq.cell? ⟨b, off + i * 4 + 1, none⟩ = some (.int .i64 y1) ∧ wq.cell? ⟨b, off + i * 4 + 2, none⟩ = some (.int .u32 y2) ∧ wq.cell? ⟨b, off + i * 4 + 3, none⟩ = some (.int .i64 y3)) := Lib.hid (by rw [hwq]; exact ⟨c0, c1, c2, c3⟩)
            clear hwq c0 c1 c2 c3 a0 a1 a2 a3
            obtain ⟨c0, c1, c2, c3⟩ := HCq.out
            have HOwn1 : Hid ((wq.alloc (.cells #[.int .u32 y0, .int .i64 y1, .int .u32 y2, .int .i64 y3] tyL)).ownsRow W.heap.size tyL 4 v (m).length (cellsL (m))) := Lib.hid (HKq.out.alloc _)
            have hs1 := HBq.out.size
            have K1 := app_side wq W.heap.size ⟨y0, y1, y2, y3⟩ (m := (m).length) (by have := HL.out; omega) hs1
            go_wp2_with (at_builtin; refine append_any rfl _ _ 22 rfl W.heap.size tyL i0 (.agg #[.int .u32 0, .int .i64 0, .int .u32 0, .int .i64 0]) 4 32 Tryd.underlying22 hi0 hz0 hz1 hz2 rfl (by decide) _ _ _ rfl HOwn1.out (some ⟨wq.heap.size, 0, none⟩) 1 1 (Ls.cs ⟨y0, y1, y2, y3⟩) rfl K1.out.1 rfl K1.out.2.1 (cs_one _) K1.out.2.2.1 K1.out.2.2.2.1 K1.out.2.2.2.2 ?_)
            intro vz w6 ho hg
            have HBn1 := Lib.hid ((HBq.out.alloc hs1 (.cells #[.int .u32 y0, .int .i64 y1, .int .u32 y2, .int .i64 y3] tyL)).grown hg (by simp; omega) (fun k hk => own_blkL HOwn1.out hk))
            have HKn1 : Hid (PkL W.heap.size w6 vz (m ++ [⟨y0, y1, y2, y3⟩])) := Lib.hid (by
              unfold PkL
              rw [List.length_append, cellsL_app, cellsL_one]
              first | exact ho | (rw [List.length_append]; exact ho))
            clear ho hg HOwn1 K1 hs1
            go_wp2
            go_roundw
            case rel => exact ⟨i + 1, _, _, _, rfl, rfl, by omega, by go_num, HWn, HKn1, HBn1⟩
            case measure => simp [intOf]; omega
        | false =>
          by_cases hk : y0 = x0 ∧ y1 = x1
          · have HWn := Lib.hid (H2.out rfl (sameK_iff.2 hk))
            have q0 : (y0 != x0) = false := by simpa using hk.1
            have q1 : (y1 != x1) = false := by simpa using hk.2
            clear H1 H2 H3 hk
            go_upto_region 6 with fail
            refine wp_region_held_drew (S := (fun wx => (wx.cell? ⟨b, off + i * 4, none⟩ = some (.int .u32 y0) ∧ wx.cell? ⟨b, off + i * 4 + 1, none⟩ = some (.int .i64 y1) ∧ wx.cell? ⟨b, off + i * 4 + 2, none⟩ = some (.int .u32 y2) ∧ wx.cell? ⟨b, off + i * 4 + 3, none⟩ = some (.int .i64 y3)) ∧ wx.cell? ⟨g, 0, none⟩ = some (.int .u32 x0) ∧ wx.cell? ⟨g, 0 + 1, none⟩ = some (.int .i64 x1) ∧ wx.cell? ⟨g, 0 + 2, none⟩ = some (.int .u32 x2) ∧ wx.cell? ⟨g, 0 + 3, none⟩ = some (.int .i64 x3))) (by kernel_rfl) hT0 (fun hHeld => ?_)
            refine wpAnyH_take (i := 0) (v := ?_) rfl (by kernel_rfl) (by kernel_rfl) (by kernel_rfl) (fun _ _ _ h => h) (Or.inl ⟨by rfl, ?_⟩) (by assumption) ?_
            rotate_left
            · intro wz hSw; (try dsimp only at hSw); (try simp only [List.getElem_toArray, List.getElem_cons_zero, List.getElem_cons_succ]); go_simp; first | done | with_reducible rfl
            try simp only [Act.put, List.setIfInBounds_toArray, List.set_cons_zero, List.set_cons_succ, List.getElem_toArray, List.getElem_cons_zero, List.getElem_cons_succ]
            refine wpAnyH_take (i := 1) (v := ?_) rfl (by kernel_rfl) (by kernel_rfl) (by kernel_rfl) (fun _ _ _ h => h) (Or.inl ⟨by rfl, ?_⟩) (by assumption) ?_
            rotate_left
            · intro wz hSw; (try dsimp only at hSw); (try simp only [List.getElem_toArray, List.getElem_cons_zero, List.getElem_cons_succ]); go_simp; first | done | with_reducible rfl
            try simp only [Act.put, List.setIfInBounds_toArray, List.set_cons_zero, List.set_cons_succ, List.getElem_toArray, List.getElem_cons_zero, List.getElem_cons_succ]
            refine wpAnyH_take (i := 2) (v := ?_) rfl (by kernel_rfl) (by kernel_rfl) (by kernel_rfl) (fun _ _ _ h => h) (Or.inl ⟨by rfl, ?_⟩) (by assumption) ?_
            rotate_left
            · intro wz hSw; (try dsimp only at hSw); (try simp only [List.getElem_toArray, List.getElem_cons_zero, List.getElem_cons_succ]); go_simp; first | done | with_reducible rfl
            try simp only [Act.put, List.setIfInBounds_toArray, List.set_cons_zero, List.set_cons_succ, List.getElem_toArray, List.getElem_cons_zero, List.getElem_cons_succ]
            refine wpAnyH_take (i := 3) (v := ?_) rfl (by kernel_rfl) (by kernel_rfl) (by kernel_rfl) (fun _ _ _ h => h) (Or.inl ⟨by rfl, ?_⟩) (by assumption) ?_
            rotate_left
            · intro wz hSw; (try dsimp only at hSw); (try simp only [List.getElem_toArray, List.getElem_cons_zero, List.getElem_cons_succ]); go_simp; first | done | with_reducible rfl
            try simp only [Act.put, List.setIfInBounds_toArray, List.set_cons_zero, List.set_cons_succ, List.getElem_toArray, List.getElem_cons_zero, List.getElem_cons_succ]
            refine wpAnyH_take (i := 4) (v := ?_) rfl (by kernel_rfl) (by kernel_rfl) (by kernel_rfl) (fun _ _ _ h => h) (Or.inl ⟨by rfl, ?_⟩) (by assumption) ?_
            rotate_left
            · intro wz hSw; (try dsimp only at hSw); (try simp only [List.getElem_toArray, List.getElem_cons_zero, List.getElem_cons_succ]); go_simp; first | done | with_reducible rfl
            try simp only [Act.put, List.setIfInBounds_toArray, List.set_cons_zero, List.set_cons_succ, List.getElem_toArray, List.getElem_cons_zero, List.getElem_cons_succ]
            refine wpAnyH_take (i := 5) (v := ?_) rfl (by kernel_rfl) (by kernel_rfl) (by kernel_rfl) (fun _ _ _ h => h) (Or.inl ⟨by rfl, ?_⟩) (by assumption) ?_
            rotate_left
            · intro wz hSw; (try dsimp only at hSw); (try simp only [List.getElem_toArray, List.getElem_cons_zero, List.getElem_cons_succ]); go_simp; first | done | with_reducible rfl
            try simp only [Act.put, List.setIfInBounds_toArray, List.set_cons_zero, List.set_cons_succ, List.getElem_toArray, List.getElem_cons_zero, List.getElem_cons_succ]
            refine wpAnyH_take (i := 6) (v := ?_) rfl (by kernel_rfl) (by kernel_rfl) (by kernel_rfl) (fun _ _ _ h => h) (Or.inl ⟨by rfl, ?_⟩) (by assumption) ?_
            rotate_left
            · intro wz hSw; (try dsimp only at hSw); (try simp only [List.getElem_toArray, List.getElem_cons_zero, List.getElem_cons_succ]); go_simp; first | done | with_reducible rfl
            try simp only [Act.put, List.setIfInBounds_toArray, List.set_cons_zero, List.set_cons_succ, List.getElem_toArray, List.getElem_cons_zero, List.getElem_cons_succ]
            refine wpAnyH_take (i := 7) (v := ?_) rfl (by kernel_rfl) (by kernel_rfl) (by kernel_rfl) (fun _ _ _ h => h) (Or.inl ⟨by rfl, ?_⟩) (by assumption) ?_
            rotate_left
            · intro wz hSw; (try dsimp only at hSw); (try simp only [List.getElem_toArray, List.getElem_cons_zero, List.getElem_cons_succ]); go_simp; first | done | with_reducible rfl
            try simp only [Act.put, List.setIfInBounds_toArray, List.set_cons_zero, List.set_cons_succ, List.getElem_toArray, List.getElem_cons_zero, List.getElem_cons_succ]
            refine wpAnyH_ready (rs := [8]) (by kernel_rfl) (by simp) ?_
            refine AllReadyH.cons rfl (fun K hK => ?_) AllReadyH.nil
            try simp only [List.getElem_toArray, List.getElem_cons_zero, List.getElem_cons_succ]
            go_simp
            refine (CB.out _).mono ?_
            rintro e w3 ⟨rfl, hb⟩
            have HB3 := Lib.hid (bl_tr HBX.out.drew hb)
            have HK3 : Hid (PkL W.heap.size w3 v m) := Lib.hid (owns_bel (w := w2.drew) HK.out hb)
            have hT1 := keep8' hT0 hb
            go_wp2_with fail
            refine hK.out _ _ ?_ (fun hHeld1 => ?_)
            · exact hT1
            clear hK K hb
            try simp only [Act.put, List.setIfInBounds_toArray, List.set_cons_zero, List.set_cons_succ]
            refine wpAnyH_take (i := 9) (v := ?_) rfl (by kernel_rfl) (by kernel_rfl) (by kernel_rfl) (fun _ _ _ h => h) (Or.inl ⟨by rfl, ?_⟩) (by assumption) ?_
            rotate_left
            · intro wz hSw; (try dsimp only at hSw); (try simp only [List.getElem_toArray, List.getElem_cons_zero, List.getElem_cons_succ]); go_simp; first | done | with_reducible rfl
            try simp only [Act.put, List.setIfInBounds_toArray, List.set_cons_zero, List.set_cons_succ, List.getElem_toArray, List.getElem_cons_zero, List.getElem_cons_succ]
            refine wpAnyH_take (i := 10) (v := ?_) rfl (by kernel_rfl) (by kernel_rfl) (by kernel_rfl) (fun _ _ _ h => h) (Or.inl ⟨by rfl, ?_⟩) (by assumption) ?_
            rotate_left
            · intro wz hSw; (try dsimp only at hSw); (try simp only [List.getElem_toArray, List.getElem_cons_zero, List.getElem_cons_succ]); go_simp; first | done | with_reducible rfl
            try simp only [Act.put, List.setIfInBounds_toArray, List.set_cons_zero, List.set_cons_succ, List.getElem_toArray, List.getElem_cons_zero, List.getElem_cons_succ]
            refine wpAnyH_done (by kernel_rfl) ?_ _
            obtain ⟨⟨c0, c1, c2, c3⟩, a0, a1, a2, a3⟩ := hT1
            clear hT0
            have HOwn1 : Hid ((w3.alloc (.cells #[.int .u32 x0, .int .i64 x1, .int .u32 x2, .int .i64 x3] tyL)).ownsRow W.heap.size tyL 4 v (m).length (cellsL (m))) := Lib.hid (HK3.out.alloc _)
            have hs1 := HB3.out.size
            have K1 := app_side w3 W.heap.size ⟨x0, x1, x2, x3⟩ (m := (m).length) (by have := HL.out; omega) hs1
            go_wp2_with (at_builtin; refine append_any rfl _ _ 22 rfl W.heap.size tyL i0 (.agg #[.int .u32 0, .int .i64 0, .int .u32 0, .int .i64 0]) 4 32 Tryd.underlying22 hi0 hz0 hz1 hz2 rfl (by decide) _ _ _ rfl HOwn1.out (some ⟨w3.heap.size, 0, none⟩) 1 1 (Ls.cs ⟨x0, x1, x2, x3⟩) rfl K1.out.1 rfl K1.out.2.1 (cs_one _) K1.out.2.2.1 K1.out.2.2.2.1 K1.out.2.2.2.2 ?_)
            intro v2 w6 ho hg
            have HBn1 := Lib.hid ((HB3.out.alloc hs1 (.cells #[.int .u32 x0, .int .i64 x1, .int .u32 x2, .int .i64 x3] tyL)).grown hg (by simp; omega) (fun k hk => own_blkL HOwn1.out hk))
            have HKn1 : Hid (PkL W.heap.size w6 v2 (m ++ [⟨x0, x1, x2, x3⟩])) := Lib.hid (by
              unfold PkL
              rw [List.length_append, cellsL_app, cellsL_one]
              first | exact ho | (rw [List.length_append]; exact ho))
            clear ho hg HOwn1 K1 hs1
            have hT6 := HYX.out _ HBn1.out
            clear c0 c1 c2 c3 a0 a1 a2 a3
            obtain ⟨⟨c0, c1, c2, c3⟩, a0, a1, a2, a3⟩ := hT6
            go_wp2
            go_quiet (fail)
            have HBq := Lib.hid (below_drewNT HBn1.out nq)
            have HKq : Hid (PkL W.heap.size (w6.drewN nq) v2 (m ++ [⟨x0, x1, x2, x3⟩])) := Lib.hid HKn1.out
            go_wp2
            go_roundw
            case rel => exact ⟨i + 1, _, _, _, rfl, rfl, by omega, by go_num, HWn, HKq, HBq⟩
            case measure => simp [intOf]; omega
          · have HWn := Lib.hid (H3.out rfl (by unfold sameK; exact decide_eq_false hk))
            have HNS := Lib.hid hk
            clear H1 H2 H3 hk
            go_upto_region 6 with fail
            refine wp_region_held_drew (S := (fun wx => (wx.cell? ⟨b, off + i * 4, none⟩ = some (.int .u32 y0) ∧ wx.cell? ⟨b, off + i * 4 + 1, none⟩ = some (.int .i64 y1) ∧ wx.cell? ⟨b, off + i * 4 + 2, none⟩ = some (.int .u32 y2) ∧ wx.cell? ⟨b, off + i * 4 + 3, none⟩ = some (.int .i64 y3)) ∧ wx.cell? ⟨g, 0, none⟩ = some (.int .u32 x0) ∧ wx.cell? ⟨g, 0 + 1, none⟩ = some (.int .i64 x1) ∧ wx.cell? ⟨g, 0 + 2, none⟩ = some (.int .u32 x2) ∧ wx.cell? ⟨g, 0 + 3, none⟩ = some (.int .i64 x3))) (by kernel_rfl) hT0 (fun hHeld => ?_)
            refine wpAnyH_take (i := 0) (v := ?_) rfl (by kernel_rfl) (by kernel_rfl) (by kernel_rfl) (fun _ _ _ h => h) (Or.inl ⟨by rfl, ?_⟩) (by assumption) ?_
            rotate_left
            · intro wz hSw; (try dsimp only at hSw); (try simp only [List.getElem_toArray, List.getElem_cons_zero, List.getElem_cons_succ]); go_simp; first | done | with_reducible rfl
            try simp only [Act.put, List.setIfInBounds_toArray, List.set_cons_zero, List.set_cons_succ, List.getElem_toArray, List.getElem_cons_zero, List.getElem_cons_succ]
            refine wpAnyH_take (i := 1) (v := ?_) rfl (by kernel_rfl) (by kernel_rfl) (by kernel_rfl) (fun _ _ _ h => h) (Or.inl ⟨by rfl, ?_⟩) (by assumption) ?_
            rotate_left
            · intro wz hSw; (try dsimp only at hSw); (try simp only [List.getElem_toArray, List.getElem_cons_zero, List.getElem_cons_succ]); go_simp; first | done | with_reducible rfl
            try simp only [Act.put, List.setIfInBounds_toArray, List.set_cons_zero, List.set_cons_succ, List.getElem_toArray, List.getElem_cons_zero, List.getElem_cons_succ]
            refine wpAnyH_take (i := 2) (v := ?_) rfl (by kernel_rfl) (by kernel_rfl) (by kernel_rfl) (fun _ _ _ h => h) (Or.inl ⟨by rfl, ?_⟩) (by assumption) ?_
            rotate_left
            · intro wz hSw; (try dsimp only at hSw); (try simp only [List.getElem_toArray, List.getElem_cons_zero, List.getElem_cons_succ]); go_simp; first | done | with_reducible rfl
            try simp only [Act.put, List.setIfInBounds_toArray, List.set_cons_zero, List.set_cons_succ, List.getElem_toArray, List.getElem_cons_zero, List.getElem_cons_succ]
            refine wpAnyH_take (i := 3) (v := ?_) rfl (by kernel_rfl) (by kernel_rfl) (by kernel_rfl) (fun _ _ _ h => h) (Or.inl ⟨by rfl, ?_⟩) (by assumption) ?_
            rotate_left
            · intro wz hSw; (try dsimp only at hSw); (try simp only [List.getElem_toArray, List.getElem_cons_zero, List.getElem_cons_succ]); go_simp; first | done | with_reducible rfl
            try simp only [Act.put, List.setIfInBounds_toArray, List.set_cons_zero, List.set_cons_succ, List.getElem_toArray, List.getElem_cons_zero, List.getElem_cons_succ]
            refine wpAnyH_take (i := 4) (v := ?_) rfl (by kernel_rfl) (by kernel_rfl) (by kernel_rfl) (fun _ _ _ h => h) (Or.inl ⟨by rfl, ?_⟩) (by assumption) ?_
            rotate_left
            · intro wz hSw; (try dsimp only at hSw); (try simp only [List.getElem_toArray, List.getElem_cons_zero, List.getElem_cons_succ]); go_simp; first | done | with_reducible rfl
            try simp only [Act.put, List.setIfInBounds_toArray, List.set_cons_zero, List.set_cons_succ, List.getElem_toArray, List.getElem_cons_zero, List.getElem_cons_succ]
            refine wpAnyH_take (i := 5) (v := ?_) rfl (by kernel_rfl) (by kernel_rfl) (by kernel_rfl) (fun _ _ _ h => h) (Or.inl ⟨by rfl, ?_⟩) (by assumption) ?_
            rotate_left
            · intro wz hSw; (try dsimp only at hSw); (try simp only [List.getElem_toArray, List.getElem_cons_zero, List.getElem_cons_succ]); go_simp; first | done | with_reducible rfl
            try simp only [Act.put, List.setIfInBounds_toArray, List.set_cons_zero, List.set_cons_succ, List.getElem_toArray, List.getElem_cons_zero, List.getElem_cons_succ]
            refine wpAnyH_take (i := 6) (v := ?_) rfl (by kernel_rfl) (by kernel_rfl) (by kernel_rfl) (fun _ _ _ h => h) (Or.inl ⟨by rfl, ?_⟩) (by assumption) ?_
            rotate_left
            · intro wz hSw; (try dsimp only at hSw); (try simp only [List.getElem_toArray, List.getElem_cons_zero, List.getElem_cons_succ]); go_simp; first | done | with_reducible rfl
            try simp only [Act.put, List.setIfInBounds_toArray, List.set_cons_zero, List.set_cons_succ, List.getElem_toArray, List.getElem_cons_zero, List.getElem_cons_succ]
            refine wpAnyH_take (i := 7) (v := ?_) rfl (by kernel_rfl) (by kernel_rfl) (by kernel_rfl) (fun _ _ _ h => h) (Or.inl ⟨by rfl, ?_⟩) (by assumption) ?_
            rotate_left
            · intro wz hSw; (try dsimp only at hSw); (try simp only [List.getElem_toArray, List.getElem_cons_zero, List.getElem_cons_succ]); go_simp; first | done | with_reducible rfl
            try simp only [Act.put, List.setIfInBounds_toArray, List.set_cons_zero, List.set_cons_succ, List.getElem_toArray, List.getElem_cons_zero, List.getElem_cons_succ]
            refine wpAnyH_ready (rs := [8]) (by kernel_rfl) (by simp) ?_
            refine AllReadyH.cons rfl (fun K hK => ?_) AllReadyH.nil
            try simp only [List.getElem_toArray, List.getElem_cons_zero, List.getElem_cons_succ]
            go_simp
            refine (CB.out _).mono ?_
            rintro e w3 ⟨rfl, hb⟩
            have HB3 := Lib.hid (bl_tr HBX.out.drew hb)
            have HK3 : Hid (PkL W.heap.size w3 v m) := Lib.hid (owns_bel (w := w2.drew) HK.out hb)
            have hT1 := keep8' hT0 hb
            go_wp2_with fail
            refine hK.out _ _ ?_ (fun hHeld1 => ?_)
            · exact hT1
            clear hK K hb
            try simp only [Act.put, List.setIfInBounds_toArray, List.set_cons_zero, List.set_cons_succ]
            refine wpAnyH_take (i := 9) (v := ?_) rfl (by kernel_rfl) (by kernel_rfl) (by kernel_rfl) (fun _ _ _ h => h) (Or.inl ⟨by rfl, ?_⟩) (by assumption) ?_
            rotate_left
            · intro wz hSw; (try dsimp only at hSw); (try simp only [List.getElem_toArray, List.getElem_cons_zero, List.getElem_cons_succ]); go_simp; first | done | with_reducible rfl
            try simp only [Act.put, List.setIfInBounds_toArray, List.set_cons_zero, List.set_cons_succ, List.getElem_toArray, List.getElem_cons_zero, List.getElem_cons_succ]
            refine wpAnyH_take (i := 10) (v := ?_) rfl (by kernel_rfl) (by kernel_rfl) (by kernel_rfl) (fun _ _ _ h => h) (Or.inl ⟨by rfl, ?_⟩) (by assumption) ?_
            rotate_left
            · intro wz hSw; (try dsimp only at hSw); (try simp only [List.getElem_toArray, List.getElem_cons_zero, List.getElem_cons_succ]); go_simp; first | done | with_reducible rfl
            try simp only [Act.put, List.setIfInBounds_toArray, List.set_cons_zero, List.set_cons_succ, List.getElem_toArray, List.getElem_cons_zero, List.getElem_cons_succ]
            refine wpAnyH_done (by kernel_rfl) ?_ _
            obtain ⟨⟨c0, c1, c2, c3⟩, a0, a1, a2, a3⟩ := hT1
            clear hT0
            have HOwn1 : Hid ((w3.alloc (.cells #[.int .u32 x0, .int .i64 x1, .int .u32 x2, .int .i64 x3] tyL)).ownsRow W.heap.size tyL 4 v (m).length (cellsL (m))) := Lib.hid (HK3.out.alloc _)
            have hs1 := HB3.out.size
            have K1 := app_side w3 W.heap.size ⟨x0, x1, x2, x3⟩ (m := (m).length) (by have := HL.out; omega) hs1
            go_wp2_with (at_builtin; refine append_any rfl _ _ 22 rfl W.heap.size tyL i0 (.agg #[.int .u32 0, .int .i64 0, .int .u32 0, .int .i64 0]) 4 32 Tryd.underlying22 hi0 hz0 hz1 hz2 rfl (by decide) _ _ _ rfl HOwn1.out (some ⟨w3.heap.size, 0, none⟩) 1 1 (Ls.cs ⟨x0, x1, x2, x3⟩) rfl K1.out.1 rfl K1.out.2.1 (cs_one _) K1.out.2.2.1 K1.out.2.2.2.1 K1.out.2.2.2.2 ?_)
            intro v2 w6 ho hg
            have HBn1 := Lib.hid ((HB3.out.alloc hs1 (.cells #[.int .u32 x0, .int .i64 x1, .int .u32 x2, .int .i64 x3] tyL)).grown hg (by simp; omega) (fun k hk => own_blkL HOwn1.out hk))
            have HKn1 : Hid (PkL W.heap.size w6 v2 (m ++ [⟨x0, x1, x2, x3⟩])) := Lib.hid (by
              unfold PkL
              rw [List.length_append, cellsL_app, cellsL_one]
              first | exact ho | (rw [List.length_append]; exact ho))
            clear ho hg HOwn1 K1 hs1
            have hT6 := HYX.out _ HBn1.out
            clear c0 c1 c2 c3 a0 a1 a2 a3
            obtain ⟨⟨c0, c1, c2, c3⟩, a0, a1, a2, a3⟩ := hT6
            by_cases qv : y0 = x0
            · have qw : ¬ y1 = x1 := fun e => HNS.out ⟨qv, e⟩
              have q0 : (y0 != x0) = false := by simpa using qv
              have q1 : (y1 != x1) = true := by simpa using qw
              clear qv qw
              go_wp2
              go_quiet (fail)
              have HBq := Lib.hid (below_drewNT HBn1.out nq)
              obtain ⟨wq, hwq⟩ : ∃ wq, wq = w6.drewN nq := ⟨_, rfl⟩
              have HKq : Hid (PkL W.heap.size wq v2 (m ++ [(⟨x0, x1, x2, x3⟩ : Ls)])) := Lib.hid (by rw [hwq]; exact HKn1.out)
              rw [← hwq] at HBq ⊢
              have HCq : Hid (wq.cell? ⟨b, off + i * 4, none⟩ = some (.int .u32 y0) ∧ wq.cell? ⟨b, off + i * 4 + 1, none⟩ = some (.int .i64 y1) ∧ wq.cell? ⟨b, off + i * 4 + 2, none⟩ = some (.int .u32 y2) ∧ wq.cell? ⟨b, off + i * 4 + 3, none⟩ = some (.int .i64 y3)) := Lib.hid (by rw [hwq]; exact ⟨c0, c1, c2, c3⟩)
              clear hwq c0 c1 c2 c3 a0 a1 a2 a3
              obtain ⟨c0, c1, c2, c3⟩ := HCq.out
              have HOwn2 : Hid ((wq.alloc (.cells #[.int .u32 y0, .int .i64 y1, .int .u32 y2, .int .i64 y3] tyL)).ownsRow W.heap.size tyL 4 v2 (m ++ [(⟨x0, x1, x2, x3⟩ : Ls)]).length (cellsL (m ++ [(⟨x0, x1, x2, x3⟩ : Ls)]))) := Lib.hid (HKq.out.alloc _)
              have hs2 := HBq.out.size
              have K2 := app_side wq W.heap.size ⟨y0, y1, y2, y3⟩ (m := (m ++ [(⟨x0, x1, x2, x3⟩ : Ls)]).length) (by have := HL.out; rw [List.length_append, List.length_singleton]; omega) hs2
              go_wp2_with (at_builtin; refine append_any rfl _ _ 22 rfl W.heap.size tyL i0 (.agg #[.int .u32 0, .int .i64 0, .int .u32 0, .int .i64 0]) 4 32 Tryd.underlying22 hi0 hz0 hz1 hz2 rfl (by decide) _ _ _ rfl HOwn2.out (some ⟨wq.heap.size, 0, none⟩) 1 1 (Ls.cs ⟨y0, y1, y2, y3⟩) rfl K2.out.1 rfl K2.out.2.1 (cs_one _) K2.out.2.2.1 K2.out.2.2.2.1 K2.out.2.2.2.2 ?_)
              intro vz w7 ho hg
              have HBn2 := Lib.hid ((HBq.out.alloc hs2 (.cells #[.int .u32 y0, .int .i64 y1, .int .u32 y2, .int .i64 y3] tyL)).grown hg (by simp; omega) (fun k hk => own_blkL HOwn2.out hk))
              have HKn2 : Hid (PkL W.heap.size w7 vz (m ++ [(⟨x0, x1, x2, x3⟩ : Ls)] ++ [⟨y0, y1, y2, y3⟩])) := Lib.hid (by
                unfold PkL
                rw [List.length_append, cellsL_app, cellsL_one]
                first | exact ho | (rw [List.length_append]; exact ho))
              clear ho hg HOwn2 K2 hs2
              go_wp2
              go_roundw
              case rel => exact ⟨i + 1, _, _, _, rfl, rfl, by omega, by go_num, HWn, HKn2, HBn2⟩
              case measure => simp [intOf]; omega
            · have q0 : (y0 != x0) = true := by simpa using qv
              clear qv
              go_wp2
              go_quiet (fail)
              have HBq := Lib.hid (below_drewNT HBn1.out nq)
              obtain ⟨wq, hwq⟩ : ∃ wq, wq = w6.drewN nq := ⟨_, rfl⟩
              have HKq : Hid (PkL W.heap.size wq v2 (m ++ [(⟨x0, x1, x2, x3⟩ : Ls)])) := Lib.hid (by rw [hwq]; exact HKn1.out)
              rw [← hwq] at HBq ⊢
              have HCq : Hid (wq.cell? ⟨b, off + i * 4, none⟩ = some (.int .u32 y0) ∧ wq.cell? ⟨b, off + i * 4 + 1, none⟩ = some (.int .i64 y1) ∧ wq.cell? ⟨b, off + i * 4 + 2, none⟩ = some (.int .u32 y2) ∧ wq.cell? ⟨b, off + i * 4 + 3, none⟩ = some (.int .i64 y3)) := Lib.hid (by rw [hwq]; exact ⟨c0, c1, c2, c3⟩)
              clear hwq c0 c1 c2 c3 a0 a1 a2 a3
              obtain ⟨c0, c1, c2, c3⟩ := HCq.out
              have HOwn2 : Hid ((wq.alloc (.cells #[.int .u32 y0, .int .i64 y1, .int .u32 y2, .int .i64 y3] tyL)).ownsRow W.heap.size tyL 4 v2 (m ++ [(⟨x0, x1, x2, x3⟩ : Ls)]).length (cellsL (m ++ [(⟨x0, x1, x2, x3⟩ : Ls)]))) := Lib.hid (HKq.out.alloc _)
              have hs2 := HBq.out.size
              have K2 := app_side wq W.heap.size ⟨y0, y1, y2, y3⟩ (m := (m ++ [(⟨x0, x1, x2, x3⟩ : Ls)]).length) (by have := HL.out; rw [List.length_append, List.length_singleton]; omega) hs2
              go_wp2_with (at_builtin; refine append_any rfl _ _ 22 rfl W.heap.size tyL i0 (.agg #[.int .u32 0, .int .i64 0, .int .u32 0, .int .i64 0]) 4 32 Tryd.underlying22 hi0 hz0 hz1 hz2 rfl (by decide) _ _ _ rfl HOwn2.out (some ⟨wq.heap.size, 0, none⟩) 1 1 (Ls.cs ⟨y0, y1, y2, y3⟩) rfl K2.out.1 rfl K2.out.2.1 (cs_one _) K2.out.2.2.1 K2.out.2.2.2.1 K2.out.2.2.2.2 ?_)
              intro vz w7 ho hg
              have HBn2 := Lib.hid ((HBq.out.alloc hs2 (.cells #[.int .u32 y0, .int .i64 y1, .int .u32 y2, .int .i64 y3] tyL)).grown hg (by simp; omega) (fun k hk => own_blkL HOwn2.out hk))
              have HKn2 : Hid (PkL W.heap.size w7 vz (m ++ [(⟨x0, x1, x2, x3⟩ : Ls)] ++ [⟨y0, y1, y2, y3⟩])) := Lib.hid (by
                unfold PkL
                rw [List.length_append, cellsL_app, cellsL_one]
                first | exact ho | (rw [List.length_append]; exact ho))
              clear ho hg HOwn2 K2 hs2
              go_wp2
              go_roundw
              case rel => exact ⟨i + 1, _, _, _, rfl, rfl, by omega, by go_num, HWn, HKn2, HBn2⟩
              case measure => simp [intOf]; omega
      | true =>
        have H4 := Lib.hid (HWI.out.s4 (by omega) HS.out)
        obtain ⟨y, ey⟩ : ∃ y, y = l.getD i ls0 := ⟨_, rfl⟩
        rw [← ey] at hx H4 HYX
        obtain ⟨y0, y1, y2, y3⟩ := y
        have HWn := Lib.hid H4.out.2
        have HNS : Hid (¬ (y0 = x0 ∧ y1 = x1)) := Lib.hid (fun e => by
          have := H4.out.1
          rw [sameK_iff.2 e] at this
          cases this)
        have hT0 : (w2.drew.cell? ⟨b, off + i * 4, none⟩ = some (.int .u32 y0) ∧ w2.drew.cell? ⟨b, off + i * 4 + 1, none⟩ = some (.int .i64 y1) ∧ w2.drew.cell? ⟨b, off + i * 4 + 2, none⟩ = some (.int .u32 y2) ∧ w2.drew.cell? ⟨b, off + i * 4 + 3, none⟩ = some (.int .i64 y3)) ∧ w2.drew.cell? ⟨g, 0, none⟩ = some (.int .u32 x0) ∧ w2.drew.cell? ⟨g, 0 + 1, none⟩ = some (.int .i64 x1) ∧ w2.drew.cell? ⟨g, 0 + 2, none⟩ = some (.int .u32 x2) ∧ w2.drew.cell? ⟨g, 0 + 3, none⟩ = some (.int .i64 x3) := ⟨hx, hA2⟩
        have HKd : Hid (PkL W.heap.size w2.drew v m) := Lib.hid HK.out
        have HBd : Hid (Below W.heap.size W w2.drew) := Lib.hid HBX.out.drew
        clear hx hA2 ey H4
        go_upto_region 6 with fail
        refine wp_region_held_drew (S := (fun wx => (wx.cell? ⟨b, off + i * 4, none⟩ = some (.int .u32 y0) ∧ wx.cell? ⟨b, off + i * 4 + 1, none⟩ = some (.int .i64 y1) ∧ wx.cell? ⟨b, off + i * 4 + 2, none⟩ = some (.int .u32 y2) ∧ wx.cell? ⟨b, off + i * 4 + 3, none⟩ = some (.int .i64 y3)) ∧ wx.cell? ⟨g, 0, none⟩ = some (.int .u32 x0) ∧ wx.cell? ⟨g, 0 + 1, none⟩ = some (.int .i64 x1) ∧ wx.cell? ⟨g, 0 + 2, none⟩ = some (.int .u32 x2) ∧ wx.cell? ⟨g, 0 + 3, none⟩ = some (.int .i64 x3))) (by kernel_rfl) hT0 (fun hHeld => ?_)
        refine wpAnyH_take (i := 0) (v := ?_) rfl (by kernel_rfl) (by kernel_rfl) (by kernel_rfl) (fun _ _ _ h => h) (Or.inl ⟨by rfl, ?_⟩) (by assumption) ?_
        rotate_left
        · intro wz hSw; (try dsimp only at hSw); (try simp only [List.getElem_toArray, List.getElem_cons_zero, List.getElem_cons_succ]); go_simp; first | done | with_reducible rfl
        try simp only [Act.put, List.setIfInBounds_toArray, List.set_cons_zero, List.set_cons_succ, List.getElem_toArray, List.getElem_cons_zero, List.getElem_cons_succ]
        refine wpAnyH_take (i := 1) (v := ?_) rfl (by kernel_rfl) (by kernel_rfl) (by kernel_rfl) (fun _ _ _ h => h) (Or.inl ⟨by rfl, ?_⟩) (by assumption) ?_
        rotate_left
        · intro wz hSw; (try dsimp only at hSw); (try simp only [List.getElem_toArray, List.getElem_cons_zero, List.getElem_cons_succ]); go_simp; first | done | with_reducible rfl
        try simp only [Act.put, List.setIfInBounds_toArray, List.set_cons_zero, List.set_cons_succ, List.getElem_toArray, List.getElem_cons_zero, List.getElem_cons_succ]
        refine wpAnyH_take (i := 2) (v := ?_) rfl (by kernel_rfl) (by kernel_rfl) (by kernel_rfl) (fun _ _ _ h => h) (Or.inl ⟨by rfl, ?_⟩) (by assumption) ?_
        rotate_left
        · intro wz hSw; (try dsimp only at hSw); (try simp only [List.getElem_toArray, List.getElem_cons_zero, List.getElem_cons_succ]); go_simp; first | done | with_reducible rfl
        try simp only [Act.put, List.setIfInBounds_toArray, List.set_cons_zero, List.set_cons_succ, List.getElem_toArray, List.getElem_cons_zero, List.getElem_cons_succ]
        refine wpAnyH_take (i := 3) (v := undef) rfl (by kernel_rfl) (by kernel_rfl) (by kernel_rfl) (fun _ _ _ h => h) (Or.inr ⟨by rfl, rfl⟩) (by assumption) ?_
        try simp only [Act.put, List.setIfInBounds_toArray, List.set_cons_zero, List.set_cons_succ, List.getElem_toArray, List.getElem_cons_zero, List.getElem_cons_succ]
        refine wpAnyH_take (i := 4) (v := undef) rfl (by kernel_rfl) (by kernel_rfl) (by kernel_rfl) (fun _ _ _ h => h) (Or.inr ⟨by rfl, rfl⟩) (by assumption) ?_
        try simp only [Act.put, List.setIfInBounds_toArray, List.set_cons_zero, List.set_cons_succ, List.getElem_toArray, List.getElem_cons_zero, List.getElem_cons_succ]
        refine wpAnyH_take (i := 5) (v := undef) rfl (by kernel_rfl) (by kernel_rfl) (by kernel_rfl) (fun _ _ _ h => h) (Or.inr ⟨by rfl, rfl⟩) (by assumption) ?_
        try simp only [Act.put, List.setIfInBounds_toArray, List.set_cons_zero, List.set_cons_succ, List.getElem_toArray, List.getElem_cons_zero, List.getElem_cons_succ]
        refine wpAnyH_take (i := 6) (v := undef) rfl (by kernel_rfl) (by kernel_rfl) (by kernel_rfl) (fun _ _ _ h => h) (Or.inr ⟨by rfl, rfl⟩) (by assumption) ?_
        try simp only [Act.put, List.setIfInBounds_toArray, List.set_cons_zero, List.set_cons_succ, List.getElem_toArray, List.getElem_cons_zero, List.getElem_cons_succ]
        refine wpAnyH_take (i := 7) (v := undef) rfl (by kernel_rfl) (by kernel_rfl) (by kernel_rfl) (fun _ _ _ h => h) (Or.inr ⟨by rfl, rfl⟩) (by assumption) ?_
        try simp only [Act.put, List.setIfInBounds_toArray, List.set_cons_zero, List.set_cons_succ, List.getElem_toArray, List.getElem_cons_zero, List.getElem_cons_succ]
        refine wpAnyH_take (i := 8) (v := undef) rfl (by kernel_rfl) (by kernel_rfl) (by kernel_rfl) (fun _ _ _ h => h) (Or.inr ⟨by rfl, rfl⟩) (by assumption) ?_
        try simp only [Act.put, List.setIfInBounds_toArray, List.set_cons_zero, List.set_cons_succ, List.getElem_toArray, List.getElem_cons_zero, List.getElem_cons_succ]
        refine wpAnyH_take (i := 9) (v := undef) rfl (by kernel_rfl) (by kernel_rfl) (by kernel_rfl) (fun _ _ _ h => h) (Or.inr ⟨by rfl, rfl⟩) (by assumption) ?_
        try simp only [Act.put, List.setIfInBounds_toArray, List.set_cons_zero, List.set_cons_succ, List.getElem_toArray, List.getElem_cons_zero, List.getElem_cons_succ]
        refine wpAnyH_take (i := 10) (v := ?_) rfl (by kernel_rfl) (by kernel_rfl) (by kernel_rfl) (fun _ _ _ h => h) (Or.inl ⟨by rfl, ?_⟩) (by assumption) ?_
        rotate_left
        · intro wz hSw; (try dsimp only at hSw); (try simp only [List.getElem_toArray, List.getElem_cons_zero, List.getElem_cons_succ]); go_simp; first | done | with_reducible rfl
        try simp only [Act.put, List.setIfInBounds_toArray, List.set_cons_zero, List.set_cons_succ, List.getElem_toArray, List.getElem_cons_zero, List.getElem_cons_succ]
        refine wpAnyH_done (by kernel_rfl) ?_ _
        obtain ⟨⟨c0, c1, c2, c3⟩, a0, a1, a2, a3⟩ := hT0
        obtain ⟨wd, hwd⟩ : ∃ wd, wd = w2.drew := ⟨_, rfl⟩
        rw [← hwd] at HKd HBd c0 c1 c2 c3 a0 a1 a2 a3 ⊢
        clear hwd
        by_cases qv : y0 = x0
        · have qw : ¬ y1 = x1 := fun e => HNS.out ⟨qv, e⟩
          have q0 : (y0 != x0) = false := by simpa using qv
          have q1 : (y1 != x1) = true := by simpa using qw
          clear qv qw
          go_wp2
          go_quiet (fail)
          have HBq := Lib.hid (below_drewNT HBd.out nq)
          obtain ⟨wq, hwq⟩ : ∃ wq, wq = wd.drewN nq := ⟨_, rfl⟩
          have HKq : Hid (PkL W.heap.size wq v (m)) := Lib.hid (by rw [hwq]; exact HKd.out)
          rw [← hwq] at HBq ⊢
          have HCq : Hid (wq.cell? ⟨b, off + i * 4, none⟩ = some (.int .u32 y0) ∧ wq.cell? ⟨b, off + i * 4 + 1, none⟩ = some (.int .i64 y1) ∧ wq.cell? ⟨b, off + i * 4 + 2, none⟩ = some (.int .u32 y2) ∧ wq.cell? ⟨b, off + i * 4 + 3, none⟩ = some (.int .i64 y3)) := Lib.hid (by rw [hwq]; exact ⟨c0, c1, c2, c3⟩)
          clear hwq c0 c1 c2 c3 a0 a1 a2 a3
          obtain ⟨c0, c1, c2, c3⟩ := HCq.out
          have HOwn1 : Hid ((wq.alloc (.cells #[.int .u32 y0, .int .i64 y1, .int .u32 y2, .int .i64 y3] tyL)).ownsRow W.heap.size tyL 4 v (m).length (cellsL (m))) := Lib.hid (HKq.out.alloc _)
          have hs1 := HBq.out.size
          have K1 := app_side wq W.heap.size ⟨y0, y1, y2, y3⟩ (m := (m).length) (by have := HL.out; omega) hs1
          go_wp2_with (at_builtin; refine append_any rfl _ _ 22 rfl W.heap.size tyL i0 (.agg #[.int .u32 0, .int .i64 0, .int .u32 0, .int .i64 0]) 4 32 Tryd.underlying22 hi0 hz0 hz1 hz2 rfl (by decide) _ _ _ rfl HOwn1.out (some ⟨wq.heap.size, 0, none⟩) 1 1 (Ls.cs ⟨y0, y1, y2, y3⟩) rfl K1.out.1 rfl K1.out.2.1 (cs_one _) K1.out.2.2.1 K1.out.2.2.2.1 K1.out.2.2.2.2 ?_)
          intro vz w6 ho hg
          have HBn1 := Lib.hid ((HBq.out.alloc hs1 (.cells #[.int .u32 y0, .int .i64 y1, .int .u32 y2, .int .i64 y3] tyL)).grown hg (by simp; omega) (fun k hk => own_blkL HOwn1.out hk))
          have HKn1 : Hid (PkL W.heap.size w6 vz (m ++ [⟨y0, y1, y2, y3⟩])) := Lib.hid (by
            unfold PkL
            rw [List.length_append, cellsL_app, cellsL_one]
            first | exact ho | (rw [List.length_append]; exact ho))
          clear ho hg HOwn1 K1 hs1
          go_wp2
          go_roundw
          case rel => exact ⟨i + 1, _, _, _, rfl, rfl, by omega, by go_num, HWn, HKn1, HBn1⟩
          case measure => simp [intOf]; omega
        · have q0 : (y0 != x0) = true := by simpa using qv
          clear qv
          go_wp2
          go_quiet (fail)
          have HBq := Lib.hid (below_drewNT HBd.out nq)
          obtain ⟨wq, hwq⟩ : ∃ wq, wq = wd.drewN nq := ⟨_, rfl⟩
          have HKq : Hid (PkL W.heap.size wq v (m)) := Lib.hid (by rw [hwq]; exact HKd.out)
          rw [← hwq] at HBq ⊢
          have HCq : Hid (wq.cell? ⟨b, off + i * 4, none⟩ = some (.int .u32 y0) ∧ wq.cell? ⟨b, off + i * 4 + 1, none⟩ = some (.int .i64 y1) ∧ wq.cell? ⟨b, off + i * 4 + 2, none⟩ = some (.int .u32 y2) ∧ wq.cell? ⟨b, off + i * 4 + 3, none⟩ = some (.int .i64 y3)) := Lib.hid (by rw [hwq]; exact ⟨c0, c1, c2, c3⟩)
          clear hwq c0 c1 c2 c3 a0 a1 a2 a3
          obtain ⟨c0, c1, c2, c3⟩ := HCq.out
          have HOwn1 : Hid ((wq.alloc (.cells #[.int .u32 y0, .int .i64 y1, .int .u32 y2, .int .i64 y3] tyL)).ownsRow W.heap.size tyL 4 v (m).length (cellsL (m))) := Lib.hid (HKq.out.alloc _)
          have hs1 := HBq.out.size
          have K1 := app_side wq W.heap.size ⟨y0, y1, y2, y3⟩ (m := (m).length) (by have := HL.out; omega) hs1
          go_wp2_with (at_builtin; refine append_any rfl _ _ 22 rfl W.heap.size tyL i0 (.agg #[.int .u32 0, .int .i64 0, .int .u32 0, .int .i64 0]) 4 32 Tryd.underlying22 hi0 hz0 hz1 hz2 rfl (by decide) _ _ _ rfl HOwn1.out (some ⟨wq.heap.size, 0, none⟩) 1 1 (Ls.cs ⟨y0, y1, y2, y3⟩) rfl K1.out.1 rfl K1.out.2.1 (cs_one _) K1.out.2.2.1 K1.out.2.2.2.1 K1.out.2.2.2.2 ?_)
          intro vz w6 ho hg
          have HBn1 := Lib.hid ((HBq.out.alloc hs1 (.cells #[.int .u32 y0, .int .i64 y1, .int .u32 y2, .int .i64 y3] tyL)).grown hg (by simp; omega) (fun k hk => own_blkL HOwn1.out hk))
          have HKn1 : Hid (PkL W.heap.size w6 vz (m ++ [⟨y0, y1, y2, y3⟩])) := Lib.hid (by
            unfold PkL
            rw [List.length_append, cellsL_app, cellsL_one]
            first | exact ho | (rw [List.length_append]; exact ho))
          clear ho hg HOwn1 K1 hs1
          go_wp2
          go_roundw
          case rel => exact ⟨i + 1, _, _, _, rfl, rfl, by omega, by go_num, HWn, HKn1, HBn1⟩
          case measure => simp [intOf]; omega
    · have ii : ¬ (i : Int) < (n : Int) := by omega
      obtain rfl : i = n := by omega
      have HBf := Lib.hid (HBW.out.trans (HBX.out.mono HBW.out.size))
      cases d with
      | true =>
        have HE := Lib.hid (HWI.out.endT HLN.out)
        go_wp2
        go_ret
        exact ⟨⟨_, rfl, by rw [← HE.out]; exact own_base HK.out HBW.out.size⟩, HBf.out⟩
      | false =>
        have HE := Lib.hid (HWI.out.endF HLN.out)
        obtain ⟨a0, a1, a2, a3⟩ := HA.out.below HBX.out HGW.out
        have HOwn1 : Hid ((w2.alloc (.cells #[.int .u32 x0, .int .i64 x1, .int .u32 x2, .int .i64 x3] tyL)).ownsRow W.heap.size tyL 4 v (m).length (cellsL (m))) := Lib.hid (HK.out.alloc _)
        have hs1 := HBX.out.size
        have K1 := app_side w2 W.heap.size ⟨x0, x1, x2, x3⟩ (m := (m).length) (by have := HL.out; omega) hs1
        go_wp2_with (at_builtin; refine append_any rfl _ _ 22 rfl W.heap.size tyL i0 (.agg #[.int .u32 0, .int .i64 0, .int .u32 0, .int .i64 0]) 4 32 Tryd.underlying22 hi0 hz0 hz1 hz2 rfl (by decide) _ _ _ rfl HOwn1.out (some ⟨w2.heap.size, 0, none⟩) 1 1 (Ls.cs ⟨x0, x1, x2, x3⟩) rfl K1.out.1 rfl K1.out.2.1 (cs_one _) K1.out.2.2.1 K1.out.2.2.2.1 K1.out.2.2.2.2 ?_)
        intro v2 w6 ho hg
        have HBn1 := Lib.hid ((HBX.out.alloc hs1 (.cells #[.int .u32 x0, .int .i64 x1, .int .u32 x2, .int .i64 x3] tyL)).grown hg (by simp; omega) (fun k hk => own_blkL HOwn1.out hk))
        have HKn1 : Hid (PkL W.heap.size w6 v2 (m ++ [⟨x0, x1, x2, x3⟩])) := Lib.hid (by
          unfold PkL
          rw [List.length_append, cellsL_app, cellsL_one]
          first | exact ho | (rw [List.length_append]; exact ho))
        clear ho hg HOwn1 K1 hs1
        have HBf2 := Lib.hid (HBW.out.trans (HBn1.out.mono HBW.out.size))
        go_wp2
        go_ret
        exact ⟨⟨_, rfl, by rw [← HE.out]; exact own_base HKn1.out HBW.out.size⟩, HBf2.out⟩
end Go.Proofs.YtanajblldlgalaaDoor
