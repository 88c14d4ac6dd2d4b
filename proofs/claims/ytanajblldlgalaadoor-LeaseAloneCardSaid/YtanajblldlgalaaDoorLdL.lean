/- The program's lend. Conditions: the list came in and is in form; now is a time. -/
import Derived.Test.YtanajblldlgalaaDoorLdS
import Derived.Test.YtanajblldlgalaaDoorLdW
import Derived.Test.YtanajblldlgalaaDoorLsB
namespace Go.Proofs.YtanajblldlgalaaDoor
open Go Go.RowKit
set_option linter.unusedVariables false
set_option linter.unusedSimpArgs false

theorem getD_drop0 {l : List Ls} {i : Nat} (hi : i < l.length) : l.drop i = l.getD i ls0 :: l.drop (i + 1) := by
  rw [List.drop_eq_getElem_cons hi, List.getD_eq_getElem?_getD, List.getElem?_eq_getElem hi]
  rfl
theorem with_no {x : Ls} {l : List Ls} {i : Nat} (hs : l.Pairwise (fun a b => ltL a b = true)) (h : At12 x l i) (hf : foundL x l i = false) : withL x l = l.take i ++ x :: l.drop i := by
  obtain ⟨h1, h2, h3⟩ := h
  conv => lhs; rw [← List.take_append_drop i l]
  refine with_split (fun y hy => ?_) (fun y hy => ?_)
  · obtain ⟨t, ht, rfl⟩ := List.mem_iff_getElem.1 hy
    rw [List.length_take] at ht
    have := h2 t (by omega)
    rw [List.getD_eq_getElem?_getD, List.getElem?_eq_getElem (by omega)] at this
    rw [List.getElem_take]
    exact this
  · obtain ⟨t, ht, rfl⟩ := List.mem_iff_getElem.1 hy
    rw [List.length_drop] at ht
    rw [List.getElem_drop]
    have hlt : i < l.length := by omega
    have h4 := h3 i (Nat.le_refl _) hlt
    unfold foundL at hf
    rw [decide_eq_true hlt, Bool.true_and] at hf
    rw [List.getD_eq_getElem?_getD, List.getElem?_eq_getElem hlt] at h4 hf
    have h5 : ltL x l[i] = true := by
      cases hz : ltL x l[i] with
      | true => rfl
      | false =>
        have := ltL_or h4 hz
        have h6 : sameK l[i] x = true := sameK_iff.2 this
        rw [show sameK ((some l[i]).getD ls0) x = sameK l[i] x from rfl, h6] at hf
        cases hf
    by_cases e : t = 0
    · subst e
      exact h5
    · exact ltL_tr h5 (List.pairwise_iff_getElem.1 hs i (i + t) hlt (by omega) (by omega))
theorem with_yes {x : Ls} {l : List Ls} {i : Nat} (hs : l.Pairwise (fun a b => ltL a b = true)) (h : At12 x l i) (hf : foundL x l i = true) : i < l.length ∧ withL x l = l.take i ++ x :: l.drop (i + 1) := by
  obtain ⟨h1, h2, h3⟩ := h
  unfold foundL at hf
  rw [Bool.and_eq_true, decide_eq_true_iff] at hf
  obtain ⟨hlt, hk⟩ := hf
  refine ⟨hlt, ?_⟩
  conv => lhs; rw [← List.take_append_drop i l, getD_drop0 hlt]
  refine with_split1 (fun y hy => ?_) hk (fun y hy => ?_)
  · obtain ⟨t, ht, rfl⟩ := List.mem_iff_getElem.1 hy
    rw [List.length_take] at ht
    have := h2 t (by omega)
    rw [List.getD_eq_getElem?_getD, List.getElem?_eq_getElem (by omega)] at this
    rw [List.getElem_take]
    exact this
  · obtain ⟨t, ht, rfl⟩ := List.mem_iff_getElem.1 hy
    rw [List.length_drop] at ht
    rw [List.getElem_drop]
    have h4 := List.pairwise_iff_getElem.1 hs i (i + 1 + t) hlt (by omega) (by omega)
    rw [List.getD_eq_getElem?_getD, List.getElem?_eq_getElem hlt] at hk
    have h5 := sameK_iff.1 hk
    rw [show ((some l[i]).getD ls0) = l[i] from rfl] at h5
    rw [ltL_iff] at h4 ⊢
    omega
theorem set4 {w : World} {q o1 o2 o3 : Nat} {v0 v1 v2 v3 u0 u1 u2 u3 : Value} (h : w.cell? ⟨q + 1, 0, none⟩ = some v0 ∧ w.cell? ⟨q + 1, o1, none⟩ = some v1 ∧ w.cell? ⟨q + 1, o2, none⟩ = some v2 ∧ w.cell? ⟨q + 1, o3, none⟩ = some v3) :
    ((((w.setCell ⟨q, 0, none⟩ u0).setCell ⟨q, 1, none⟩ u1).setCell ⟨q, 2, none⟩ u2).setCell ⟨q, 3, none⟩ u3).cell? ⟨q + 1, 0, none⟩ = some v0 ∧ ((((w.setCell ⟨q, 0, none⟩ u0).setCell ⟨q, 1, none⟩ u1).setCell ⟨q, 2, none⟩ u2).setCell ⟨q, 3, none⟩ u3).cell? ⟨q + 1, o1, none⟩ = some v1 ∧ ((((w.setCell ⟨q, 0, none⟩ u0).setCell ⟨q, 1, none⟩ u1).setCell ⟨q, 2, none⟩ u2).setCell ⟨q, 3, none⟩ u3).cell? ⟨q + 1, o2, none⟩ = some v2 ∧ ((((w.setCell ⟨q, 0, none⟩ u0).setCell ⟨q, 1, none⟩ u1).setCell ⟨q, 2, none⟩ u2).setCell ⟨q, 3, none⟩ u3).cell? ⟨q + 1, o3, none⟩ = some v3 := by
  have hk : ∀ {W : World} {o j : Nat} {u v : Value}, W.cell? ⟨q + 1, o, none⟩ = some v → (W.setCell ⟨q, j, none⟩ u).cell? ⟨q + 1, o, none⟩ = some v := fun {W o j u v} hc => (World.cell?_setCell_other _ _ _ _ (fun e => by have := congrArg Addr.block e; simp at this)).trans hc
  exact ⟨hk (hk (hk (hk h.1))), hk (hk (hk (hk h.2.1))), hk (hk (hk (hk h.2.2.1))), hk (hk (hk (hk h.2.2.2)))⟩
theorem cells4 {w : World} {q : Nat} {u0 u1 u2 u3 : Value} {t : TypeId} (h : w.heap[q]? = some (.cells #[u0, u1, u2, u3] t (0, 0))) : w.cell? ⟨q, 0, none⟩ = some u0 ∧ w.cell? ⟨q, 1, none⟩ = some u1 ∧ w.cell? ⟨q, 2, none⟩ = some u2 ∧ w.cell? ⟨q, 3, none⟩ = some u3 ∧ w.frozen? ⟨q, 0, none⟩ = false ∧ w.frozen? ⟨q, 1, none⟩ = false ∧ w.frozen? ⟨q, 2, none⟩ = false ∧ w.frozen? ⟨q, 3, none⟩ = false :=
  ⟨cell_of_row w q 0 _ _ _ h, cell_of_row w q 1 _ _ _ h, cell_of_row w q 2 _ _ _ h, cell_of_row w q 3 _ _ _ h, frozen_of_row w q 0 _ _ h, frozen_of_row w q 1 _ _ h, frozen_of_row w q 2 _ _ h, frozen_of_row w q 3 _ _ h⟩
theorem keep4 {w W : World} {q o1 o2 o3 : Nat} {v0 v1 v2 v3 : Value} (h : w.drew.cell? ⟨q, 0, none⟩ = some v0 ∧ w.drew.cell? ⟨q, o1, none⟩ = some v1 ∧ w.drew.cell? ⟨q, o2, none⟩ = some v2 ∧ w.drew.cell? ⟨q, o3, none⟩ = some v3) (hb : Below w.heap.size w W) : W.cell? ⟨q, 0, none⟩ = some v0 ∧ W.cell? ⟨q, o1, none⟩ = some v1 ∧ W.cell? ⟨q, o2, none⟩ = some v2 ∧ W.cell? ⟨q, o3, none⟩ = some v3 := by
  have hk : ∀ {p : Addr} {u : Value}, w.cell? p = some u → W.cell? p = some u := fun {p u} hc => (hb.cell (p := p) (block_lt_of_cell hc)).trans hc
  exact ⟨hk h.1, hk h.2.1, hk h.2.2.1, hk h.2.2.2⟩
theorem three_new (w : World) (u0 u1 u2 : Value) (t : TypeId) : (w.alloc (.cells #[u0, u1, u2] t)).cell? ⟨w.heap.size, 0, none⟩ = some u0 ∧ (w.alloc (.cells #[u0, u1, u2] t)).cell? ⟨w.heap.size, 1, none⟩ = some u1 ∧ (w.alloc (.cells #[u0, u1, u2] t)).cell? ⟨w.heap.size, 2, none⟩ = some u2 := by
  refine ⟨?_, ?_, ?_⟩ <;> simp [go_sem]
/-- The world ahead of Concat. -/
theorem cat_world (w : World) (x : Ls) (l1 lb : List Ls) (a ab : Option Addr) (i c nb cb : Nat) (h1 : InL w a i c l1) (hb : InL w ab nb cb lb) (hx : TyL x) (hi : i ≤ 1048576) (hnb : nb ≤ 1048576) :
    Calls Tryd.prog 56 #[.slice (some ⟨w.heap.size + 1, 0, none⟩) 3 3] ((w.alloc (.cells #[.int .u32 x.vip, .int .i64 x.first, .int .u32 x.dip, .int .i64 x.exp] tyL)).alloc (.cells #[.slice a i c, .slice (some ⟨w.heap.size, 0, none⟩) 1 1, .slice ab nb cb] 22)).drew fun e w' => (∃ v', e = .returned v' ∧ PkL (w.heap.size + 2) w' v' (l1 ++ x :: lb)) ∧ Below w.heap.size w w' := by
  obtain ⟨w2, hw2⟩ : ∃ w2, w2 = w.alloc x.obj := ⟨_, rfl⟩
  have hb2 : Below w.heap.size w w2 := by rw [hw2]; exact bl_al (Below.refl _ _) _
  have hs2 : w2.heap.size = w.heap.size + 1 := by rw [hw2]; simp
  have hx2 : InL w2 (some ⟨w.heap.size, 0, none⟩) 1 1 [x] := by
    refine ⟨rfl, Nat.le_refl _, (by intro e; cases e), .inr ⟨_, 0, rfl, fun t u hu => ?_⟩, fun y hy => by rw [List.mem_singleton] at hy; rw [hy]; exact hx⟩
    rw [cellsL_one] at hu
    rw [hw2]
    exact cells_new w x.cs tyL (0, 0) t u hu
  rw [show (w.alloc (.cells #[.int .u32 x.vip, .int .i64 x.first, .int .u32 x.dip, .int .i64 x.exp] tyL)) = w2 from hw2.symm, ← hs2]
  obtain ⟨w3, hw3⟩ : ∃ w3, w3 = (w2.alloc (.cells #[.slice a i c, .slice (some ⟨w.heap.size, 0, none⟩) 1 1, .slice ab nb cb] 22)).drew := ⟨_, rfl⟩
  have hb3 : Below w2.heap.size w2 w3 := by rw [hw3]; exact (bl_al (Below.refl _ _) _).drew
  have hs3 : w3.heap.size = w.heap.size + 2 := by rw [hw3]; show (w2.alloc _).heap.size = _; simp; omega
  obtain ⟨k0, k1, k2⟩ := three_new w2 (.slice a i c) (.slice (some ⟨w.heap.size, 0, none⟩) 1 1) (.slice ab nb cb) 22
  have k0' : w3.cell? ⟨w2.heap.size, 0, none⟩ = some (.slice a i c) := by rw [hw3]; exact k0
  have k1' : w3.cell? ⟨w2.heap.size, 1, none⟩ = some (.slice (some ⟨w.heap.size, 0, none⟩) 1 1) := by rw [hw3]; exact k1
  have k2' : w3.cell? ⟨w2.heap.size, 2, none⟩ = some (.slice ab nb cb) := by rw [hw3]; exact k2
  rw [← hw3]
  refine (concat_c l1 [x] lb a (some ⟨w.heap.size, 0, none⟩) ab w2.heap.size i c 1 1 nb cb w3 k0' k1' k2' ((h1.below hb2).below hb3) (hx2.below hb3) ((hb.below hb2).below hb3) hi (by omega) hnb).mono ?_
  rintro e w4 ⟨⟨v, rfl, hK⟩, h4⟩
  refine ⟨⟨v, rfl, ?_⟩, bl_tr (bl_tr hb2 hb3) h4⟩
  rw [List.append_assoc, List.singleton_append, hs3] at hK
  exact hK
set_option maxRecDepth 100000 in
set_option maxHeartbeats 4000000 in
theorem lend_c (l : List Ls) (vip first dip now : Int) (a : Option Addr) (n c : Nat) (w : World) (hI : InL w a n c l) (hn : n ≤ 1048576) (hs : l.Pairwise (fun a b => ltL a b = true)) (hnow : OkTm now) (hv : 0 ≤ vip ∧ vip < 4294967296) (hd : 0 ≤ dip ∧ dip < 4294967296) (hf : i64b first) :
    Calls Tryd.prog 32 #[.slice a n c, .int .u32 vip, .int .i64 first, .int .u32 dip, .int .i64 now] w fun e w' => (∃ v, e = .returned (.tuple #[v, .agg #[.int .u32 vip, .int .i64 first, .int .u32 dip, .int .i64 (now + 64)]]) ∧ PkL w.heap.size w' v (withL ⟨vip, first, dip, now + 64⟩ l)) ∧ Below w.heap.size w w' := by
  obtain ⟨t0, t1⟩ := hnow
  have hlen := hI.len
  have hroom := hI.room
  obtain ⟨W, hW, hA0, hA, hbW, hs2⟩ := two_ls w ls0 ⟨vip, first, dip, now + 64⟩
  have HI := Lib.hid (hI.below hbW)
  have HBW := Lib.hid hbW
  have HS := Lib.hid hs
  have HW := Lib.hid hW
  have HA := Lib.hid hA
  have HS2 := Lib.hid hs2
  obtain ⟨T, hT⟩ : ∃ T, T = now + 64 := ⟨_, rfl⟩
  rw [← hT] at HW HA ⊢
  have HT := Lib.hid hT
  have HTY : Hid (TyL ⟨vip, first, dip, T⟩) := Lib.hid ⟨hv, hf, hd, by show i64b T; unfold i64b; omega⟩
  clear hv hd hf
  have CB := Lib.hid (bsearch_c ⟨vip, first, dip, T⟩ l a n c W HI.out hn hs)
  obtain ⟨q, hq⟩ : ∃ q, q = w.heap.size := ⟨_, rfl⟩
  rw [← hq] at HA HS2
  have HQ := Lib.hid hq
  clear hI hbW hs hW hA0 hA hs2 hq hT
  obtain ⟨a0, a1, a2, a3⟩ := HA.out
  go_enter Tryd.func32, Tryd.ntmps32
  go_upto_region 2 with fail
  rw [← HT.out]
  rw [show (w.alloc (.cells #[.int .u32 0, .int .i64 0, .int .u32 0, .int .i64 0] tyL)).alloc (.cells #[.int .u32 vip, .int .i64 first, .int .u32 dip, .int .i64 T] tyL) = W from HW.out, ← HQ.out]
  go_wp2_with fail
  refine CB.out.mono ?_
  rintro e w1 ⟨⟨i, rfl, hAt⟩, hb1⟩
  have hi := hAt.1
  have hi' : i ≤ n := by omega
  have HAt := Lib.hid hAt
  have HA1 := Lib.hid (HA.out.below hb1 (by have := HS2.out; have := HBW.out.size; have := HQ.out; omega))
  have HI1 := Lib.hid (HI.out.below hb1)
  have HB1 := Lib.hid (HBW.out.trans (hb1.mono HBW.out.size))
  have hqL : q < W.heap.size := by have := HS2.out; omega
  have HQ1 : Hid (w1.heap[q]? = some (.cells #[.int .u32 0, .int .i64 0, .int .u32 0, .int .i64 0] tyL (0, 0))) := Lib.hid ((hb1.block q hqL).trans (by
    rw [← HW.out, HQ.out]
    exact heap_alloc2_old w _ _))
  have HQL : Hid (q < w1.heap.size) := Lib.hid (Nat.lt_of_lt_of_le hqL hb1.size)
  clear hb1 CB a0 a1 a2 a3 hAt hqL
  have HTX : Hid (TyL ⟨vip, first, dip, T⟩) := HTY
  have HIT := Lib.hid (HI1.out.take i hi')
  by_cases hn0 : n = 0
  · subst hn0
    obtain rfl : i = 0 := by omega
    have HF : Hid (foundL ⟨vip, first, dip, T⟩ l 0 = false) := Lib.hid (by unfold foundL; rw [hlen]; rfl)
    have HE : Hid (withL ⟨vip, first, dip, T⟩ l = l.take 0 ++ ⟨vip, first, dip, T⟩ :: l.drop 0) := Lib.hid (with_no HS.out HAt.out HF.out)
    have HIB : Hid (InL w1 a 0 c (l.drop 0)) := Lib.hid (by rw [List.drop_zero]; exact HI1.out)
    rw [HF.out]
    cases a with
    | none =>
      obtain rfl : c = 0 := HI.out.none rfl
      go_upto_region 6 with fail
      have CC := Lib.hid (cat_world w1 ⟨vip, first, dip, T⟩ (l.take 0) (l.drop 0) _ _ _ _ _ _ HIT.out HIB.out HTX.out (by omega) (by omega))
      obtain ⟨a0, a1, a2, a3⟩ := HA1.out
      have hS0 : w1.drew.cell? ⟨q + 1, 0, none⟩ = some (.int .u32 vip) ∧ w1.drew.cell? ⟨q + 1, 0 + 1, none⟩ = some (.int .i64 first) ∧ w1.drew.cell? ⟨q + 1, 0 + 2, none⟩ = some (.int .u32 dip) ∧ w1.drew.cell? ⟨q + 1, 0 + 3, none⟩ = some (.int .i64 T) := ⟨a0, a1, a2, a3⟩
      have hS1 := keep4 hS0 (bl_al (Below.refl w1.heap.size w1) (.cells #[.int .u32 vip, .int .i64 first, .int .u32 dip, .int .i64 T] tyL)).drew
      have hS2 := keep4 hS0 (bl_al (bl_al (Below.refl w1.heap.size w1) (.cells #[.int .u32 vip, .int .i64 first, .int .u32 dip, .int .i64 T] tyL)) (.cells #[.slice none 0 0, .slice (some ⟨w1.heap.size, 0, none⟩) 1 1, .slice none 0 0] 22)).drew
      go_region_held3 (fun wx => wx.cell? ⟨q + 1, 0, none⟩ = some (.int .u32 vip) ∧ wx.cell? ⟨q + 1, 0 + 1, none⟩ = some (.int .i64 first) ∧ wx.cell? ⟨q + 1, 0 + 2, none⟩ = some (.int .u32 dip) ∧ wx.cell? ⟨q + 1, 0 + 3, none⟩ = some (.int .i64 T)) (first | (with_reducible exact hS0) | (with_reducible exact hS1) | (with_reducible exact hS2) | (with_reducible exact hS3) | (with_reducible exact set4 hS3) | (with_reducible assumption) | fail)
        (first | (go_at_call 56; (with_reducible refine (CC.out).mono ?_); rintro e w5 ⟨⟨v5, rfl, hK5⟩, hb5⟩; have hS3 := keep4 hS0 hb5; obtain ⟨k0, k1, k2, k3, f0, f1, f2, f3⟩ := cells4 ((hb5.block q HQL.out).trans HQ1.out)) | fail)
      all_goals
        have HF1 : Hid (BxL w5 q ls0) := Lib.hid ((hb5.block q HQL.out).trans HQ1.out)
        have HW5 := Lib.hid (And.intro hK5 hb5)
        clear hS0 hS1 hS2 hS3 k0 k1 k2 k3 f0 f1 f2 f3 hb5 hK5 a0 a1 a2 a3
        obtain ⟨e0, e1, e2, e3⟩ := (stL_bx HF1.out ⟨vip, first, dip, T⟩).at
        obtain ⟨w6, hw6⟩ : ∃ w6, w6 = stL w5 q ⟨vip, first, dip, T⟩ := ⟨_, rfl⟩
        rw [← hw6] at e0 e1 e2 e3
        rw [show (((w5.setCell ⟨q, 0, none⟩ (.int .u32 vip)).setCell ⟨q, 1, none⟩ (.int .i64 first)).setCell ⟨q, 2, none⟩ (.int .u32 dip)).setCell ⟨q, 3, none⟩ (.int .i64 T) = w6 from hw6.symm]
        have HR : Hid (PkL w.heap.size w6 v5 (withL ⟨vip, first, dip, T⟩ l) ∧ Below w.heap.size w w6) := Lib.hid (by
          rw [hw6, HE.out]
          exact ⟨own_base (own_stL HW5.out.1 (by have := HQL.out; omega) _) (by have := HB1.out.size; omega), bl_stL (bl_tr HB1.out HW5.out.2) (by rw [HQ.out]; exact Nat.le_refl _) _⟩)
        clear hw6 HW5
        go_wp2
        refine bodyPost_ret (v := .tuple #[v5, .agg #[.int .u32 vip, .int .i64 first, .int .u32 dip, .int .i64 T]]) (by simp [results, Tryd.results32, go_sem, e0, e1, e2, e3]) rfl ?_
        exact ⟨⟨v5, rfl, HR.out.1⟩, HR.out.2⟩
    | some ad =>
      go_upto_region 6 with fail
      have CC := Lib.hid (cat_world w1 ⟨vip, first, dip, T⟩ (l.take 0) (l.drop 0) _ _ _ _ _ _ HIT.out HIB.out HTX.out (by omega) (by omega))
      obtain ⟨a0, a1, a2, a3⟩ := HA1.out
      have hS0 : w1.drew.cell? ⟨q + 1, 0, none⟩ = some (.int .u32 vip) ∧ w1.drew.cell? ⟨q + 1, 0 + 1, none⟩ = some (.int .i64 first) ∧ w1.drew.cell? ⟨q + 1, 0 + 2, none⟩ = some (.int .u32 dip) ∧ w1.drew.cell? ⟨q + 1, 0 + 3, none⟩ = some (.int .i64 T) := ⟨a0, a1, a2, a3⟩
      have hS1 := keep4 hS0 (bl_al (Below.refl w1.heap.size w1) (.cells #[.int .u32 vip, .int .i64 first, .int .u32 dip, .int .i64 T] tyL)).drew
      have hS2 := keep4 hS0 (bl_al (bl_al (Below.refl w1.heap.size w1) (.cells #[.int .u32 vip, .int .i64 first, .int .u32 dip, .int .i64 T] tyL)) (.cells #[.slice (some ad) 0 c, .slice (some ⟨w1.heap.size, 0, none⟩) 1 1, .slice (some ad) 0 c] 22)).drew
      go_region_held3 (fun wx => wx.cell? ⟨q + 1, 0, none⟩ = some (.int .u32 vip) ∧ wx.cell? ⟨q + 1, 0 + 1, none⟩ = some (.int .i64 first) ∧ wx.cell? ⟨q + 1, 0 + 2, none⟩ = some (.int .u32 dip) ∧ wx.cell? ⟨q + 1, 0 + 3, none⟩ = some (.int .i64 T)) (first | (with_reducible exact hS0) | (with_reducible exact hS1) | (with_reducible exact hS2) | (with_reducible exact hS3) | (with_reducible exact set4 hS3) | (with_reducible assumption) | fail)
        (first | (go_at_call 56; (with_reducible refine (CC.out).mono ?_); rintro e w5 ⟨⟨v5, rfl, hK5⟩, hb5⟩; have hS3 := keep4 hS0 hb5; obtain ⟨k0, k1, k2, k3, f0, f1, f2, f3⟩ := cells4 ((hb5.block q HQL.out).trans HQ1.out)) | fail)
      all_goals
        have HF1 : Hid (BxL w5 q ls0) := Lib.hid ((hb5.block q HQL.out).trans HQ1.out)
        have HW5 := Lib.hid (And.intro hK5 hb5)
        clear hS0 hS1 hS2 hS3 k0 k1 k2 k3 f0 f1 f2 f3 hb5 hK5 a0 a1 a2 a3
        obtain ⟨e0, e1, e2, e3⟩ := (stL_bx HF1.out ⟨vip, first, dip, T⟩).at
        obtain ⟨w6, hw6⟩ : ∃ w6, w6 = stL w5 q ⟨vip, first, dip, T⟩ := ⟨_, rfl⟩
        rw [← hw6] at e0 e1 e2 e3
        rw [show (((w5.setCell ⟨q, 0, none⟩ (.int .u32 vip)).setCell ⟨q, 1, none⟩ (.int .i64 first)).setCell ⟨q, 2, none⟩ (.int .u32 dip)).setCell ⟨q, 3, none⟩ (.int .i64 T) = w6 from hw6.symm]
        have HR : Hid (PkL w.heap.size w6 v5 (withL ⟨vip, first, dip, T⟩ l) ∧ Below w.heap.size w w6) := Lib.hid (by
          rw [hw6, HE.out]
          exact ⟨own_base (own_stL HW5.out.1 (by have := HQL.out; omega) _) (by have := HB1.out.size; omega), bl_stL (bl_tr HB1.out HW5.out.2) (by rw [HQ.out]; exact Nat.le_refl _) _⟩)
        clear hw6 HW5
        go_wp2
        refine bodyPost_ret (v := .tuple #[v5, .agg #[.int .u32 vip, .int .i64 first, .int .u32 dip, .int .i64 T]]) (by simp [results, Tryd.results32, go_sem, e0, e1, e2, e3]) rfl ?_
        exact ⟨⟨v5, rfl, HR.out.1⟩, HR.out.2⟩
  · obtain ⟨b, off, rfl⟩ := HI.out.block (by omega)
    have i0 : (0 : Int) ≤ (i : Int) := by omega
    have i1 : (i : Int) ≤ (n : Int) := by omega
    have i2 : (i : Int) ≤ (c : Int) := by omega
    obtain ⟨f, hf⟩ : ∃ f, f = foundL ⟨vip, first, dip, T⟩ l i := ⟨_, rfl⟩
    rw [← hf]
    have HF := Lib.hid hf
    clear hf
    cases f with
    | false =>
      have HE : Hid (withL ⟨vip, first, dip, T⟩ l = l.take i ++ ⟨vip, first, dip, T⟩ :: l.drop i) := Lib.hid (with_no HS.out HAt.out HF.out.symm)
      obtain ⟨ab, hab⟩ : ∃ ab, ab = (if c = i then some (⟨b, off, none⟩ : Addr) else some ⟨b, off + i * 4, none⟩) := ⟨_, rfl⟩
      have HIB : Hid (InL w1 ab (n - i) (c - i) (l.drop i)) := Lib.hid (by
        rw [hab]
        split
        · rename_i e
          have e2 : n - i = 0 := by omega
          rw [e2, List.drop_of_length_le (by omega)]
          exact InL.nilAt _ _ _ (by intro e; cases e)
        · exact HI1.out.drop i (by omega) _ _ _ rfl rfl (by omega))
      have HAB := Lib.hid hab
      clear hab
      go_upto_region 6 with fail
      rw [← HAB.out]
      have CC := Lib.hid (cat_world w1 ⟨vip, first, dip, T⟩ (l.take i) (l.drop i) _ _ _ _ _ _ HIT.out HIB.out HTX.out (by omega) (by omega))
      obtain ⟨a0, a1, a2, a3⟩ := HA1.out
      have hS0 : w1.drew.cell? ⟨q + 1, 0, none⟩ = some (.int .u32 vip) ∧ w1.drew.cell? ⟨q + 1, 0 + 1, none⟩ = some (.int .i64 first) ∧ w1.drew.cell? ⟨q + 1, 0 + 2, none⟩ = some (.int .u32 dip) ∧ w1.drew.cell? ⟨q + 1, 0 + 3, none⟩ = some (.int .i64 T) := ⟨a0, a1, a2, a3⟩
      have hS1 := keep4 hS0 (bl_al (Below.refl w1.heap.size w1) (.cells #[.int .u32 vip, .int .i64 first, .int .u32 dip, .int .i64 T] tyL)).drew
      have hS2 := keep4 hS0 (bl_al (bl_al (Below.refl w1.heap.size w1) (.cells #[.int .u32 vip, .int .i64 first, .int .u32 dip, .int .i64 T] tyL)) (.cells #[.slice (some ⟨b, off, none⟩) i c, .slice (some ⟨w1.heap.size, 0, none⟩) 1 1, .slice ab (n - i) (c - i)] 22)).drew
      go_region_held3 (fun wx => wx.cell? ⟨q + 1, 0, none⟩ = some (.int .u32 vip) ∧ wx.cell? ⟨q + 1, 0 + 1, none⟩ = some (.int .i64 first) ∧ wx.cell? ⟨q + 1, 0 + 2, none⟩ = some (.int .u32 dip) ∧ wx.cell? ⟨q + 1, 0 + 3, none⟩ = some (.int .i64 T)) (first | (with_reducible exact hS0) | (with_reducible exact hS1) | (with_reducible exact hS2) | (with_reducible exact hS3) | (with_reducible exact set4 hS3) | (with_reducible assumption) | fail)
        (first | (go_at_call 56; (with_reducible refine (CC.out).mono ?_); rintro e w5 ⟨⟨v5, rfl, hK5⟩, hb5⟩; have hS3 := keep4 hS0 hb5; obtain ⟨k0, k1, k2, k3, f0, f1, f2, f3⟩ := cells4 ((hb5.block q HQL.out).trans HQ1.out)) | fail)
      all_goals
        have HF1 : Hid (BxL w5 q ls0) := Lib.hid ((hb5.block q HQL.out).trans HQ1.out)
        have HW5 := Lib.hid (And.intro hK5 hb5)
        clear hS0 hS1 hS2 hS3 k0 k1 k2 k3 f0 f1 f2 f3 hb5 hK5 a0 a1 a2 a3
        obtain ⟨e0, e1, e2, e3⟩ := (stL_bx HF1.out ⟨vip, first, dip, T⟩).at
        obtain ⟨w6, hw6⟩ : ∃ w6, w6 = stL w5 q ⟨vip, first, dip, T⟩ := ⟨_, rfl⟩
        rw [← hw6] at e0 e1 e2 e3
        rw [show (((w5.setCell ⟨q, 0, none⟩ (.int .u32 vip)).setCell ⟨q, 1, none⟩ (.int .i64 first)).setCell ⟨q, 2, none⟩ (.int .u32 dip)).setCell ⟨q, 3, none⟩ (.int .i64 T) = w6 from hw6.symm]
        have HR : Hid (PkL w.heap.size w6 v5 (withL ⟨vip, first, dip, T⟩ l) ∧ Below w.heap.size w w6) := Lib.hid (by
          rw [hw6, HE.out]
          exact ⟨own_base (own_stL HW5.out.1 (by have := HQL.out; omega) _) (by have := HB1.out.size; omega), bl_stL (bl_tr HB1.out HW5.out.2) (by rw [HQ.out]; exact Nat.le_refl _) _⟩)
        clear hw6 HW5
        go_wp2
        refine bodyPost_ret (v := .tuple #[v5, .agg #[.int .u32 vip, .int .i64 first, .int .u32 dip, .int .i64 T]]) (by simp [results, Tryd.results32, go_sem, e0, e1, e2, e3]) rfl ?_
        exact ⟨⟨v5, rfl, HR.out.1⟩, HR.out.2⟩
    | true =>
      have hy := with_yes HS.out HAt.out HF.out.symm
      have HE := Lib.hid hy.2
      have i3 : (i : Int) < (n : Int) := by have := hy.1; omega
      have i4 : (i : Int) < (c : Int) := by omega
      have i5 : i < c := by omega
      obtain ⟨ab, hab⟩ : ∃ ab, ab = (if c - i = 1 then some (⟨b, off + i * 4, none⟩ : Addr) else some ⟨b, off + i * 4 + 4, none⟩) := ⟨_, rfl⟩
      have HIB : Hid (InL w1 ab (n - i - 1) (c - i - 1) (l.drop (i + 1))) := Lib.hid (by
        rw [hab]
        split
        · rename_i e
          have e2 : n - i - 1 = 0 := by omega
          rw [e2, List.drop_of_length_le (by omega)]
          exact InL.nilAt _ _ _ (by intro e; cases e)
        · exact HI1.out.drop (i + 1) (by omega) _ _ _ (by omega) (by omega) (by omega))
      have HAB := Lib.hid hab
      clear hab hy
      go_upto_region 6 with fail
      rw [← HAB.out]
      have CC := Lib.hid (cat_world w1 ⟨vip, first, dip, T⟩ (l.take i) (l.drop (i + 1)) _ _ _ _ _ _ HIT.out HIB.out HTX.out (by omega) (by omega))
      obtain ⟨a0, a1, a2, a3⟩ := HA1.out
      have hS0 : w1.drew.cell? ⟨q + 1, 0, none⟩ = some (.int .u32 vip) ∧ w1.drew.cell? ⟨q + 1, 0 + 1, none⟩ = some (.int .i64 first) ∧ w1.drew.cell? ⟨q + 1, 0 + 2, none⟩ = some (.int .u32 dip) ∧ w1.drew.cell? ⟨q + 1, 0 + 3, none⟩ = some (.int .i64 T) := ⟨a0, a1, a2, a3⟩
      have hS1 := keep4 hS0 (bl_al (Below.refl w1.heap.size w1) (.cells #[.int .u32 vip, .int .i64 first, .int .u32 dip, .int .i64 T] tyL)).drew
      have hS2 := keep4 hS0 (bl_al (bl_al (Below.refl w1.heap.size w1) (.cells #[.int .u32 vip, .int .i64 first, .int .u32 dip, .int .i64 T] tyL)) (.cells #[.slice (some ⟨b, off, none⟩) i c, .slice (some ⟨w1.heap.size, 0, none⟩) 1 1, .slice ab (n - i - 1) (c - i - 1)] 22)).drew
      go_region_held3 (fun wx => wx.cell? ⟨q + 1, 0, none⟩ = some (.int .u32 vip) ∧ wx.cell? ⟨q + 1, 0 + 1, none⟩ = some (.int .i64 first) ∧ wx.cell? ⟨q + 1, 0 + 2, none⟩ = some (.int .u32 dip) ∧ wx.cell? ⟨q + 1, 0 + 3, none⟩ = some (.int .i64 T)) (first | (with_reducible exact hS0) | (with_reducible exact hS1) | (with_reducible exact hS2) | (with_reducible exact hS3) | (with_reducible exact set4 hS3) | (with_reducible assumption) | fail)
        (first | (go_at_call 56; (with_reducible refine (CC.out).mono ?_); rintro e w5 ⟨⟨v5, rfl, hK5⟩, hb5⟩; have hS3 := keep4 hS0 hb5; obtain ⟨k0, k1, k2, k3, f0, f1, f2, f3⟩ := cells4 ((hb5.block q HQL.out).trans HQ1.out)) | fail)
      all_goals
        have HF1 : Hid (BxL w5 q ls0) := Lib.hid ((hb5.block q HQL.out).trans HQ1.out)
        have HW5 := Lib.hid (And.intro hK5 hb5)
        clear hS0 hS1 hS2 hS3 k0 k1 k2 k3 f0 f1 f2 f3 hb5 hK5 a0 a1 a2 a3
        obtain ⟨e0, e1, e2, e3⟩ := (stL_bx HF1.out ⟨vip, first, dip, T⟩).at
        obtain ⟨w6, hw6⟩ : ∃ w6, w6 = stL w5 q ⟨vip, first, dip, T⟩ := ⟨_, rfl⟩
        rw [← hw6] at e0 e1 e2 e3
        rw [show (((w5.setCell ⟨q, 0, none⟩ (.int .u32 vip)).setCell ⟨q, 1, none⟩ (.int .i64 first)).setCell ⟨q, 2, none⟩ (.int .u32 dip)).setCell ⟨q, 3, none⟩ (.int .i64 T) = w6 from hw6.symm]
        have HR : Hid (PkL w.heap.size w6 v5 (withL ⟨vip, first, dip, T⟩ l) ∧ Below w.heap.size w w6) := Lib.hid (by
          rw [hw6, HE.out]
          exact ⟨own_base (own_stL HW5.out.1 (by have := HQL.out; omega) _) (by have := HB1.out.size; omega), bl_stL (bl_tr HB1.out HW5.out.2) (by rw [HQ.out]; exact Nat.le_refl _) _⟩)
        clear hw6 HW5
        go_wp2
        refine bodyPost_ret (v := .tuple #[v5, .agg #[.int .u32 vip, .int .i64 first, .int .u32 dip, .int .i64 T]]) (by simp [results, Tryd.results32, go_sem, e0, e1, e2, e3]) rfl ?_
        exact ⟨⟨v5, rfl, HR.out.1⟩, HR.out.2⟩
end Go.Proofs.YtanajblldlgalaaDoor
