/- The closure of Owners, and where the search ends. Conditions: as each states. The program's Owners. Condition: the ring is the program's. -/
import Derived.Test.YtkacbeighaccjaaRdR
import Derived.Test.YtkacbeighaccjaaRdY
import Derived.Test.YtkacbeighaccjaaQStep
namespace Go.Proofs.Ytkacbeighaccjaa
open Go Go.RowKit
set_option linter.unusedVariables false
set_option linter.unusedSimpArgs false

set_option maxRecDepth 100000 in
theorem from_c (S : List Wy) (key : Int) (r q b off n cp i : Nat) (w : World) (c0 : w.cell? ⟨q, 0, none⟩ = some (.pointer (some ⟨r, 0, none⟩))) (c1 : w.cell? ⟨q + 1, 0, none⟩ = some (.int .u64 key)) (c2 : w.cell? ⟨r, 2, none⟩ = some (.slice (some ⟨b, off, none⟩) n cp)) (hS : InP w (some ⟨b, off, none⟩) n S) (hi : i < n) :
    Calls Try.prog 40 #[.int .i64 i, .pointer (some ⟨q, 0, none⟩), .pointer (some ⟨q + 1, 0, none⟩)] w fun e w' => e = .returned (.bool (decide (key ≤ (S.getD i (0, 0)).1))) ∧ ∃ k, w' = w.drewN k := by
  have c3 := (hS.cell hi).1
  have ii : (i : Int) < (n : Int) := by omega
  have i0 : (0 : Int) ≤ (i : Int) := by omega
  obtain ⟨x, hx⟩ : ∃ x, x = (S.getD i (0, 0)).1 := ⟨_, rfl⟩
  rw [← hx] at c3 ⊢
  clear hS hx
  go_enter Try.func40, Try.ntmps40
  go_wp2
  go_quiet (fail)
  go_wp2
  go_ret
  exact ⟨rfl, _, rfl⟩
theorem count_range (S : List Wy) (f : Wy → Bool) : (List.range S.length).countP (fun i => f (S.getD i (0, 0))) = S.countP f := by
  have h : S = (List.range S.length).map (fun i => S.getD i (0, 0)) := by
    apply List.ext_getElem
    · simp
    · intro i h1 h2
      simp only [List.getElem_map, List.getElem_range]
      rw [List.getD_eq_getElem?_getD, List.getElem?_eq_getElem h1]
      rfl
  conv => rhs; rw [h]
  rw [List.countP_map]
  rfl
theorem first_c (S : List Wy) (key : Int) (r q n cp : Nat) (ap : Option Addr) (w : World) (c0 : w.cell? ⟨q, 0, none⟩ = some (.pointer (some ⟨r, 0, none⟩))) (c1 : w.cell? ⟨q + 1, 0, none⟩ = some (.int .u64 key)) (c2 : w.cell? ⟨r, 2, none⟩ = some (.slice ap n cp)) (hS : InP w ap n S) (hs : S.Pairwise leW) (hn : n ≤ 8192) :
    Calls Try.prog 39 #[.int .i64 n, .func (.func 40) #[] #[.pointer (some ⟨q, 0, none⟩), .pointer (some ⟨q + 1, 0, none⟩)]] w fun e w' => e = .returned (.int .i64 (lowP key S : Nat)) ∧ Below w.heap.size w w' := by
  have eg : ∀ args w, (callFunc 40 args).run Try.prog w = .ok (.enter 40 args) w := enters_of Try.func40 (by kernel_rfl) rfl
  have hl := hS.len
  have hq0 := block_lt_of_cell c0
  have hq1 := block_lt_of_cell c1
  have hr := block_lt_of_cell c2
  have h := Any.sort_Search Try.search 40 #[.pointer (some ⟨q, 0, none⟩), .pointer (some ⟨q + 1, 0, none⟩)] n (fun i => decide (key ≤ (S.getD i (0, 0)).1)) w eg (by omega) ?_ ?_
  · refine h.mono ?_
    rintro e w' ⟨rfl, m, os, rfl⟩
    refine ⟨?_, below_grown_sl _ _ _ _ (Nat.le_refl _)⟩
    have hc := count_range S (fun p => !decide (key ≤ p.1))
    rw [hl] at hc
    rw [hc]
    rfl
  · intro m os i hi
    have hb : Below w.heap.size w (Sort.grow (w.drewN m) os) := below_grown_sl _ _ _ _ (Nat.le_refl _)
    obtain ⟨b, off, rfl⟩ := hS.block (by omega)
    have hc := from_c S key r q b off n cp i (Sort.grow (w.drewN m) os) ((hb.cell (p := ⟨q, 0, none⟩) hq0).trans c0) ((hb.cell (p := ⟨q + 1, 0, none⟩) hq1).trans c1) ((hb.cell (p := ⟨r, 2, none⟩) hr).trans c2) (hS.below hb) hi
    refine hc.mono ?_
    rintro e w' ⟨rfl, k, rfl⟩
    exact ⟨rfl, k, #[], by rw [Sort.grow_empty]⟩
  · intro a b hab hb ha
    simp only [decide_eq_true_eq] at *
    by_cases e : a = b
    · rw [← e]; exact ha
    · have h1 := (List.pairwise_iff_getElem.1 hs) a b (by omega) (by omega) (by omega)
      have g : ∀ i (h : i < S.length), S.getD i (0, 0) = S[i] := fun i h => by rw [List.getD_eq_getElem?_getD, List.getElem?_eq_getElem h]; rfl
      rw [g a (by omega)] at ha
      rw [g b (by omega)]
      unfold leW at h1
      omega
end Go.Proofs.Ytkacbeighaccjaa
namespace Go.Proofs.Ytkacbeighaccjaa
open Go Go.RowKit
set_option linter.unusedVariables false
set_option linter.unusedSimpArgs false

theorem getD_take' (S : List Wy) {j K : Nat} (h : j < K) : (S.take K).getD j (0, 0) = S.getD j (0, 0) := by rw [List.getD_eq_getElem?_getD, List.getElem?_take, if_pos h, ← List.getD_eq_getElem?_getD]
theorem getD_drop' (S : List Wy) (j K : Nat) : (S.drop K).getD j (0, 0) = S.getD (K + j) (0, 0) := by rw [List.getD_eq_getElem?_getD, List.getElem?_drop, ← List.getD_eq_getElem?_getD]
theorem InP.take {w : World} {g n K : Nat} {S : List Wy} (h : InP w (some ⟨g, 0, none⟩) n S) (hK : K ≤ n) : InP w (some ⟨g, 0, none⟩) K (S.take K) := by
  have hl := h.len
  refine ⟨by rw [List.length_take]; omega, .inr ⟨g, 0, rfl, fun j hj => ?_⟩⟩
  have hj2 : j < K := by rw [List.length_take] at hj; omega
  rw [getD_take' S hj2]
  exact h.cell (by omega)
theorem InP.drop {w : World} {g n K c : Nat} {S : List Wy} (h : InP w (some ⟨g, 0, none⟩) n S) (hc : n ≤ c) (hK : K ≤ n) : InP w (if c = K then some ⟨g, 0, none⟩ else some ⟨g, K * 2, none⟩) (n - K) (S.drop K) := by
  have hl := h.len
  have hd : (S.drop K).length = n - K := by rw [List.length_drop, hl]
  refine ⟨hd, ?_⟩
  by_cases q : c = K
  · exact .inl (List.eq_nil_of_length_eq_zero (by omega))
  · rw [if_neg q]
    refine .inr ⟨g, K * 2, rfl, fun j hj => ?_⟩
    rw [getD_drop' S j K]
    have := h.cell (j := K + j) (by omega)
    rw [show 0 + (K + j) * 2 = K * 2 + j * 2 by omega] at this
    exact this
theorem InP.take0 {w : World} {a b : Option Addr} {S : List Wy} (h : InP w a 0 S) : InP w b 0 (S.take 0) := ⟨rfl, .inl rfl⟩
theorem InP.drop0 {w : World} {a b : Option Addr} {S : List Wy} (h : InP w a 0 S) : InP w b (0 - 0) (S.drop 0) := ⟨by rw [List.drop_zero]; exact h.len, .inl (by rw [List.drop_zero]; exact List.eq_nil_of_length_eq_zero h.len)⟩
/-- The members of the first t points. -/
def mT (T : List Wy) (t : Nat) : List Int := firsts ((T.take t).map (·.2))
theorem mT_zero (T : List Wy) : mT T 0 = [] := rfl
theorem mT_step {T : List Wy} {t : Nat} (ht : t < T.length) : mT T (t + 1) = if (mT T t).contains (T.getD t (0, 0)).2 then mT T t else mT T t ++ [(T.getD t (0, 0)).2] := by
  unfold mT
  rw [take_more T (0, 0) ht, List.map_append]
  exact firsts_more _ _
/-- What the loop over points keeps: owners so far, no more than asked. -/
structure OwS (W wr : World) (T : List Wy) (lim : Int) (t : Nat) (ov : Value) (N : Nat) : Prop where
  own : wr.ownsRow W.heap.size 3 1 ov N (i64s (mT T t))
  lim : (N : Int) ≤ lim ∨ N = 0
  bel : Below W.heap.size W wr
theorem OwS.len {W wr : World} {T : List Wy} {lim : Int} {t : Nat} {ov : Value} {N : Nat} (h : OwS W wr T lim t ov N) : (mT T t).length = N := by have := h.own.1; rw [i64s_len] at this; omega
theorem own_end {P : Nat} {ms : List Int} {key Nn lim : Int} {T : List Wy} {t N : Nat} (hP : 0 < P) (hn : ms.Nodup) (hT : ownR P ms key = mT T T.length) (hN : (mT T t).length = N) (hl : (N : Int) ≤ lim ∨ N = 0) (hm : lim = min Nn (ms.length : Int)) (he : lim ≤ N ∨ t = T.length) :
    (ownR P ms key).take Nn.toNat = mT T t := by
  have hlen := ownR_len hP hn key
  have h1 : (mT T T.length).take N = mT T t := by
    have := firsts_take (T.map (·.2)) t
    unfold mT at hN ⊢
    rw [List.take_length, ← hN, List.map_take]
    exact this
  rw [hT] at hlen ⊢
  have hle : N ≤ ms.length := by
    have := congrArg List.length h1
    rw [List.length_take, hN] at this
    omega
  rcases he with he | he
  · by_cases q : Nn ≤ (ms.length : Int)
    · rw [show Nn.toNat = N by omega]; exact h1
    · have : N = ms.length := by omega
      rw [List.take_of_length_le (by omega), ← h1, List.take_of_length_le (by omega)]
  · subst he
    rw [List.take_of_length_le (by omega)]
theorem OwS.start {W w1 : World} {T : List Wy} {lim : Int} (hb : Below W.heap.size W w1) : OwS W w1 T lim 0 (.slice none 0 0) 0 := ⟨⟨rfl, .inl ⟨rfl, rfl⟩⟩, .inr rfl, hb⟩
theorem OwS.keep {W wr w3 : World} {T : List Wy} {lim : Int} {t N : Nat} {ov : Value} (h : OwS W wr T lim t ov N) (hb : Below wr.heap.size wr w3) : OwS W w3 T lim t ov N := ⟨owns_bel h.own hb, h.lim, h.bel.trans (hb.mono h.bel.size)⟩
theorem OwS.got {w W wr : World} {T : List Wy} {lim : Int} {t N : Nat} {ao : Option Addr} {co : Nat} {O : List Int} (h : OwS W wr T lim t (.slice ao N co) N) (hb : Below w.heap.size w W) (hE : O = mT T t) : GotB w O (.returned (.slice ao N co)) wr := by
  have hl := h.len
  rw [hE]
  exact ⟨ao, co, by rw [hl], by rw [hl]; exact own_base h.own hb.size, hb.trans (h.bel.mono hb.size)⟩
/-- A part of the points: gone over from the t0-th on. -/
structure PrT (W : World) (T : List Wy) (t0 t1 : Nat) (A : Option Addr) (k : Nat) (l : List Wy) : Prop where
  row : ∀ X, Below W.heap.size W X → InP X A k l
  at' : ∀ j, j < k → T.getD (t0 + j) (0, 0) = l.getD j (0, 0)
  till : t0 + k = t1
  le : t1 ≤ T.length
def offT (n K i : Nat) : Nat := if i = 0 then 0 else if i = 1 then n - K else n
theorem idx0 (x0 x1 : Value) (w : World) : (Instr.index 81 (.agg #[x0, x1]) (.int .i64 0)).run Try.prog w = .ok x0 w := by kernel_rfl
theorem idx1 (x0 x1 : Value) (w : World) : (Instr.index 81 (.agg #[x0, x1]) (.int .i64 1)).run Try.prog w = .ok x1 w := by kernel_rfl
theorem part_at {W : World} {S : List Wy} {n K C1 C2 : Nat} {A1 A2 : Option Addr} (hS : S.length = n) (hK : K ≤ n) (h2 : ∀ X, Below W.heap.size W X → InP X A2 (n - K) (S.drop K)) (h1 : ∀ X, Below W.heap.size W X → InP X A1 K (S.take K)) {i : Nat} (hi : i < 2) :
    ∃ A C k l, (∀ V, (Instr.index 81 (.agg #[.slice A2 (n - K) C2, .slice A1 K C1]) (.int .i64 i)).run Try.prog V = .ok (.slice A k C) V) ∧ PrT W (rotP K S) (offT n K i) (offT n K (i + 1)) A k l ∧ k ≤ n := by
  have hl := rotP_len K S
  have hd : (S.drop K).length = n - K := by rw [List.length_drop, hS]
  rcases (by omega : i = 0 ∨ i = 1) with rfl | rfl
  · refine ⟨A2, C2, n - K, S.drop K, fun V => idx0 _ _ V, ⟨h2, fun j hj => ?_, ?_, ?_⟩, Nat.sub_le _ _⟩
    · unfold rotP offT
      rw [if_pos rfl, Nat.zero_add, List.getD_eq_getElem?_getD, List.getElem?_append_left (by omega), ← List.getD_eq_getElem?_getD]
    · simp [offT]
    · simp only [offT]; rw [hl, hS]; simp
  · refine ⟨A1, C1, K, S.take K, fun V => idx1 _ _ V, ⟨h1, fun j hj => ?_, ?_, ?_⟩, hK⟩
    · unfold rotP offT
      rw [if_neg (by decide), if_pos rfl, List.getD_eq_getElem?_getD, List.getElem?_append_right (by omega), hd, Nat.add_sub_cancel_left, ← List.getD_eq_getElem?_getD]
    · simp [offT]; omega
    · simp only [offT]; rw [hl, hS]; simp
set_option maxRecDepth 100000 in
set_option maxHeartbeats 4000000 in
theorem rowners_t (r P : Nat) (ms : List Int) (key Nn : Int) (w : World) (h : RSt w r P ms) (hk : 0 ≤ key ∧ key < 18446744073709551616) (hN : -9223372036854775808 ≤ Nn ∧ Nn ≤ 9223372036854775807) :
    Calls Try.prog 23 #[.pointer (some ⟨r, 0, none⟩), .int .u64 key, .int .i64 Nn] w (GotB w ((ownR P ms key).take Nn.toNat)) := by
  obtain ⟨i0, hi0, hz0, hz1, hz2⟩ := info_parts info3
  obtain ⟨W, hW, c0, c1, hb, hsz⟩ := own_boxes w (.pointer (some ⟨r, 0, none⟩)) key
  have hR := h.below hb
  obtain ⟨am, cm, m1, _⟩ := hR.mem
  obtain ⟨ap, cp, S, m2, hcp, hpl, hS, hperm, hsrt⟩ := hR.pt
  obtain ⟨nm, hnm⟩ : ∃ nm, nm = ms.length := ⟨_, rfl⟩
  have hnm64 : nm ≤ 64 := by have := h.ok.1; omega
  obtain ⟨n, hn⟩ : ∃ n, n = ms.length * P := ⟨_, rfl⟩
  have hn8 : n ≤ 8192 := by rw [hn]; exact Nat.le_trans (Nat.mul_le_mul h.ok.1 h.hP.2) (by decide)
  rw [← hnm] at m1
  rw [← hn] at m2 hcp hS
  obtain ⟨K, hK⟩ : ∃ K, K = lowP key S := ⟨_, rfl⟩
  have hKn : K ≤ n := by rw [hK, ← hS.len]; exact low_le _ _
  have hT : ownR P ms key = mT (rotP K S) (rotP K S).length := by
    rw [← ownR_of_perm (srtI_perm ms), own_rot hk hperm hsrt, ← hK]
    unfold mT
    rw [List.take_length]
  obtain ⟨q, hq⟩ : ∃ q, q = w.heap.size := ⟨_, rfl⟩
  rw [← hq] at c0 c1
  have CS := Lib.hid (first_c S key r q n cp ap W c0 c1 m2 hS hsrt hn8)
  rw [← hK] at CS
  obtain ⟨lim, hlim⟩ : ∃ lim : Int, lim = min Nn (nm : Int) := ⟨_, rfl⟩
  have hmn : ∀ (ts : Array TypeId) (ty : TypeId) (V : World), (Builtin.min_ ts ty #[.int .i64 Nn, .int .i64 (nm : Int)]).run Try.prog V = .ok (.int .i64 lim) V := by
    intro ts ty V
    rw [run_min_int2]
    congr 2
    split <;> omega
  have HEnd := Lib.hid (fun (t N : Nat) (h1 : (mT (rotP K S) t).length = N) (h2 : (N : Int) ≤ lim ∨ N = 0) (h3 : lim ≤ N ∨ t = (rotP K S).length) => own_end (T := rotP K S) (lim := lim) (Nn := Nn) h.hP.1 h.ok.2.1 hT h1 h2 (by rw [hlim, hnm]) h3)
  have HSn := Lib.hid hS
  have HSL := Lib.hid hS.len
  have HC := Lib.hid (And.intro c0 (And.intro c1 (And.intro m1 m2)))
  have HB := Lib.hid hb
  have HW := Lib.hid (And.intro hW hq)
  have HMN := Lib.hid hmn
  have HFit : Hid (∀ t, fitI (mT (rotP K S) t)) := Lib.hid (fun t x hx => by
    unfold mT at hx
    have h1 := mem_firsts.1 hx
    obtain ⟨p, hp, rfl⟩ := List.mem_map.1 h1
    have h2 := hperm.mem_iff.1 ((rotP_perm K S).mem_iff.1 (List.mem_of_mem_take hp))
    unfold pts at h2
    obtain ⟨m, hm, h3⟩ := List.mem_flatMap.1 h2
    unfold ptsM at h3
    obtain ⟨j, _, rfl⟩ := List.mem_map.1 h3
    have := h.ok.2.2 m ((srtI_perm ms).mem_iff.1 hm)
    simp only
    omega)
  have hlim64 : lim ≤ 64 := by omega
  have hlimlo : -9223372036854775808 ≤ lim := by omega
  clear h hk hW hb hsz hR hS hperm hsrt hnm hn hT hq hK hlim hmn
  go_enter Try.func23, Try.ntmps23
  go_upto_region 1 with fail
  rw [HW.out.1, ← HW.out.2]
  go_wp2
  go_step3
  go_wp2_with fail
  refine CS.out.mono ?_
  rintro e w1 ⟨rfl, hb1⟩
  have HB1 := Lib.hid hb1
  have d0 := (hb1.cell (p := ⟨q, 0, none⟩) (block_lt_of_cell HC.out.1)).trans HC.out.1
  have d2 := (hb1.cell (p := ⟨r, 2, none⟩) (block_lt_of_cell HC.out.2.2.2)).trans HC.out.2.2.2
  clear hb1 CS c0 c1 m1 m2
  go_wp2
  go_step3
  go_upto_region 5 with fail
  go_cut [34, 35] from 22 to 35 (fun pv iv wx => iv = .int .i64 0 ∧ ∃ A2 C2 A1 C1, pv = .agg #[.slice A2 (n - K) C2, .slice A1 K C1] ∧ Hid (∀ X, Below W.heap.size W X → InP X A2 (n - K) (S.drop K)) ∧ Hid (∀ X, Below W.heap.size W X → InP X A1 K (S.take K)) ∧ Hid (Below W.heap.size W wx))
  case first =>
    have k0 : (0 : Int) ≤ (K : Int) := by omega
    have k1 : (K : Int) ≤ (n : Int) := by omega
    have k2 : (n : Int) ≤ (cp : Int) := by omega
    rcases hpl with ⟨rfl, rfl⟩ | ⟨g, rfl⟩
    · obtain rfl : n = 0 := by omega
      obtain rfl : K = 0 := by omega
      clear k0 k1 k2
      go_quiet (fail)
      go_wp2_with fail
      go_meet
      exact ⟨rfl, none, 0, none, 0, rfl, Lib.hid (fun X hb => (HSn.out.below hb).drop0), Lib.hid (fun X hb => (HSn.out.below hb).take0), Lib.hid (below_drewN' HB1.out nq)⟩
    · by_cases hck : cp = K
      · subst hck
        obtain rfl : n = cp := by omega
        have hD := Lib.hid (fun (X : World) (hb : Below W.heap.size W X) => (HSn.out.below hb).drop (c := n) (K := n) (Nat.le_refl _) (Nat.le_refl _))
        simp only [if_true] at hD
        go_quiet (fail)
        go_wp2_with fail
        go_meet
        exact ⟨rfl, some ⟨g, 0, none⟩, 0, some ⟨g, 0, none⟩, n, by rw [Nat.sub_self], hD, Lib.hid (fun X hb => (HSn.out.below hb).take hKn), Lib.hid (below_drewN' HB1.out nq)⟩
      · have hD := Lib.hid (fun (X : World) (hb : Below W.heap.size W X) => (HSn.out.below hb).drop hcp hKn)
        simp only [if_neg hck] at hD
        go_quiet (fail)
        go_wp2_with fail
        go_meet
        exact ⟨rfl, _, _, _, _, rfl, hD, Lib.hid (fun X hb => (HSn.out.below hb).take hKn), Lib.hid (below_drewN' HB1.out nq)⟩
  case rest =>
    obtain ⟨rfl, A2, C2, A1, C1, rfl, HI2, HI1, HB2⟩ := hcut
    have L0 : Hid (OwS W wc (rotP K S) lim (offT n K 0) (.slice none 0 0) 0) := Lib.hid (OwS.start HB2.out)
    obtain ⟨w2, hw2⟩ : ∃ v, v = wc := ⟨_, rfl⟩
    have HPart := Lib.hid (fun (i : Nat) (hi : i < 2) => part_at (C1 := C1) (C2 := C2) HSL.out hKn HI2.out HI1.out hi)
    obtain ⟨X34, hX34⟩ : ∃ x : Value, x = .agg #[.slice A2 (n - K) C2, .slice A1 K C1] := ⟨_, rfl⟩
    rw [← hX34] at HPart ⊢
    have HTL : Hid (offT n K 2 = (rotP K S).length) := Lib.hid (by rw [rotP_len, HSL.out]; rfl)
    clear hX34 HI2 HI1 HB2 HB1 d0 d2 hcp hpl HSn HSL hKn
    go_wp2
    go_loopg [8, 35] 2 (fun g ov iv wr => ∃ (i N : Nat), i + g = 2 ∧ iv = .int .i64 i ∧ N ≤ 64 ∧ Hid (OwS W wr (rotP K S) lim (offT n K i) ov N))
    case atStart => exact ⟨0, 0, rfl, rfl, by omega, L0⟩
    case round =>
      obtain ⟨i, N, hig, rfl, hN64, HO⟩ := hrel
      clear L0 hw2
      cases gk with
      | zero =>
        have i2 : ¬ (i : Int) < 2 := by omega
        obtain rfl : i = 2 := by omega
        obtain ⟨ao, co, hov⟩ := own_form HO.out.own
        subst hov
        have HG := Lib.hid (HO.out.got HB.out (HEnd.out _ _ HO.out.len HO.out.lim (.inr HTL.out)))
        go_wp2
        try rw [Exit.noGoto_ret]
        go_ret
        exact HG.out
      | succ g =>
        have i2 : (i : Int) < 2 := by omega
        have i0' : (0 : Int) ≤ (i : Int) := by omega
        obtain ⟨A, C, k, l, hidx, hPr, hkn⟩ := HPart.out i (by omega)
        have HPr := Lib.hid hPr
        have HT0 : Hid (OwS W wr (rotP K S) lim (offT n K i + 0) u8 N) := Lib.hid HO.out
        clear hPr HO
        go_wp2
        obtain ⟨t0, ht0⟩ : ∃ t0, t0 = offT n K i := ⟨_, rfl⟩
        rw [← ht0] at HT0 HPr
        clear hidx ht0
        go_loopg [8, 40] k (fun g ov jv wr => ∃ (j N : Nat), j + g = k ∧ jv = .int .i64 j ∧ N ≤ 64 ∧ Hid (OwS W wr (rotP K S) lim (t0 + j) ov N))
        case atStart => exact ⟨0, N, by omega, rfl, hN64, HT0⟩
        case round =>
          clear hN64
          obtain ⟨j, N, hjg, rfl, hN64, HO⟩ := hrel
          clear HT0
          cases gk with
          | zero =>
            obtain rfl : j = k := by omega
            have jj : ¬ (j : Int) < (j : Int) := by omega
            rw [HPr.out.till] at HO
            go_wp2
            go_roundg g
            case measure => omega
            case rel => exact ⟨i + 1, N, by omega, by go_num, hN64, HO⟩
          | succ g2 =>
            have jj : (j : Int) < (k : Int) := by omega
            have j0 : (0 : Int) ≤ (j : Int) := by omega
            have HPt := HPr.out.row _ HO.out.bel
            obtain ⟨pb, po, rfl⟩ := HPt.block (by omega)
            obtain ⟨e0, e1⟩ := HPt.cell (j := j) (by omega)
            have hat := HPr.out.at' j (by omega)
            have htl : t0 + j < (rotP K S).length := by have := HPr.out.till; have := HPr.out.le; omega
            have HST := Lib.hid (mT_step htl)
            rw [hat] at HST
            obtain ⟨x, hx⟩ : ∃ x, x = (l.getD j (0, 0)).1 := ⟨_, rfl⟩
            obtain ⟨m, hm⟩ : ∃ m, m = (l.getD j (0, 0)).2 := ⟨_, rfl⟩
            rw [← hx] at e0
            rw [← hm] at e1 HST
            obtain ⟨w3, hw3⟩ : ∃ w3, w3 = wr.alloc (.cells #[.int .u64 x, .int .i64 m] 79) := ⟨_, rfl⟩
            obtain ⟨b3, hb3⟩ : ∃ b3, b3 = wr.heap.size := ⟨_, rfl⟩
            have hbl : Below wr.heap.size wr w3 := by rw [hw3]; exact bl_al (Below.refl _ _) _
            have n1 : w3.cell? ⟨b3, 1, none⟩ = some (.int .i64 m) := by rw [hw3, hb3]; simp [go_sem]
            have HO3 := Lib.hid (HO.out.keep hbl)
            have f0 := (HO3.out.bel.cell (p := ⟨q, 0, none⟩) (block_lt_of_cell HC.out.1)).trans HC.out.1
            have f1 := (HO3.out.bel.cell (p := ⟨r, 1, none⟩) (block_lt_of_cell HC.out.2.2.1)).trans HC.out.2.2.1
            have HW3 := Lib.hid (And.intro hw3 hb3)
            have hmn := HMN.out
            obtain ⟨ao, co, hov⟩ := own_form HO3.out.own
            subst hov
            clear hw3 hb3 hbl hat HPt hx hm HO
            by_cases hl : lim ≤ (N : Int)
            · have HG := Lib.hid (HO3.out.got HB.out (HEnd.out _ _ HO3.out.len HO3.out.lim (.inl hl)))
              go_upto_region 11 with fail
              rw [show wr.alloc (.cells #[.int .u64 x, .int .i64 m] 79) = w3 from HW3.out.1.symm, ← HW3.out.2]
              clear e0 e1 htl HST
              go_wp2
              try rw [Exit.noGoto_ret]
              go_ret
              exact HG.out
            · have hlm := HO3.out.len
              have hfit : fitI (mT (rotP K S) (t0 + j)) := HFit.out _
              have CT := Lib.hid ((contains_c (mT (rotP K S) (t0 + j)) m ao N co w3 (own_inI HO3.out.own hlm hfit) (by omega)).mono (R' := fun e w' => e = .returned (.bool ((mT (rotP K S) (t0 + j)).contains m)) ∧ w3 = w') (fun e w' h => ⟨h.1, h.2.symm⟩))
              have hjg2 : j + 1 + g2 = k := by omega
              have hNl : (N : Int) + 1 ≤ lim := by omega
              obtain ⟨zb, hzb⟩ : ∃ zb, zb = (mT (rotP K S) (t0 + j)).contains m := ⟨_, rfl⟩
              rw [← hzb] at CT HST
              clear hlm hfit hzb
              go_upto_region 11 with fail
              rw [show wr.alloc (.cells #[.int .u64 x, .int .i64 m] 79) = w3 from HW3.out.1.symm, ← HW3.out.2]
              clear e0 e1 htl
              go_wp2_with fail
              refine CT.out.mono ?_
              rintro e _ ⟨rfl, rfl⟩
              cases zb with
              | true =>
                have HO4 : Hid (OwS W w3 (rotP K S) lim (t0 + (j + 1)) (.slice ao N co) N) := Lib.hid (by
                  have h1 := HO3.out
                  have h2 := HST.out
                  simp only [if_true] at h2
                  exact ⟨by rw [← Nat.add_assoc, h2]; exact h1.own, h1.lim, h1.bel⟩)
                clear HO3 HST CT
                go_wp2
                go_roundg g2
                case measure => omega
                case rel => exact ⟨j + 1, N, hjg2, by go_num, hN64, HO4⟩
              | false =>
                have hsz3 := HO3.out.bel.size
                have HST2 : Hid (i64s (mT (rotP K S) (t0 + j)) ++ [.int .i64 m] = i64s (mT (rotP K S) (t0 + (j + 1)))) := Lib.hid (by
                  have h2 := HST.out
                  simp only [Bool.false_eq_true, if_false] at h2
                  rw [← Nat.add_assoc, h2, ← i64s_app]
                  rfl)
                clear HST CT
                go_wp2_with (at_builtin; refine wpList_append_own _ rfl _ _ 22 rfl W.heap.size 3 i0 (.int .i64 0) 1 8 Try.underlying22 hi0 hz0 hz1 hz2 rfl (by decide) _ _ _ rfl (HO3.out.own.alloc _) ⟨w3.heap.size, 0, none⟩ 1 1 [.int .i64 m] rfl rfl (one_new w3 _ _) ?c1 ?c2 ?c3 ?c4 ?_)
                case c1 => intro u hu; simp at hu; subst hu; rfl
                case c2 => unfold maxLen; omega
                case c3 => omega
                case c4 => simp; omega
                intro v5 w5 ho5 hg5 _
                rw [HST2.out] at ho5
                have HO5 : Hid (OwS W w5 (rotP K S) lim (t0 + (j + 1)) v5 (N + 1)) := Lib.hid ⟨ho5, .inl (by omega), (HO3.out.bel.alloc hsz3 _).grown hg5 (by simp; omega) (fun k hk => own_block HO3.out.own hk)⟩
                clear ho5 hg5 HO3 HST2
                go_wp2
                go_roundg g2
                case measure => omega
                case rel => exact ⟨j + 1, N + 1, hjg2, by go_num, by omega, HO5⟩
end Go.Proofs.Ytkacbeighaccjaa
