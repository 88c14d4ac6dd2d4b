/- The muxes of a listener that have such a session: having. Conditions: those stated. -/
import Derived.Test.YtlmkmbpikhagiaaLiA
import Derived.Test.YtlmkmbpikhagiaaShf
import Derived.Sort.OwnSortedInts
namespace Go.Proofs.Ytlmkmbpikhagiaa
open Go Go.RowKit Go.Maps
set_option linter.unusedVariables false
set_option linter.unusedSimpArgs false

/-- Those that have come and are such. -/
def doneS (left : Lit → Bool) (P : Se → Bool) (l : List Se) : List Int := (l.filter (fun e => !left (kI e.mux) && P e)).map (·.mux)
theorem doneS_start {w : World} {F : Nat → Prop} {B : Nat} {D : DS} {l : List Se} (hs : SrtS l) (h : MR w F B D l) (P : Se → Bool) : doneS (Maps.has D) P l = [] := by
  unfold doneS
  have : l.filter (fun e => !Maps.has D (kI e.mux) && P e) = [] := by
    rw [List.filter_eq_nil_iff]
    intro e he
    rw [h.has, findS_of hs he]
    simp
  rw [this]
  rfl
theorem doneS_end {left : Lit → Bool} {l : List Se} (P : Se → Bool) (h : ∀ k, left k = false) : doneS left P l = (l.filter P).map (·.mux) := by
  unfold doneS
  congr 2
  funext e
  rw [h]
  simp
theorem sameKey_neI {x y : Int} (h : x ≠ y) : (kI x).sameKey (kI y) = false := by
  cases e : (kI x).sameKey (kI y) with
  | false => rfl
  | true => exact absurd (WideAt.sameKey_eq e) (kI_ne h)
theorem left_one (left : Lit → Bool) (x : Int) : (left (kI x) && !(kI x).sameKey (kI x)) = false := by
  rw [WideAt.sameKey_self (isKey x)]
  simp
theorem left_other (left : Lit → Bool) {x k : Int} (h : k ≠ x) : (left (kI k) && !(kI k).sameKey (kI x)) = left (kI k) := by
  rw [sameKey_neI h]
  simp
theorem srt_perm {l : List Se} (hs : SrtS l) {e : Se} (he : e ∈ l) : l.Perm (e :: cutS e.mux l) := by
  induction l with
  | nil => cases he
  | cons x l ih =>
    have h1 := List.pairwise_cons.1 hs
    rcases List.mem_cons.1 he with h | h
    · subst h
      have : cutS e.mux (e :: l) = l := by
        unfold cutS
        rw [List.filter_cons_of_neg (by simp), List.filter_eq_self]
        intro y hy
        have := h1.1 y hy
        simp
        omega
      rw [this]
    · have hne : x.mux ≠ e.mux := by have := h1.1 e h; omega
      have : cutS e.mux (x :: l) = x :: cutS e.mux l := by unfold cutS; rw [List.filter_cons_of_pos (by simp [hne])]
      rw [this]
      exact ((ih h1.2 h).cons x).trans (List.Perm.swap e x _)
theorem doneS_step {left : Lit → Bool} {l : List Se} (hs : SrtS l) (P : Se → Bool) {e : Se} (he : e ∈ l) (hl : left (kI e.mux) = true) :
    (doneS (fun z => left z && !z.sameKey (kI e.mux)) P l).Perm (doneS left P l ++ (if P e then [e.mux] else [])) := by
  have hp := srt_perm hs he
  have h1 : (doneS (fun z => left z && !z.sameKey (kI e.mux)) P l).Perm (doneS (fun z => left z && !z.sameKey (kI e.mux)) P (e :: cutS e.mux l)) := (hp.filter _).map _
  have h2 : (doneS left P l).Perm (doneS left P (e :: cutS e.mux l)) := (hp.filter _).map _
  have h3 : doneS left P (e :: cutS e.mux l) = doneS left P (cutS e.mux l) := by
    unfold doneS
    rw [List.filter_cons_of_neg (by simp [hl])]
  have h4 : doneS (fun z => left z && !z.sameKey (kI e.mux)) P (cutS e.mux l) = doneS left P (cutS e.mux l) := by
    unfold doneS
    congr 1
    apply List.filter_congr
    intro t ht
    have hne : t.mux ≠ e.mux := by
      have := (List.mem_filter.1 ht).2
      simpa using this
    simp only
    rw [left_other left hne]
  rw [h3] at h2
  refine h1.trans (.trans ?_ (h2.symm.append_right _))
  by_cases hc : P e = true
  · rw [if_pos hc]
    have : doneS (fun z => left z && !z.sameKey (kI e.mux)) P (e :: cutS e.mux l) = e.mux :: doneS (fun z => left z && !z.sameKey (kI e.mux)) P (cutS e.mux l) := by
      unfold doneS
      rw [List.filter_cons_of_pos]
      · rfl
      · simp only
        rw [left_one]
        simp [hc]
    rw [this, h4]
    exact (List.perm_append_comm (l₁ := [e.mux])).trans (.refl _)
  · rw [if_neg hc, List.append_nil]
    have : doneS (fun z => left z && !z.sameKey (kI e.mux)) P (e :: cutS e.mux l) = doneS (fun z => left z && !z.sameKey (kI e.mux)) P (cutS e.mux l) := by
      unfold doneS
      rw [List.filter_cons_of_neg]
      simp [hc]
    rw [this, h4]
theorem doneS_len {left : Lit → Bool} {P : Se → Bool} {l : List Se} : (doneS left P l).length ≤ l.length := by
  unfold doneS
  rw [List.length_map]
  exact List.length_filter_le _ _
theorem muxes_srt {l : List Se} (hs : SrtS l) (P : Se → Bool) : ((l.filter P).map (·.mux)).Pairwise (· ≤ ·) := by
  rw [List.pairwise_map]
  exact (hs.sublist List.filter_sublist).imp (fun h => by omega)
/-- Sorting what rises when it is sorted. -/
theorem merge_is {K M : List Int} (hp : K.Perm M) (hm : M.Pairwise (· ≤ ·)) : (K.mergeSort fun x y => decide (x ≤ y)) = M := by
  have h1 := List.pairwise_mergeSort (le := fun x y : Int => decide (x ≤ y)) (fun a b c h1 h2 => by simp at *; omega) (fun a b => by simp; omega) K
  have h2 : (K.mergeSort fun x y => decide (x ≤ y)).Perm M := (List.mergeSort_perm K _).trans hp
  refine List.Perm.eq_of_pairwise (le := fun a b : Int => a ≤ b) (fun a b _ _ h1 h2 => by omega) (h1.imp (fun h => by simpa using h)) hm h2
theorem sortI_c (K M : List Int) (v : Value) (n B : Nat) (w : World) (h : w.ownsRow B tyI 1 v n (i64s K)) (hB : B ≤ w.heap.size) (hn : n ≤ 1048576) (hp : K.Perm M) (hm : M.Pairwise (· ≤ ·)) :
    Calls Try.prog 56 #[v] w fun e w' => e = .returned (.tuple #[]) ∧ w'.ownsRow B tyI 1 v n (i64s M) ∧ Below B w w' := by
  have hl : K.length = n := by have := h.1; unfold i64s at this; simpa using this
  have hlM : M.length = n := by rw [← hp.length_eq]; exact hl
  rcases h.2 with ⟨e0, h0⟩ | ⟨g, cap, cur, rfl, hb, hg, h1, h2, h3, h4⟩
  · subst e0
    subst h0
    have hK : K = [] := List.eq_nil_of_length_eq_zero hl
    have hM : M = [] := List.eq_nil_of_length_eq_zero hlM
    refine (Any.slices_Sort_int_none Try.lays189 none 0 w).mono ?_
    rintro e w' ⟨rfl, rfl⟩
    exact ⟨rfl, by rw [hM, ← hK]; exact h, Below.refl _ _⟩
  · subst hl
    have hc := Any.slices_Sort_int Try.lays189 g 0 cap K w (holds_of_blockI hg (by rw [Nat.mul_one] at h4; exact h4)) (lt_of_block hg) (by omega)
    refine hc.mono ?_
    rintro e w' ⟨rfl, q, os, rfl⟩
    rw [merge_is hp hm]
    exact ⟨rfl, ownsRow_sortedI hlM hb hg h1 h2 h3, (Below.refl B w).grown (grownBy_sortedI _) hB (fun k hk => by cases hk; exact hb)⟩
theorem look_in {w : World} {F : Nat → Prop} {B : Nat} {D : DS} {l : List Se} (hm : MR w F B D l) {k : Int} {x : SV} (hat : ∀ zd, D.atKey (kI k) zd = .held x.v) : ∃ e ∈ l, e.mux = k ∧ RowS w F B x e := by
  cases hf : findS k l with
  | none =>
    have := hm.none_ k hf
    have h1 := hat (.held (Value.bool true))
    rw [atKey_of_not_has this] at h1
    simp only [DataW.held.injEq] at h1
    cases h1
  | some e =>
    obtain ⟨_, y, h2, h3⟩ := hm.some_ k e hf
    have h1 := hat (.held (Value.bool true))
    rw [h2] at h1
    simp only [DataW.held.injEq] at h1
    obtain ⟨q1, q2⟩ := findS_mem hf
    exact ⟨e, q1, q2, by rw [← SV.inj h1]; exact h3⟩
theorem grown_of {w w' : World} {B : Nat} (h : Below B w w') (hB : w.heap.size ≤ B) (r : Option Nat) : w.grownBy w' r := ⟨h.os, h.tape, h.output, h.size, fun k hk _ => h.block k (by omega)⟩
set_option maxRecDepth 100000 in
set_option maxHeartbeats 1000000 in
theorem having_c (P : Se → Bool) (g : Nat) (lb : Array Value) (eg : ∀ args w, (callFunc g args).run Try.prog w = .ok (.enter g args) w) (F : Nat → Prop) (B p : Nat) (l : List Se) (w : World) (hL : LiS w F B p l)
    (hsuch : ∀ (W : World) (x : SV) (e : Se), Below w.heap.size w W → e ∈ l → RowS W F B x e → Calls Try.prog g (#[x.v] ++ lb) W fun r w' => r = .returned (.bool (P e)) ∧ Below W.heap.size W w') :
    Calls Try.prog 43 #[.pointer (some ⟨p, 0, none⟩), .func (.func g) #[] lb] w (GotI w ((l.filter P).map (·.mux))) := by
  obtain ⟨i0, hi0, hz0, hz1, hz2⟩ := info_parts info3
  obtain ⟨b, hp0, hF, D, hown, hmr⟩ := hL.at_
  have HMR := Lib.hid hmr
  have HSR := Lib.hid hL.srt
  have HSU := Lib.hid hsuch
  have HFEW := Lib.hid (muxes_few hL.srt (fun e he => (hL.fit e he).1))
  have hbl := hown.lt
  have c0 : w.cell? ⟨p, 0, none⟩ = some (.map (some b)) := (cell_of_row w p 0 _ _ _ hp0).trans rfl
  have HL0 := Lib.hid (doneS_start hL.srt hmr P)
  clear hmr hL hp0 hsuch
  go_enter Try.func43, Try.ntmps43
  go_wp2_with (at_range; refine wpList_range_own _ rfl _ tyMap rfl tyI tyE lawI Try.underlying83 _ b _ D rfl hown ?_; intro w0 hrg0 hg0 hs0)
  go_frame
  obtain ⟨r, hr⟩ : ∃ r, r = w.heap.size := ⟨_, rfl⟩
  rw [← hr] at hrg0 ⊢
  have HRr := Lib.hid hr
  have hbr : b < r := by omega
  have HS0 : Hid (w.heap.size + 1 ≤ w0.heap.size) := Lib.hid (by omega)
  clear hr hs0 c0
  go_loopw [5, 6, 7] (fun pv p6 p7 wr => ∃ (ao : Option Addr) (N c1 : Nat) (K : List Int) (left : Lit → Bool) (cnt : Nat), pv = .slice ao N c1 ∧ Hid (wr.ownsRow (r + 1) tyI 1 (.slice ao N c1) N (i64s K)) ∧ Hid (K.Perm (doneS left P l)) ∧ wr.ranges Try.prog tyI rdS b r l.length D left cnt ∧ w.grownBy wr none ∧ Hid (w.heap.size + 1 ≤ wr.heap.size)) (fun _ _ _ wr => wr.rangeLeft b r)
  case atStart => exact ⟨none, 0, 0, [], _, _, rfl, Lib.hid ⟨rfl, .inl ⟨rfl, rfl⟩⟩, Lib.hid (by rw [HL0.out]), hrg0, hg0, HS0⟩
  case round =>
    obtain ⟨ao, N, c1, K, left, cnt, rfl, HO, HP, hrg, hgw, HSZ⟩ := hrel
    clear hrg0 hg0 HS0 HL0
    have hlen : N ≤ 8 := by
      have h1 := HP.out.length_eq
      have h2 : K.length = N := by have := HO.out.1; unfold i64s at this; simpa using this
      have h3 := doneS_len (left := left) (P := P) (l := l)
      have := HFEW.out
      omega
    go_wp2_with (first
      | (at_next; refine wpList_next_ranges _ rfl _ rfl tyI lawI rdS (Value.int .i64) SV.v invK invV b r l.length D left cnt rfl hrg ?_ ?_)
      | go_in)
    · intro _ hl0
      have HE := Lib.hid (doneS_end (l := l) P hl0)
      have HB := Lib.hid (show Below w.heap.size w wr from ⟨hgw.os, hgw.tape, hgw.output, hgw.size, fun k hk => hgw.block k hk (by simp)⟩)
      have CS := Lib.hid (sortI_c K _ _ _ (r + 1) wr HO.out (by rw [HRr.out]; exact HSZ.out) (by omega) HP.out (by rw [HE.out]; exact muxes_srt HSR.out P))
      have HLN := Lib.hid (show N = ((l.filter P).map (·.mux)).length by
        have h1 := HP.out.length_eq
        rw [HE.out] at h1
        have h2 : K.length = N := by have := HO.out.1; unfold i64s at this; simpa using this
        omega)
      clear hrg hgw
      go_wp2_with fail
      refine CS.out.mono ?_
      rintro e w4 ⟨rfl, ho4, hb4⟩
      rw [HE.out] at ho4
      have HO4 := Lib.hid (own_base ho4 (show w.heap.size ≤ r + 1 by rw [HRr.out]; omega))
      have HB4 := Lib.hid (HB.out.trans (hb4.mono (by rw [HRr.out]; omega)))
      clear hb4 ho4 CS
      go_wp2
      go_ret
      exact ⟨ao, N, c1, rfl, HLN.out, HO4.out, HB4.out⟩
    · intro k x kl yd yp w4 cnt1 hkk hlk hv hat hrg1 hlt hg1 hs1 hen
      obtain ⟨k', ek, rfl, hwk⟩ := Maps.keyOf_int_inv Try.underlying3 hkk
      cases ek
      obtain ⟨x', ex, ey⟩ := rdS_inv hv
      cases SV.inj ex
      cases ey
      have hgw1 := hgw.andThen hg1 (fun j hj => by cases hj; exact Or.inl (by rw [HRr.out]; exact Nat.le_refl _))
      obtain ⟨e, heIn, rfl, hrow⟩ := look_in HMR.out hat
      have HIN := Lib.hid heIn
      have HST := Lib.hid (doneS_step HSR.out P heIn hlk)
      have hB4 : Below w.heap.size w w4 := ⟨hgw1.os, hgw1.tape, hgw1.output, hgw1.size, fun j hj => hgw1.block j hj (by simp)⟩
      have HB4 := Lib.hid hB4
      have HO4 := Lib.hid ((tch_grown hg1).own HO.out (fun g' hg he => by
        have := (HO.out.lt g' hg).1
        cases he
        omega))
      have HSZ4 : Hid (w.heap.size + 1 ≤ w4.heap.size) := Lib.hid (by rw [hs1]; exact HSZ.out)
      obtain ⟨W, hW⟩ : ∃ W, W = w4.alloc (.cells #[.int .i64 x.boot, .int .i64 x.heard, .slice x.a x.n x.c] tyE) := ⟨_, rfl⟩
      have HBW := Lib.hid (show Below w.heap.size w W by rw [hW]; exact bl_al hB4 _)
      have HRW := Lib.hid (hrow.tch (tch_new HBW.out) (fun _ _ h => h))
      have CU := Lib.hid (HSU.out W x e HBW.out HIN.out HRW.out)
      have HW := Lib.hid hW
      have HSV := Lib.hid (show x.v = .agg #[.int .i64 x.boot, .int .i64 x.heard, .slice x.a x.n x.c] from rfl)
      rw [HSV.out] at hen CU ⊢
      have hq : W.heap[w4.heap.size]? = some (.cells #[.int .i64 x.boot, .int .i64 x.heard, .slice x.a x.n x.c] tyE (0, 0)) := by rw [hW]; exact heap_alloc_new _ _
      have y0 : W.cell? ⟨w4.heap.size, 0, none⟩ = some (.int .i64 x.boot) := (cell_of_row W _ 0 _ _ _ hq).trans rfl
      have y1 : W.cell? ⟨w4.heap.size, 1, none⟩ = some (.int .i64 x.heard) := (cell_of_row W _ 1 _ _ _ hq).trans rfl
      have y2 : W.cell? ⟨w4.heap.size, 2, none⟩ = some (.slice x.a x.n x.c) := (cell_of_row W _ 2 _ _ _ hq).trans rfl
      clear hq
      clear hat hlk HO hs1 hv hrow heIn hW hwk hkk hB4
      go_upto_region 7 with fail
      rw [← HW.out]
      go_wp2_with fail
      refine CU.out.mono ?_
      rintro r5 w5 ⟨rfl, hb5⟩
      have HB5 := Lib.hid (bl_tr HBW.out hb5)
      have sW : W.heap.size = w4.heap.size + 1 := by rw [HW.out]; simp
      have hb45 : Below w4.heap.size w4 w5 := bl_tr (by rw [HW.out]; exact bl_al (Below.refl _ _) _) hb5
      have HO5 := Lib.hid (owns_bel HO4.out hb45)
      have hgw5 : w.grownBy w5 none := grown_of HB5.out (Nat.le_refl _) none
      have hrg5 := hrg1.kept (grown_of hb45 (Nat.le_refl _) none) (fun e => by cases e) (fun e => by cases e)
      have HSZ5 : Hid (w.heap.size + 1 ≤ w5.heap.size) := Lib.hid (by have := hb45.size; have := HSZ4.out; omega)
      have hlt5 := hlt
      clear y0 y1 y2 hb5 hb45 hgw1 hrg1 hg1 CU sW HO4 HSZ4
      cases hPe : P e with
      | true =>
        have HP2 : Hid ((K ++ [e.mux]).Perm (doneS (fun z => left z && !z.sameKey (kI e.mux)) P l)) := Lib.hid (by
          have := HST.out
          rw [if_pos hPe] at this
          exact (HP.out.append_right _).trans this.symm)
        clear HP HST hPe
        go_wp2_with (at_builtin; refine wpList_append_own _ rfl _ _ 37 rfl (r + 1) tyI i0 (.int .i64 0) 1 8 Try.underlying37 hi0 hz0 hz1 hz2 rfl (by decide) _ _ _ rfl (HO5.out.alloc _) ⟨w5.heap.size, 0, none⟩ 1 1 [.int .i64 e.mux] rfl rfl (cell_one_new w5 _ _) ?c0 ?c1 ?c2 ?c3 ?_)
        case c0 => intro u hu; simp at hu; subst hu; rfl
        case c1 => unfold maxLen; omega
        case c2 => omega
        case c3 => have := HSZ5.out; have := HRr.out; simp; omega
        intro v6 w6 ho6 hg6 _
        have hob : ∀ j, (Value.slice ao N c1).ownBlock = some j → r + 1 ≤ j := fun j hj => (HO5.out.lt j hj).1
        have hrg6 := (hrg5.alloc (.cells #[.int .i64 e.mux] tyI)).kept hg6 (fun e => by have := hob b e.symm; omega) (fun e => by have := hob r e.symm; omega)
        have hgw6 := (hgw5.andThen (World.grownBy_alloc w5 (.cells #[.int .i64 e.mux] tyI) none) (fun j hj => by cases hj)).andThen hg6 (fun j hj => Or.inl (by have := hob j hj; have := HRr.out; omega))
        have HSZ6 : Hid (w.heap.size + 1 ≤ w6.heap.size) := Lib.hid (by have := hg6.size; have := HSZ5.out; simp at *; omega)
        obtain ⟨a6, c6, rfl⟩ := own_form ho6
        have HO6 : Hid (w6.ownsRow (r + 1) tyI 1 (.slice a6 (N + 1) c6) (N + 1) (i64s (K ++ [e.mux]))) := Lib.hid (by rw [← i64s_app]; exact ho6)
        clear ho6 hg6 HO5 HSZ5 hob hgw5
        go_wp2
        go_roundw
        case rel => exact ⟨a6, N + 1, c6, _, _, cnt1, rfl, HO6, HP2, hrg6, hgw6, HSZ6⟩
        case measure => rw [hrg6.left_eq, hrg.left_eq]; exact hlt5
      | false =>
        have HP2 : Hid (K.Perm (doneS (fun z => left z && !z.sameKey (kI e.mux)) P l)) := Lib.hid (by
          have := HST.out
          rw [if_neg (by rw [hPe]; decide), List.append_nil] at this
          exact HP.out.trans this.symm)
        clear HP HST hPe
        go_wp2
        go_roundw
        case rel => exact ⟨ao, N, c1, K, _, cnt1, rfl, HO5, HP2, hrg5, hgw5, HSZ5⟩
        case measure => rw [hrg5.left_eq, hrg.left_eq]; exact hlt5
theorem having_n (fv : Value) (w : World) : Calls Try.prog 43 #[.pointer none, fv] w fun e w' => e = .returned (.slice none 0 0) ∧ w = w' := by
  go_enter Try.func43, Try.ntmps43
  go_wp2
  go_ret
  exact ⟨rfl, rfl⟩
end Go.Proofs.Ytlmkmbpikhagiaa
