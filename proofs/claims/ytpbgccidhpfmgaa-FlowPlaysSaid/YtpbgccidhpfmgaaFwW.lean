/- The document's table: Expire. Conditions: at most 2^20 entries, whose times may be. -/
import Derived.Test.YtpbgccidhpfmgaaFwV
namespace Go.Proofs.Ytpbgccidhpfmgaa
open Go Go.RowKit
set_option linter.unusedVariables false
set_option linter.unusedSimpArgs false

def RExp (w : World) (B m : Nat) (F : Nat → Prop) (qt qu : Int) (r : List Fl × List En) (e : Ending) (w' : World) : Prop :=
  ∃ F2 a c, e = .returned (.slice a r.1.length c) ∧ w'.ownsRow w.heap.size tyF 5 (.slice a r.1.length c) r.1.length (cellsF r.1) ∧ (∀ k, (Value.slice a r.1.length c).ownBlock = some k → ¬ F2 k) ∧ RtTo w B F m qt qu r.2 F2 w'
def goneE (now : Int) (l : List En) : List Fl := (l.filter (idleE now)).map (·.f)
def stayE (now : Int) (l : List En) : List En := l.filter (fun e => !idleE now e)
theorem gone_yes {now : Int} {l : List En} {i : Nat} (hi : i < l.length) (h : idleE now (l.getD i en0) = true) : goneE now (l.take (i + 1)) = goneE now (l.take i) ++ [(l.getD i en0).f] ∧ stayE now (l.take (i + 1)) = stayE now (l.take i) := by
  rw [take_more l en0 hi]
  unfold goneE stayE
  rw [List.filter_append, List.filter_append, List.filter_cons_of_pos h, List.filter_cons_of_neg (by rw [h]; simp), List.map_append]
  exact ⟨rfl, List.append_nil _⟩
theorem gone_no {now : Int} {l : List En} {i : Nat} (hi : i < l.length) (h : idleE now (l.getD i en0) = false) : goneE now (l.take (i + 1)) = goneE now (l.take i) ∧ stayE now (l.take (i + 1)) = stayE now (l.take i) ++ [l.getD i en0] := by
  rw [take_more l en0 hi]
  unfold goneE stayE
  rw [List.filter_append, List.filter_append, List.filter_cons_of_neg (by rw [h]; simp), List.filter_cons_of_pos (by rw [h]; rfl), List.map_append]
  exact ⟨List.append_nil _, rfl⟩
theorem cellsF_of {w : World} {B n : Nat} {v : Value} {l : List Fl} (h : w.ownsRow B tyF 5 v n (cellsF l)) : l.length = n := by have := h.1; rw [cellsF_len] at this; omega
/-- What Expire's rounds keep. -/
structure ExS (w wr : World) (now : Int) (l : List En) (i N M : Nat) (ov lv : Value) : Prop where
  out : wr.ownsRow w.heap.size tyF 5 ov N (cellsF (goneE now (l.take i)))
  left : wr.ownsRow w.heap.size tyE 10 lv M (cellsE (stayE now (l.take i)))
  apart : ∀ k, ov.ownBlock = some k → lv.ownBlock ≠ some k
  bel : Below w.heap.size w wr
theorem ExS.new {w w1 w2 : World} {now : Int} {l : List En} {i N M : Nat} {ov lv : Value} (h : ExS w w1 now l i N M ov lv) (hb : Below w1.heap.size w1 w2) : ExS w w2 now l i N M ov lv :=
  ⟨owns_bel h.out hb, owns_bel h.left hb, h.apart, h.bel.trans (hb.mono h.bel.size)⟩
theorem ExS.yes {w w1 w2 : World} {now : Int} {l : List En} {i N M : Nat} {ov lv v : Value} {o : Obj} (h : ExS w w1 now l i N M ov lv) (hi : i < l.length) (hd : idleE now (l.getD i en0) = true)
    (ho : w2.ownsRow w.heap.size tyF 5 v (N + 1) (cellsF (goneE now (l.take i)) ++ csF (l.getD i en0).f)) (hg : (w1.alloc o).grownBy w2 ov.ownBlock) (hl : v.ownBlock = ov.ownBlock ∨ ∃ x, v.ownBlock = some x ∧ w1.heap.size ≤ x) : ExS w w2 now l (i + 1) (N + 1) M v lv := by
  obtain ⟨h1, h2⟩ := gone_yes hi hd
  have hb1 : Below w1.heap.size w1 (w1.alloc o) := bl_al (Below.refl _ _) o
  refine ⟨by rw [h1, cellsF_app, cellsF_one]; exact ho, ?_, fun k hk e => ?_, ?_⟩
  · rw [h2]
    exact (tch_grown hg).own (owns_bel h.left hb1) (fun g hgl e => h.apart g e.symm hgl)
  · rcases hl with hl | ⟨x, hx, hxs⟩
    · rw [hl] at hk
      exact h.apart k hk e
    · rw [hx] at hk
      cases hk
      have := (h.left.lt _ e).2
      omega
  · exact (h.bel.trans (hb1.mono h.bel.size)).grown hg (Nat.le_trans h.bel.size hb1.size) (fun k hk => (h.out.lt k hk).1)
theorem ExS.no {w w1 w2 : World} {now : Int} {l : List En} {i N M : Nat} {ov lv v : Value} {o : Obj} (h : ExS w w1 now l i N M ov lv) (hi : i < l.length) (hd : idleE now (l.getD i en0) = false)
    (ho : w2.ownsRow w.heap.size tyE 10 v (M + 1) (cellsE (stayE now (l.take i)) ++ csE (l.getD i en0))) (hg : (w1.alloc o).grownBy w2 lv.ownBlock) (hl : v.ownBlock = lv.ownBlock ∨ ∃ x, v.ownBlock = some x ∧ w1.heap.size ≤ x) : ExS w w2 now l (i + 1) N (M + 1) ov v := by
  obtain ⟨h1, h2⟩ := gone_no hi hd
  have hb1 : Below w1.heap.size w1 (w1.alloc o) := bl_al (Below.refl _ _) o
  refine ⟨?_, by rw [h2, cellsE_app, cellsE_one]; exact ho, fun k hk e => ?_, ?_⟩
  · rw [h1]
    exact (tch_grown hg).own (owns_bel h.out hb1) (fun g hgl e => h.apart g hgl e.symm)
  · rcases hl with hl | ⟨x, hx, hxs⟩
    · rw [hl] at e
      exact h.apart k hk e
    · rw [hx] at e
      cases e
      have := (h.out.lt _ hk).2
      omega
  · exact (h.bel.trans (hb1.mono h.bel.size)).grown hg (Nat.le_trans h.bel.size hb1.size) (fun k hk => (h.left.lt k hk).1)
set_option maxRecDepth 100000 in
set_option maxHeartbeats 8000000 in
theorem refExpire_c (B m : Nat) (F : Nat → Prop) (qt qu : Int) (l : List En) (now : Int) (w : World) (hR : RtS w B F m qt qu l) (hB : B ≤ w.heap.size) (hn : l.length ≤ 1048576) (hla : ∀ e ∈ l, OkN e.la) :
    Calls Try.prog 25 #[.pointer (some ⟨m, 0, none⟩), .int .i64 now] w (RExp w B m F qt qu (expE now l)) := by
  obtain ⟨j0, hj0, hy0, hy1, hy2⟩ := info_parts infoE
  obtain ⟨i0, hi0, hz0, hz1, hz2⟩ := info_parts infoF
  by_cases ho : OkN now
  · have hE : expE now l = (goneE now l, stayE now l) := if_pos ho
    rw [hE]
    obtain ⟨ao, n, c, hM, hF⟩ := hR.here
    have hlen := ownE_len hM.row
    have CT := Lib.hid (refTime_c now w)
    have hd : decide (OkN now) = true := decide_eq_true ho
    rw [hd] at CT
    have ho1 := ho.1
    have ho2 := ho.2
    have HM := Lib.hid (And.intro hM hF)
    have HB := Lib.hid hB
    have HLA := Lib.hid hla
    have X0 : Hid (ExS w w now l 0 0 0 (.slice none 0 0) (.slice none 0 0)) := Lib.hid ⟨⟨rfl, .inl ⟨rfl, rfl⟩⟩, ⟨rfl, .inl ⟨rfl, rfl⟩⟩, (fun k hk => by cases hk), Below.refl _ _⟩
    clear hR hM hF hB hla hd ho hE
    go_enter Try.func25, Try.ntmps25
    go_wp2_with fail
    refine CT.out.mono ?_
    rintro e w1 ⟨rfl, rfl⟩
    clear CT
    go_wp2
    go_loopw [5, 6, 7] (fun ov lv iv wr => ∃ (i N M : Nat), i ≤ n ∧ iv = .int .i64 i ∧ N ≤ i ∧ M ≤ i ∧ Hid (ExS w1 wr now l i N M ov lv)) (fun _ _ iv _ => n - (intOf iv).toNat)
    case atStart => exact ⟨0, 0, 0, by omega, rfl, Nat.le_refl _, Nat.le_refl _, X0⟩
    case round =>
      obtain ⟨i, N, M, hi, rfl, hN, hM, HX⟩ := hrel
      obtain ⟨w2, rfl⟩ : ∃ v, v = wr := ⟨_, rfl⟩
      clear X0
      have hM2 := HM.out.1.keep (tch_new HX.out.bel) (fun h => h) (fun _ _ h => h)
      have q0 := hM2.c0
      by_cases hlt : i < n
      · have ii : (i : Int) < (n : Int) := by omega
        have i0' : (0 : Int) ≤ (i : Int) := by omega
        obtain ⟨g, rfl, _, hE⟩ := ownE_cell hM2.row hlt
        have hla := HLA.out (l.getD i en0) (by rw [List.getD_eq_getElem?_getD, List.getElem?_eq_getElem (by omega)]; exact List.getElem_mem _)
        obtain ⟨x, hx⟩ : ∃ x, x = l.getD i en0 := ⟨_, rfl⟩
        rw [← hx] at hE hla
        have HX0 := Lib.hid hx
        obtain ⟨c0, c1, c2, c3, c4, c5, c6, c7, c8, c9⟩ := hE
        obtain ⟨W, hW⟩ : ∃ W, W = w2.alloc x.obj := ⟨_, rfl⟩
        have hbx : BxE W w2.heap.size x := by rw [hW]; exact BxE.new w2 x
        have hb2 : Below w2.heap.size w2 W := by rw [hW]; exact bl_al (Below.refl _ _) _
        have HXW := Lib.hid (HX.out.new hb2)
        obtain ⟨q, hq⟩ : ∃ q, q = w2.heap.size := ⟨_, rfl⟩
        rw [← hq] at hbx
        obtain ⟨y0, y1, y2, y3, y4, y5, y6, y7, y8, y9⟩ := hbx.cs
        have HW := Lib.hid (And.intro hW hq)
        have HSZ : Hid (w1.heap.size ≤ W.heap.size) := Lib.hid HXW.out.bel.size
        have a1 := hla.1
        have a2 := hla.2
        have HIL : Hid (i < l.length) := Lib.hid (by omega)
        clear hx hM2 hla hbx hb2 hW hq HX
        go_upto_region 9 with fail
        rw [← HW.out.1, ← HW.out.2]
        clear HW c0 c1 c2 c3 c4 c5 c6 c7 c8 c9 q0
        cases hc : x.cl with
        | true =>
          cases ht : x.tr with
          | true =>
            simp only [hc] at y8
            simp only [ht] at y7
            have HL : Hid (limE x = 5) := Lib.hid (by unfold limE; rw [hc]; rfl)
            by_cases hd : (5 : Int) < now - x.la
            · have HD : Hid (idleE now x = true) := Lib.hid (by unfold idleE; rw [HL.out]; exact decide_eq_true hd)
              have HNW := Lib.hid (fl_newr W x.f)
              have HO := Lib.hid HXW.out.out
              go_wp2_with (at_builtin; refine wpList_append_own_at _ rfl _ _ 39 rfl w1.heap.size tyF i0 (.agg #[.int .i64 0, .int .u32 0, .int .i64 0, .int .u32 0, .int .i64 0]) 5 40 Try.underlying39 hi0 hz0 hz1 hz2 rfl (by decide) _ _ _ rfl (HO.out.alloc _) ⟨W.heap.size, 0, none⟩ 1 1 (csF x.f) rfl rfl HNW.out (csF_one1 _) ?c1 ?c2 ?c3 ?_)
              case c1 => unfold maxLen; omega
              case c2 => omega
              case c3 => have := HSZ.out; simp; omega
              intro v6 w6 ho6 hg6 _ hl6
              have HX6 := Lib.hid (HXW.out.yes (v := v6) HIL.out (by rw [← HX0.out]; exact HD.out) (by rw [← HX0.out]; exact ho6) hg6 (hl6.imp (fun h => h) (fun h => ⟨_, h, by simp⟩)))
              clear ho6 hg6 hl6 HO HNW HXW
              go_wp2
              go_roundw
              case rel => exact ⟨i + 1, N + 1, M, by omega, by go_num, by omega, by omega, HX6⟩
              case measure => simp [intOf]; omega
            · have HD : Hid (idleE now x = false) := Lib.hid (by unfold idleE; rw [HL.out]; exact decide_eq_false hd)
              have HNW := Lib.hid (en_new W ⟨x.f, x.dip, x.ep, true, true, x.la⟩)
              have HCE : Hid (csE x = csE ⟨x.f, x.dip, x.ep, true, true, x.la⟩) := Lib.hid (by unfold csE; rw [ht, hc])
              have HO := Lib.hid HXW.out.left
              go_wp2_with (at_builtin; refine wpList_append_own_at _ rfl _ _ 32 rfl w1.heap.size tyE j0 (.agg #[.int .i64 0, .int .u32 0, .int .i64 0, .int .u32 0, .int .i64 0, .int .u32 0, .int .i64 0, .bool false, .bool false, .int .i64 0]) 10 72 Try.underlying32 hj0 hy0 hy1 hy2 rfl (by decide) _ _ _ rfl (HO.out.alloc _) ⟨W.heap.size, 0, none⟩ 1 1 (csE ⟨x.f, x.dip, x.ep, true, true, x.la⟩) rfl rfl HNW.out (csE_one1 _) ?c1 ?c2 ?c3 ?_)
              case c1 => unfold maxLen; omega
              case c2 => omega
              case c3 => have := HSZ.out; simp; omega
              intro v6 w6 ho6 hg6 _ hl6
              have HX6 := Lib.hid (HXW.out.no (v := v6) HIL.out (by rw [← HX0.out]; exact HD.out) (by rw [← HX0.out, HCE.out]; exact ho6) hg6 (hl6.imp (fun h => h) (fun h => ⟨_, h, by simp⟩)))
              clear ho6 hg6 hl6 HO HNW HXW
              go_wp2
              go_roundw
              case rel => exact ⟨i + 1, N, M + 1, by omega, by go_num, by omega, by omega, HX6⟩
              case measure => simp [intOf]; omega
          | false =>
            simp only [hc] at y8
            simp only [ht] at y7
            have HL : Hid (limE x = 5) := Lib.hid (by unfold limE; rw [hc]; rfl)
            by_cases hd : (5 : Int) < now - x.la
            · have HD : Hid (idleE now x = true) := Lib.hid (by unfold idleE; rw [HL.out]; exact decide_eq_true hd)
              have HNW := Lib.hid (fl_newr W x.f)
              have HO := Lib.hid HXW.out.out
              go_wp2_with (at_builtin; refine wpList_append_own_at _ rfl _ _ 39 rfl w1.heap.size tyF i0 (.agg #[.int .i64 0, .int .u32 0, .int .i64 0, .int .u32 0, .int .i64 0]) 5 40 Try.underlying39 hi0 hz0 hz1 hz2 rfl (by decide) _ _ _ rfl (HO.out.alloc _) ⟨W.heap.size, 0, none⟩ 1 1 (csF x.f) rfl rfl HNW.out (csF_one1 _) ?c1 ?c2 ?c3 ?_)
              case c1 => unfold maxLen; omega
              case c2 => omega
              case c3 => have := HSZ.out; simp; omega
              intro v6 w6 ho6 hg6 _ hl6
              have HX6 := Lib.hid (HXW.out.yes (v := v6) HIL.out (by rw [← HX0.out]; exact HD.out) (by rw [← HX0.out]; exact ho6) hg6 (hl6.imp (fun h => h) (fun h => ⟨_, h, by simp⟩)))
              clear ho6 hg6 hl6 HO HNW HXW
              go_wp2
              go_roundw
              case rel => exact ⟨i + 1, N + 1, M, by omega, by go_num, by omega, by omega, HX6⟩
              case measure => simp [intOf]; omega
            · have HD : Hid (idleE now x = false) := Lib.hid (by unfold idleE; rw [HL.out]; exact decide_eq_false hd)
              have HNW := Lib.hid (en_new W ⟨x.f, x.dip, x.ep, false, true, x.la⟩)
              have HCE : Hid (csE x = csE ⟨x.f, x.dip, x.ep, false, true, x.la⟩) := Lib.hid (by unfold csE; rw [ht, hc])
              have HO := Lib.hid HXW.out.left
              go_wp2_with (at_builtin; refine wpList_append_own_at _ rfl _ _ 32 rfl w1.heap.size tyE j0 (.agg #[.int .i64 0, .int .u32 0, .int .i64 0, .int .u32 0, .int .i64 0, .int .u32 0, .int .i64 0, .bool false, .bool false, .int .i64 0]) 10 72 Try.underlying32 hj0 hy0 hy1 hy2 rfl (by decide) _ _ _ rfl (HO.out.alloc _) ⟨W.heap.size, 0, none⟩ 1 1 (csE ⟨x.f, x.dip, x.ep, false, true, x.la⟩) rfl rfl HNW.out (csE_one1 _) ?c1 ?c2 ?c3 ?_)
              case c1 => unfold maxLen; omega
              case c2 => omega
              case c3 => have := HSZ.out; simp; omega
              intro v6 w6 ho6 hg6 _ hl6
              have HX6 := Lib.hid (HXW.out.no (v := v6) HIL.out (by rw [← HX0.out]; exact HD.out) (by rw [← HX0.out, HCE.out]; exact ho6) hg6 (hl6.imp (fun h => h) (fun h => ⟨_, h, by simp⟩)))
              clear ho6 hg6 hl6 HO HNW HXW
              go_wp2
              go_roundw
              case rel => exact ⟨i + 1, N, M + 1, by omega, by go_num, by omega, by omega, HX6⟩
              case measure => simp [intOf]; omega
        | false =>
          cases ht : x.tr with
          | true =>
            simp only [hc] at y8
            simp only [ht] at y7
            have HL : Hid (limE x = 60) := Lib.hid (by unfold limE; rw [hc, ht]; rfl)
            by_cases hd : (60 : Int) < now - x.la
            · have HD : Hid (idleE now x = true) := Lib.hid (by unfold idleE; rw [HL.out]; exact decide_eq_true hd)
              have HNW := Lib.hid (fl_newr W x.f)
              have HO := Lib.hid HXW.out.out
              go_wp2_with (at_builtin; refine wpList_append_own_at _ rfl _ _ 39 rfl w1.heap.size tyF i0 (.agg #[.int .i64 0, .int .u32 0, .int .i64 0, .int .u32 0, .int .i64 0]) 5 40 Try.underlying39 hi0 hz0 hz1 hz2 rfl (by decide) _ _ _ rfl (HO.out.alloc _) ⟨W.heap.size, 0, none⟩ 1 1 (csF x.f) rfl rfl HNW.out (csF_one1 _) ?c1 ?c2 ?c3 ?_)
              case c1 => unfold maxLen; omega
              case c2 => omega
              case c3 => have := HSZ.out; simp; omega
              intro v6 w6 ho6 hg6 _ hl6
              have HX6 := Lib.hid (HXW.out.yes (v := v6) HIL.out (by rw [← HX0.out]; exact HD.out) (by rw [← HX0.out]; exact ho6) hg6 (hl6.imp (fun h => h) (fun h => ⟨_, h, by simp⟩)))
              clear ho6 hg6 hl6 HO HNW HXW
              go_wp2
              go_roundw
              case rel => exact ⟨i + 1, N + 1, M, by omega, by go_num, by omega, by omega, HX6⟩
              case measure => simp [intOf]; omega
            · have HD : Hid (idleE now x = false) := Lib.hid (by unfold idleE; rw [HL.out]; exact decide_eq_false hd)
              have HNW := Lib.hid (en_new W ⟨x.f, x.dip, x.ep, true, false, x.la⟩)
              have HCE : Hid (csE x = csE ⟨x.f, x.dip, x.ep, true, false, x.la⟩) := Lib.hid (by unfold csE; rw [ht, hc])
              have HO := Lib.hid HXW.out.left
              go_wp2_with (at_builtin; refine wpList_append_own_at _ rfl _ _ 32 rfl w1.heap.size tyE j0 (.agg #[.int .i64 0, .int .u32 0, .int .i64 0, .int .u32 0, .int .i64 0, .int .u32 0, .int .i64 0, .bool false, .bool false, .int .i64 0]) 10 72 Try.underlying32 hj0 hy0 hy1 hy2 rfl (by decide) _ _ _ rfl (HO.out.alloc _) ⟨W.heap.size, 0, none⟩ 1 1 (csE ⟨x.f, x.dip, x.ep, true, false, x.la⟩) rfl rfl HNW.out (csE_one1 _) ?c1 ?c2 ?c3 ?_)
              case c1 => unfold maxLen; omega
              case c2 => omega
              case c3 => have := HSZ.out; simp; omega
              intro v6 w6 ho6 hg6 _ hl6
              have HX6 := Lib.hid (HXW.out.no (v := v6) HIL.out (by rw [← HX0.out]; exact HD.out) (by rw [← HX0.out, HCE.out]; exact ho6) hg6 (hl6.imp (fun h => h) (fun h => ⟨_, h, by simp⟩)))
              clear ho6 hg6 hl6 HO HNW HXW
              go_wp2
              go_roundw
              case rel => exact ⟨i + 1, N, M + 1, by omega, by go_num, by omega, by omega, HX6⟩
              case measure => simp [intOf]; omega
          | false =>
            simp only [hc] at y8
            simp only [ht] at y7
            have HL : Hid (limE x = 10) := Lib.hid (by unfold limE; rw [hc, ht]; rfl)
            by_cases hd : (10 : Int) < now - x.la
            · have HD : Hid (idleE now x = true) := Lib.hid (by unfold idleE; rw [HL.out]; exact decide_eq_true hd)
              have HNW := Lib.hid (fl_newr W x.f)
              have HO := Lib.hid HXW.out.out
              go_wp2_with (at_builtin; refine wpList_append_own_at _ rfl _ _ 39 rfl w1.heap.size tyF i0 (.agg #[.int .i64 0, .int .u32 0, .int .i64 0, .int .u32 0, .int .i64 0]) 5 40 Try.underlying39 hi0 hz0 hz1 hz2 rfl (by decide) _ _ _ rfl (HO.out.alloc _) ⟨W.heap.size, 0, none⟩ 1 1 (csF x.f) rfl rfl HNW.out (csF_one1 _) ?c1 ?c2 ?c3 ?_)
              case c1 => unfold maxLen; omega
              case c2 => omega
              case c3 => have := HSZ.out; simp; omega
              intro v6 w6 ho6 hg6 _ hl6
              have HX6 := Lib.hid (HXW.out.yes (v := v6) HIL.out (by rw [← HX0.out]; exact HD.out) (by rw [← HX0.out]; exact ho6) hg6 (hl6.imp (fun h => h) (fun h => ⟨_, h, by simp⟩)))
              clear ho6 hg6 hl6 HO HNW HXW
              go_wp2
              go_roundw
              case rel => exact ⟨i + 1, N + 1, M, by omega, by go_num, by omega, by omega, HX6⟩
              case measure => simp [intOf]; omega
            · have HD : Hid (idleE now x = false) := Lib.hid (by unfold idleE; rw [HL.out]; exact decide_eq_false hd)
              have HNW := Lib.hid (en_new W ⟨x.f, x.dip, x.ep, false, false, x.la⟩)
              have HCE : Hid (csE x = csE ⟨x.f, x.dip, x.ep, false, false, x.la⟩) := Lib.hid (by unfold csE; rw [ht, hc])
              have HO := Lib.hid HXW.out.left
              go_wp2_with (at_builtin; refine wpList_append_own_at _ rfl _ _ 32 rfl w1.heap.size tyE j0 (.agg #[.int .i64 0, .int .u32 0, .int .i64 0, .int .u32 0, .int .i64 0, .int .u32 0, .int .i64 0, .bool false, .bool false, .int .i64 0]) 10 72 Try.underlying32 hj0 hy0 hy1 hy2 rfl (by decide) _ _ _ rfl (HO.out.alloc _) ⟨W.heap.size, 0, none⟩ 1 1 (csE ⟨x.f, x.dip, x.ep, false, false, x.la⟩) rfl rfl HNW.out (csE_one1 _) ?c1 ?c2 ?c3 ?_)
              case c1 => unfold maxLen; omega
              case c2 => omega
              case c3 => have := HSZ.out; simp; omega
              intro v6 w6 ho6 hg6 _ hl6
              have HX6 := Lib.hid (HXW.out.no (v := v6) HIL.out (by rw [← HX0.out]; exact HD.out) (by rw [← HX0.out, HCE.out]; exact ho6) hg6 (hl6.imp (fun h => h) (fun h => ⟨_, h, by simp⟩)))
              clear ho6 hg6 hl6 HO HNW HXW
              go_wp2
              go_roundw
              case rel => exact ⟨i + 1, N, M + 1, by omega, by go_num, by omega, by omega, HX6⟩
              case measure => simp [intOf]; omega
      · obtain rfl : i = n := by omega
        have ii : ¬ (i : Int) < (i : Int) := by omega
        have ht : l.take i = l := List.take_of_length_le (by omega)
        have hX := HX.out
        have h1 := hX.out
        have h2 := hX.left
        rw [ht] at h1 h2
        have hg1 := cellsF_of h1
        obtain ⟨a5, c5, rfl⟩ := own_form h1
        obtain ⟨a6, c6, rfl⟩ := own_form h2
        obtain ⟨hM4, hT4⟩ := HM.out.1.put HB.out hX.bel h2
        have f0 := hM2.free
        have HG : Hid (RExp w1 B m F qt qu (goneE now l, stayE now l) (.returned (.slice a5 N c5)) (w2.setCell ⟨m, 0, none⟩ (.slice a6 M c6))) := Lib.hid (by
          have hmw := HM.out.1.lt
          refine ⟨fun k => k = m ∨ (Value.slice a6 M c6).ownBlock = some k, a5, c5, by rw [hg1], ?_, fun k hk hf => ?_, ⟨⟨_, _, _, hM4, fun k => Iff.rfl⟩, fun k hk => ?_, hT4.mono (fun k hk => (HM.out.2 k).2 (.inl hk))⟩⟩
          · rw [hg1]
            exact (tch_set w2 ⟨m, 0, none⟩ (.slice a6 M c6)).own h1 (fun k hk e => by
              have := (h1.lt k hk).1
              have e' : k = m := e
              omega)
          · rw [hg1] at hk
            rcases hf with hf | hf
            · have := (h1.lt k hk).1
              omega
            · exact hX.apart k hk hf
          · rcases hk with hk | hk
            · exact .inl ((HM.out.2 k).2 (.inl hk))
            · exact .inr (h2.lt k hk).1)
        clear hX h1 h2 hM4 hT4 hM2 ht HX
        go_wp2
        go_ret
        exact HG.out
  · have hE : expE now l = ([], l) := if_neg ho
    rw [hE]
    have CT := Lib.hid (refTime_c now w)
    have hd : decide (OkN now) = false := decide_eq_false ho
    rw [hd] at CT
    have HG : Hid (RExp w B m F qt qu ([], l) (.returned (.slice none 0 0)) w) := Lib.hid ⟨F, none, 0, rfl, ⟨rfl, .inl ⟨rfl, rfl⟩⟩, (fun k hk => by cases hk), RtTo.same hR (Tch.refl _ _)⟩
    clear hR hla ho hE hd
    go_enter Try.func25, Try.ntmps25
    go_wp2_with fail
    refine CT.out.mono ?_
    rintro e w1 ⟨rfl, rfl⟩
    go_wp2
    go_ret
    exact HG.out
end Go.Proofs.Ytpbgccidhpfmgaa
