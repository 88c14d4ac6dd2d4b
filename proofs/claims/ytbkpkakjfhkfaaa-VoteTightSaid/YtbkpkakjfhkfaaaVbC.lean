/- numbers.writeCommand. Conditions: those stated. -/
import Derived.Test.YtbkpkakjfhkfaaaVbW
namespace Go.Proofs.Ytbkpkakjfhkfaaa
open Go Go.RowKit
set_option linter.unusedVariables false
set_option linter.unusedSimpArgs false

theorem InE.kpt {K : Nat → Prop} {w w' : World} {a : Option Addr} {n cap : Nat} {es : List En} (h : InE w a n cap es) (hk : Kpt K w w') (hK : ∀ ad, a = some ad → 0 < n → K ad.block) : InE w' a n cap es := by
  refine ⟨h.len, h.room, h.none, ?_, h.typ⟩
  rcases h.here with h0 | ⟨b, off, ha, hc⟩
  · exact .inl h0
  · by_cases hn : 0 < n
    · exact .inr ⟨b, off, ha, fun t u hu => hk.cell (hc t u hu) (hK ⟨b, off, .none⟩ ha hn)⟩
    · exact .inl (List.eq_nil_of_length_eq_zero (by have := h.len; omega))
theorem InE.blk {w : World} {a : Option Addr} {n cap : Nat} {es : List En} (h : InE w a n cap es) : ∀ ad, a = some ad → 0 < n → ad.block < w.heap.size := by
  intro ad ha hn
  rcases h.here with h0 | ⟨b, off, ha2, hc⟩
  · have := h.len; rw [h0] at this; simp at this; omega
  · subst ha
    cases ha2
    exact block_lt_of_cell (h.cell (j := 0) hn).1
theorem CAt.kpt {K : Nat → Prop} {w w' : World} {b o : Nat} {x : Cm} {v : Value} (h : CAt w b o x v) (hk : Kpt K w w') (hb : K b) : CAt w' b o x v :=
  h.map (fun k u hc => hk.cell hc hb)
theorem NuT.keep {w w' : World} {B q : Nat} {l : List Int} {K : Nat → Prop} (h : NuT w B q l K) (hb : Below w.heap.size w w') : NuT w' B q l K ∧ Kpt K w w' := by
  obtain ⟨ao, c, h⟩ := h
  exact ⟨⟨ao, c, (h.keep hb).1⟩, (h.keep hb).2⟩
theorem NuT.more {w w' : World} {B q : Nat} {l : List Int} {K : Nat → Prop} (h : NuT w B q l K) (hb : Below w.heap.size w w') : NuT w' B q l (fun k => K k ∨ (w.heap.size ≤ k ∧ k < w'.heap.size)) := by
  obtain ⟨ao, c, h⟩ := h
  exact ⟨ao, c, h.more hb⟩
theorem NuT.less {w : World} {B q : Nat} {l : List Int} {K K2 : Nat → Prop} (h : NuT w B q l K) (hk : ∀ k, K2 k → K k) : NuT w B q l K2 := by
  obtain ⟨ao, c, h⟩ := h
  exact ⟨ao, c, h.less hk⟩
theorem inI_new (w : World) (ns : List Int) (C : Array Value) (hC : C = (ns.map (Value.int .i64)).toArray) (n : Nat) (hn : n = ns.length) (hf : fitI ns) : InI (w.alloc (.cells C 3)) (some ⟨w.heap.size, 0, none⟩) n n ns := by
  subst hn
  exact ⟨rfl, Nat.le_refl _, (fun e => by cases e), AtI.new w ns C hC _ _ _ _ rfl _ rfl, hf⟩
/-- Numbers that lie in a row of the call's own, just made. -/
theorem writeL_c (ns : List Int) (C : Array Value) (hC : C = (ns.map (Value.int .i64)).toArray) (B q : Nat) (l : List Int) (K : Nat → Prop) (n : Nat) (w : World) (hN : NuT w B q l K) (hf : fitI ns) (hl1 : n = ns.length) (hn : n ≤ 4096) (hl : l.length ≤ 1048576) (hB : B ≤ w.heap.size) :
    Calls Try.prog 57 #[.pointer (some ⟨q, 0, none⟩), .slice (some ⟨w.heap.size, 0, none⟩) n n] (w.alloc (.cells C 3)) fun e w' => e = .returned (.tuple #[]) ∧ NuT w' B q (l ++ nb ns) K ∧ Kpt K w w' ∧ Below B w w' := by
  have hb := bl_al (Below.refl w.heap.size w) (.cells C 3)
  have h2 := hN.more hb
  have hk0 := (hN.keep hb).2
  refine (write_c ns B q l _ (some ⟨w.heap.size, 0, none⟩) n n _ h2 (inI_new w ns C hC n hl1 hf) (fun ad e => by cases e; exact .inr ⟨Nat.le_refl _, by simp⟩) hn hl (by simp; omega)).mono ?_
  rintro e w' ⟨rfl, h3, h4, h5⟩
  exact ⟨rfl, h3.less (fun k hk => .inl hk), hk0.trans (h4.less (fun k hk => .inl hk)), (hb.mono hB).trans h5⟩
theorem w64_u {x : Int} (h : u32c x) : wrap64 x = x := by
  unfold u32c at h
  unfold wrap64
  omega
theorem fitI_head {x : Cm} (h : TyC x) : fitI [x.node, x.boot, x.seq, x.time, x.kind] ∧ fitI [x.vip, x.proto, x.port, (x.es.length : Int)] ∧ fitI [x.dip, x.cvip, ub x.up] := by
  obtain ⟨h1, h2, h3, h4, h5, h6, h7, h8, h9, h10, h11, h12⟩ := h
  unfold i64c at *
  unfold u32c at *
  have hu : 0 ≤ ub x.up ∧ ub x.up ≤ 1 := by unfold ub; split <;> omega
  refine ⟨?_, ?_, ?_⟩ <;> intro b hb <;> simp only [List.mem_cons, List.not_mem_nil, or_false] at hb
  · rcases hb with rfl | rfl | rfl | rfl | rfl <;> omega
  · rcases hb with rfl | rfl | rfl | rfl <;> omega
  · rcases hb with rfl | rfl | rfl <;> omega
theorem fitI_end {e : En} (h : TyEn e) : fitI [e.dip, e.port, e.wt] := by
  obtain ⟨h1, h2, h3⟩ := h
  intro b hb
  simp only [List.mem_cons, List.not_mem_nil, or_false] at hb
  rcases hb with rfl | rfl | rfl <;> omega
set_option maxRecDepth 100000 in
set_option maxHeartbeats 4000000 in
theorem wcmd_c (x : Cm) (a : Option Addr) (n c : Nat) (B q : Nat) (l : List Int) (K : Nat → Prop) (w : World) (hN : NuT w B q l K) (hI : InE w a n c x.es) (hT : TyC x) (hK : ∀ ad, a = some ad → 0 < n → K ad.block) (hn : n ≤ 64) (hl : l.length ≤ 1000000) (hB : B ≤ w.heap.size) :
    Calls Try.prog 58 #[.pointer (some ⟨q, 0, none⟩), x.val (.slice a n c)] w fun e w' => e = .returned (.tuple #[]) ∧ NuT w' B q (l ++ nb (numC x)) K ∧ Kpt K w w' ∧ Below B w w' := by
  have hlen := hI.len
  have hroom := hI.room
  obtain ⟨f1, f2, f3⟩ := fitI_head hT
  rw [hlen] at f2
  have HF := Lib.hid (And.intro f1 (And.intro f2 f3))
  have v1 := w64_u hT.vip
  have v2 := w64_u hT.dip
  have v3 := w64_u hT.cvip
  obtain ⟨W, hW⟩ : ∃ W, W = w.alloc (x.obj (.slice a n c)) := ⟨_, rfl⟩
  have hA := cAt_new w x (.slice a n c)
  rw [← hW] at hA
  have hb0 : Below w.heap.size w W := by rw [hW]; exact bl_al (Below.refl _ _) _
  obtain ⟨p, hp⟩ : ∃ p, p = w.heap.size := ⟨_, rfl⟩
  have hs : W.heap.size = p + 1 := by rw [hW, hp]; simp
  rw [← hp] at hA
  have HW := Lib.hid (And.intro hW hp)
  obtain ⟨K1, hK1⟩ : ∃ K1 : Nat → Prop, K1 = fun k => K k ∨ k = p := ⟨_, rfl⟩
  have hN1 : NuT W B q l K1 := by
    rw [hK1]
    exact (hN.more hb0).less (fun k hk => hk.imp (fun h => h) (fun h => by omega))
  have HK1 : Hid (K1 p ∧ (∀ k, K k → K1 k) ∧ (∀ ad, a = some ad → 0 < n → K1 ad.block)) := Lib.hid (by rw [hK1]; exact ⟨.inr rfl, fun k h => .inl h, fun ad h h2 => .inl (hK ad h h2)⟩)
  have HK0 := Lib.hid (hN.keep hb0).2
  have HBW : Hid (B ≤ W.heap.size ∧ Below B w W) := Lib.hid ⟨by omega, hb0.mono hB⟩
  have HI := Lib.hid (hI.below hb0)
  have HA := Lib.hid hA
  have HT := Lib.hid hT
  have HL := Lib.hid hl
  have HTK : Hid (x.es.take n = x.es) := Lib.hid (List.take_of_length_le (by omega))
  have HN1 := Lib.hid hN1
  obtain ⟨k0, k1, k2, k3, k4, k5, k6, k7, k8, k9, k10, k11⟩ := hA.lit
  clear hA hW hp hb0 hN hN1 hI hT hK hK1 hl hB f1 f2 f3 hs
  go_enter Try.func58, Try.ntmps58
  go_upto_region 1 with fail
  rw [show w.alloc (.cells #[.int .i64 x.node, .int .i64 x.boot, .int .i64 x.seq, .int .i64 x.time, .int .i64 x.kind, .int .u32 x.vip, .int .i64 x.proto, .int .i64 x.port, .slice a n c, .int .u32 x.dip, .int .u32 x.cvip, .bool x.up] tyC) = W from HW.out.1.symm, ← HW.out.2]
  go_wp2_with fail
  refine (writeL_c [x.node, x.boot, x.seq, x.time, x.kind] _ rfl B q l K1 5 W HN1.out HF.out.1 rfl (by omega) (by have := HL.out; omega) HBW.out.1).mono ?_
  rintro e w1 ⟨rfl, hN1, hk1, hb1⟩
  have HN2 := Lib.hid hN1
  have HKW := Lib.hid hk1
  have HB1 := Lib.hid hb1
  have HBS : Hid (B ≤ w1.heap.size) := Lib.hid (by have := HBW.out.1; have := hb1.size; omega)
  clear hN1 hk1 hb1 k0 k1 k2 k3 k4 k5 k6 k7 k8 k9 k10 k11
  obtain ⟨k0, k1, k2, k3, k4, k5, k6, k7, k8, k9, k10, k11⟩ := (HA.out.kpt HKW.out HK1.out.1).lit
  go_wp2_with fail
  refine (writeL_c [x.vip, x.proto, x.port, (n : Int)] _ rfl B q _ K1 4 w1 HN2.out HF.out.2.1 rfl (by omega) (by have := HL.out; simp only [List.length_append, nb_len, List.length_cons, List.length_nil]; omega) HBS.out).mono ?_
  rintro e w2 ⟨rfl, hN1, hk1, hb1⟩
  have HN3 : Hid (NuT w2 B q (l ++ nb (head9 x)) K1) := Lib.hid (by
    have e1 : head9 x = [x.node, x.boot, x.seq, x.time, x.kind] ++ [x.vip, x.proto, x.port, (n : Int)] := by unfold head9; rw [hlen]; rfl
    rw [e1, nb_app, ← List.append_assoc]
    exact hN1)
  have HKW2 := Lib.hid (HKW.out.trans hk1)
  have HB2 := Lib.hid (HB1.out.trans hb1)
  have HBS2 : Hid (B ≤ w2.heap.size) := Lib.hid (by have := HBS.out; have := hb1.size; omega)
  clear hN1 hk1 hb1 k0 k1 k2 k3 k4 k5 k6 k7 k8 k9 k10 k11
  obtain ⟨k0, k1, k2, k3, k4, k5, k6, k7, k8, k9, k10, k11⟩ := (HA.out.kpt HKW2.out HK1.out.1).lit
  go_wp2
  clear k0 k1 k2 k3 k4 k5 k6 k7 k8 k9 k10 k11 HN2 HKW HB1 HBS
  go_loopw [5, 41] (fun _ iv wr => ∃ i : Nat, i ≤ n ∧ iv = .int .i64 i ∧ Hid (NuT wr B q (l ++ nb (head9 x) ++ nb (numEs (x.es.take i))) K1 ∧ Kpt K1 W wr ∧ Below B W wr)) (fun _ iv _ => n - (intOf iv).toNat)
  case atStart => exact ⟨0, by omega, rfl, Lib.hid ⟨by simpa [nb, numEs] using HN3.out, HKW2.out, HB2.out⟩⟩
  case round =>
    obtain ⟨i, hi, rfl, HS⟩ := hrel
    obtain ⟨w3, rfl⟩ : ∃ v, v = wr := ⟨_, rfl⟩
    clear HN3 HKW2 HB2 HBS2
    by_cases hlt : i < n
    · have ii : (i : Int) < (n : Int) := by omega
      have i0 : (0 : Int) ≤ (i : Int) := by omega
      have ic : (i : Int) ≤ (c : Int) := by omega
      obtain ⟨b1, o1, rfl⟩ := HI.out.block (by omega)
      have hI3 := HI.out.kpt HS.out.2.1 HK1.out.2.2
      obtain ⟨c0, c1, c2⟩ := hI3.cell hlt
      have ht := HI.out.typ _ (memE (es := x.es) (i := i) (by omega))
      have HTE := Lib.hid (take_moreE x.es (i := i) (by omega))
      obtain ⟨y, hy⟩ : ∃ y, y = x.es.getD i en0 := ⟨_, rfl⟩
      rw [← hy] at c0 c1 c2 ht HTE
      have HTY := Lib.hid (fitI_end ht)
      obtain ⟨y0, y1, y2⟩ := y
      have v4 : wrap64 y0 = y0 := w64_u ht.1
      obtain ⟨w4, hw4⟩ : ∃ w4, w4 = w3.alloc (.cells #[.int .u32 y0, .int .i64 y1, .int .i64 y2] tyE) := ⟨_, rfl⟩
      have hE := enAt_new w3 ⟨y0, y1, y2⟩
      have hbe : Below w3.heap.size w3 w4 := by rw [hw4]; exact bl_al (Below.refl _ _) _
      obtain ⟨p3, hp3⟩ : ∃ p3, p3 = w3.heap.size := ⟨_, rfl⟩
      have HW4 := Lib.hid (And.intro hw4 hp3)
      rw [← hp3, show w3.alloc (En.obj ⟨y0, y1, y2⟩) = w4 from hw4.symm] at hE
      obtain ⟨d0, d1, d2⟩ := hE
      have HB3 : Hid (B ≤ w4.heap.size ∧ Below B W w4) := Lib.hid (by
        have h1 := HBW.out.1
        have h2 := HS.out.2.2
        have h3 := h2.size
        have h4 := hbe.size
        exact ⟨by omega, h2.trans (hbe.mono (by omega))⟩)
      have HN4 := Lib.hid (HS.out.1.keep hbe)
      have HLL : Hid ((l ++ nb (head9 x) ++ nb (numEs (x.es.take i))).length ≤ 1048576) := Lib.hid (by
        have := HL.out
        simp only [List.length_append, nb_len, numEs_len, List.length_take]
        have : (head9 x).length = 9 := rfl
        omega)
      clear hy ht hI3 hw4 hp3 hbe
      go_upto_region 6 with fail
      rw [show w3.alloc (.cells #[.int .u32 y0, .int .i64 y1, .int .i64 y2] tyE) = w4 from HW4.out.1.symm, ← HW4.out.2]
      clear c0 c1 c2
      go_wp2_with fail
      refine (writeL_c [y0, y1, y2] _ rfl B q _ K1 3 w4 HN4.out.1 HTY.out rfl (by omega) HLL.out HB3.out.1).mono ?_
      rintro e w5 ⟨rfl, hN1, hk1, hb1⟩
      have HF5 : Hid (NuT w5 B q (l ++ nb (head9 x) ++ nb (numEs (x.es.take (i + 1)))) K1 ∧ Kpt K1 W w5 ∧ Below B W w5) := Lib.hid ⟨by
        rw [HTE.out, numEs_app, numEs_one, nb_app, ← List.append_assoc]
        exact hN1, HS.out.2.1.trans (HN4.out.2.trans hk1), HB3.out.2.trans hb1⟩
      clear hN1 hk1 hb1 d0 d1 d2
      go_wp2
      go_roundw
      case rel => exact ⟨i + 1, by omega, by go_num, HF5⟩
      case measure => simp [intOf]; omega
    · have ii : ¬ (i : Int) < (n : Int) := by omega
      obtain rfl : i = n := by omega
      obtain ⟨k0, k1, k2, k3, k4, k5, k6, k7, k8, k9, k10, k11⟩ := (HA.out.kpt HS.out.2.1 HK1.out.1).lit
      have HN5 : Hid (NuT w3 B q (l ++ nb (head9 x) ++ nb (numEs x.es)) K1) := Lib.hid (by have := HS.out.1; rwa [HTK.out] at this)
      have HBS3 : Hid (B ≤ w3.heap.size) := Lib.hid (by have := HBW.out.1; have := HS.out.2.2.size; omega)
      have HLL : Hid ((l ++ nb (head9 x) ++ nb (numEs x.es)).length ≤ 1048576) := Lib.hid (by
        have := HL.out
        simp only [List.length_append, nb_len, numEs_len]
        have : (head9 x).length = 9 := rfl
        omega)
      have HU : Hid (ub x.up = if x.up then 1 else 0) := Lib.hid rfl
      have fin : ∀ w6, NuT w6 B q (l ++ nb (head9 x) ++ nb (numEs x.es) ++ nb [x.dip, x.cvip, ub x.up]) K1 → Kpt K1 w3 w6 → Below B w3 w6 → (Ending.returned (.tuple #[]) = Ending.returned (.tuple #[]) ∧ NuT w6 B q (l ++ nb (numC x)) K ∧ Kpt K w w6 ∧ Below B w w6) := fun w6 g1 g2 g3 => ⟨rfl, by
        have e1 : l ++ nb (numC x) = l ++ nb (head9 x) ++ nb (numEs x.es) ++ nb [x.dip, x.cvip, ub x.up] := by
          unfold numC tail3
          simp only [nb_app, List.append_assoc]
        rw [e1]
        exact g1.less HK1.out.2.1, HK0.out.trans ((HS.out.2.1.trans g2).less HK1.out.2.1), HBW.out.2.trans (HS.out.2.2.trans g3)⟩
      have FIN := Lib.hid fin
      have HFF := Lib.hid HF.out.2.2
      clear fin
      cases hu : x.up with
      | true =>
        rw [hu] at k11
        have eu : ub x.up = 1 := by rw [hu]; rfl
        rw [eu] at FIN HFF
        clear hu eu HU
        go_wp2_with fail
        refine (writeL_c [x.dip, x.cvip, 1] _ rfl B q _ K1 3 w3 HN5.out HFF.out rfl (by omega) HLL.out HBS3.out).mono ?_
        rintro e w6 ⟨rfl, hN1, hk1, hb1⟩
        have HZ := Lib.hid (FIN.out w6 hN1 hk1 hb1)
        clear hN1 hk1 hb1 k0 k1 k2 k3 k4 k5 k6 k7 k8 k9 k10 k11
        go_wp2
        go_end0
        exact ⟨rfl, HZ.out.2⟩
      | false =>
        rw [hu] at k11
        have eu : ub x.up = 0 := by rw [hu]; rfl
        rw [eu] at FIN HFF
        clear hu eu HU
        go_wp2_with fail
        refine (writeL_c [x.dip, x.cvip, 0] _ rfl B q _ K1 3 w3 HN5.out HFF.out rfl (by omega) HLL.out HBS3.out).mono ?_
        rintro e w6 ⟨rfl, hN1, hk1, hb1⟩
        have HZ := Lib.hid (FIN.out w6 hN1 hk1 hb1)
        clear hN1 hk1 hb1 k0 k1 k2 k3 k4 k5 k6 k7 k8 k9 k10 k11
        go_wp2
        go_end0
        exact ⟨rfl, HZ.out.2⟩
end Go.Proofs.Ytbkpkakjfhkfaaa
