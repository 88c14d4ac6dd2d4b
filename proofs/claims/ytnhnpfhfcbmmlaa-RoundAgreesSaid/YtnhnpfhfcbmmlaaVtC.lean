/- large: how much there is of a log. Conditions: those stated. VoteTight's helper full: its walk. Conditions: those stated. VoteTight's walk. Conditions: those stated. -/
import Derived.Test.YtnhnpfhfcbmmlaaVhF
import Derived.LoopTactic
import Derived.OrdersHeld
import Derived.Deep.RegionHeld
import Derived.Deep.CutRange
namespace Go.Proofs.Ytnhnpfhfcbmmlaa
open Go Go.RowKit
set_option linter.unusedVariables false
set_option linter.unusedSimpArgs false

/-- How much there is of a log. -/
def totL : List Cm → Nat
  | [] => 0
  | x :: l => 1 + x.es.length + totL l
theorem totL_app (a b : List Cm) : totL (a ++ b) = totL a + totL b := by
  induction a with
  | nil => simp [totL]
  | cons x a ih => simp only [List.cons_append, totL, ih]; omega
theorem totL_len (l : List Cm) : l.length ≤ totL l := by
  induction l with
  | nil => simp [totL]
  | cons x a ih => simp only [List.length_cons, totL]; omega
theorem totL_es {l : List Cm} {x : Cm} (h : x ∈ l) : x.es.length ≤ totL l := by
  induction l with
  | nil => cases h
  | cons y a ih =>
    simp only [totL]
    rcases List.mem_cons.1 h with rfl | h
    · omega
    · have := ih h; omega
set_option maxRecDepth 100000 in
set_option maxHeartbeats 4000000 in
theorem large_c (ls : List Cm) (vs : List Value) (a : Option Addr) (n c : Nat) (w : World) (hI : InC w a n c ls vs) (hn : n ≤ 4611686018427387904) :
    Calls Try.prog 15 #[.slice a n c] w fun e w' => e = .returned (.bool (decide (400 < totL ls))) ∧ Below w.heap.size w w' := by
  have hlen := hI.len
  have hroom := hI.room
  have HI := Lib.hid hI
  have HB0 := Lib.hid (Below.refl w.heap.size w)
  have S0 : Hid (totL (ls.take 0) = 0) := Lib.hid rfl
  obtain ⟨R, hR⟩ : ∃ R, R = decide (400 < totL ls) := ⟨_, rfl⟩
  rw [← hR]
  have HR := Lib.hid hR
  clear hI hR
  go_enter Try.func15, Try.ntmps15
  go_wp2
  go_loopw [3, 5, 8] (fun tv _ iv wr => ∃ i t : Nat, i ≤ n ∧ t ≤ 400 ∧ iv = .int .i64 i ∧ tv = .int .i64 t ∧ Hid (totL (ls.take i) = t) ∧ Hid (Below w.heap.size w wr)) (fun _ _ iv _ => n - (intOf iv).toNat)
  case atStart => exact ⟨0, 0, by omega, by omega, rfl, rfl, S0, HB0⟩
  case round =>
    obtain ⟨i, t, hi, ht, rfl, rfl, HT, HB⟩ := hrel
    obtain ⟨w2, rfl⟩ : ∃ v, v = wr := ⟨_, rfl⟩
    clear S0 HB0
    by_cases hlt : i < n
    · have ii : (i : Int) < (n : Int) := by omega
      have i0 : (0 : Int) ≤ (i : Int) := by omega
      have ic : (i : Int) ≤ (c : Int) := by omega
      obtain ⟨b, off, rfl⟩ := HI.out.block (by omega)
      have hI2 := HI.out.below HB.out
      obtain ⟨k0, k1, k2, k3, k4, k5, k6, k7, k8, k9, k10, k11⟩ := hI2.cell hlt
      obtain ⟨a2, n2, c2, hv, hE⟩ := hI2.ends i hlt
      have hty := HI.out.ty hlt
      rw [hv] at k8
      have hmore : Hid (totL (ls.take (i + 1)) = totL (ls.take i) + (1 + (ls.getD i cm0).es.length) ∧ (ls.getD i cm0).es.length = n2 ∧ totL (ls.take (i + 1)) ≤ totL ls) := Lib.hid ⟨by rw [take_moreC ls (by omega), totL_app]; rfl, hE.len, by
        have := totL_app (ls.take (i + 1)) (ls.drop (i + 1))
        rw [List.take_append_drop] at this
        omega⟩
      have hfew := hty.few
      obtain ⟨x, ex⟩ : ∃ x, x = ls.getD i cm0 := ⟨_, rfl⟩
      rw [← ex] at k0 k1 k2 k3 k4 k5 k6 k7 k9 k10 k11 hmore hfew
      have hn2 : n2 ≤ 4611686018427387904 := by have := hmore.out.2.1; omega
      obtain ⟨w4, hw4⟩ : ∃ w4, w4 = w2.alloc (x.obj (.slice a2 n2 c2)) := ⟨_, rfl⟩
      have hA := bxC_new w2 x (.slice a2 n2 c2)
      rw [← hw4] at hA
      have hb4 : Below w2.heap.size w2 w4 := by rw [hw4]; exact bl_al (Below.refl _ _) _
      obtain ⟨q, hq⟩ : ∃ q, q = w2.heap.size := ⟨_, rfl⟩
      rw [← hq] at hA
      have d8 := hA.at.lit.2.2.2.2.2.2.2.2.1
      have HW := Lib.hid (And.intro hw4 hq)
      have HB4 := Lib.hid (bl_tr HB.out hb4)
      have vw1 : ∀ [Inhabited Nat], IntKind.i64.wrap (1 + (n2 : Int)) = 1 + (n2 : Int) := by intro _; exact IntWalk.i64_in _ (by omega)
      have vw2 : ∀ [Inhabited Nat], IntKind.i64.wrap ((t : Int) + (1 + (n2 : Int))) = (t : Int) + (1 + (n2 : Int)) := by intro _; exact IntWalk.i64_in _ (by omega)
      clear ex hv hE hI2 hty hfew hw4 hA hb4 hq
      go_upto_region 5 with fail
      rw [show w2.alloc (.cells #[.int .i64 x.node, .int .i64 x.boot, .int .i64 x.seq, .int .i64 x.time, .int .i64 x.kind, .int .u32 x.vip, .int .i64 x.proto, .int .i64 x.port, .slice a2 n2 c2, .int .u32 x.dip, .int .u32 x.cvip, .bool x.up] tyC) = w4 from HW.out.1.symm, ← HW.out.2]
      clear k0 k1 k2 k3 k4 k5 k6 k7 k8 k9 k10 k11
      by_cases hbig : t + (1 + n2) > 400
      · have gg : (400 : Int) < (t : Int) + (1 + (n2 : Int)) := by omega
        have HF : Hid (R = true) := Lib.hid (by rw [HR.out]; exact decide_eq_true (by have := hmore.out; have := HT.out; omega))
        go_wp2
        go_ret
        exact ⟨by rw [HF.out]; rfl, HB4.out⟩
      · have gg : ¬ (400 : Int) < (t : Int) + (1 + (n2 : Int)) := by omega
        have HF : Hid (totL (ls.take (i + 1)) = t + (1 + n2)) := Lib.hid (by have := hmore.out; have := HT.out; omega)
        go_wp2
        go_roundw
        case rel => exact ⟨i + 1, t + (1 + n2), by omega, by omega, by go_num, by go_num, HF, HB4⟩
        case measure => simp [intOf]; omega
    · have ii : ¬ (i : Int) < (n : Int) := by omega
      obtain rfl : i = n := by omega
      have HF : Hid (R = false) := Lib.hid (by
        rw [HR.out]
        refine decide_eq_false ?_
        have := HT.out
        rw [List.take_of_length_le (by omega)] at this
        omega)
      go_wp2
      go_ret
      exact ⟨by rw [HF.out]; rfl, HB.out⟩
end Go.Proofs.Ytnhnpfhfcbmmlaa
namespace Go.Proofs.Ytnhnpfhfcbmmlaa
open Go Go.RowKit
set_option linter.unusedVariables false
set_option linter.unusedSimpArgs false

theorem InC.lgk {w : World} {a : Option Addr} {n c : Nat} {ls : List Cm} {vs : List Value} (h : InC w a n c ls vs) {K : Nat → Prop} (hK : ∀ k, k < w.heap.size → K k) : LgK a n vs K := by
  refine ⟨fun ad e hn => ?_, fun j hj ad k c2 e hk => ?_⟩
  · obtain ⟨b, off, e2⟩ := h.block hn
    rw [e2] at e
    cases e
    rw [e2] at h
    exact hK _ (h.cell (j := 0) hn).lt
  · obtain ⟨a3, k3, c3, e2, hE⟩ := h.ends j hj
    rw [e] at e2
    simp only [Value.slice.injEq] at e2
    obtain ⟨e4, e5, _⟩ := e2
    exact hK _ (hE.blk ad e4.symm (by omega))
theorem hearN_cases (b pr : Bl) : hearN b pr = 0 ∧ OkB b ∧ ¬ LtB b pr ∨ hearN b pr = 8 ∨ hearN b pr = 9 := by
  unfold hearN
  by_cases h1 : OkB b
  · by_cases h2 : LtB b pr
    · rw [if_pos h1, if_pos h2]; exact .inr (.inl rfl)
    · rw [if_pos h1, if_neg h2]; exact .inl ⟨rfl, h1, h2⟩
  · rw [if_neg h1]; exact .inr (.inr rfl)
theorem saveP_or3 (size : Int) (ps l : List Pr) : (saveP size ps l).1 = 0 ∨ (saveP size ps l).1 = 5 ∨ (saveP size ps l).1 = 9 := by
  unfold saveP
  rcases puts_or3 size ps (dropP (keysP ps) l) with h | h | h
  · rw [if_pos h]; exact .inl rfl
  · rw [if_neg (by omega)]; exact .inr (.inl h)
  · rw [if_neg (by omega)]; exact .inr (.inr h)
/-- What an Accept comes to: the store says it. -/
theorem acc_ways {size : Int} {b pr ac : Bl} {ls lg : List Cm} {l : List Pr} (hE : EncS l pr ac ls) (ht : ∀ x ∈ lg, TyC x) :
    (accN size b pr lg l = 0 ∧ EncS (saveP size (accP b lg) l).2 b b lg) ∨ accN size b pr lg l = 5 ∨ accN size b pr lg l = 8 ∨ accN size b pr lg l = 9 := by
  unfold accN
  by_cases hg : GoodL lg
  · rw [if_pos hg]
    rcases hearN_cases b pr with ⟨h, hb, hl⟩ | h | h
    · rw [if_pos h]
      rcases saveP_or3 size (accP b lg) l with h3 | h3 | h3
      · exact .inl ⟨by rw [h3]; rfl, hE.acc hb hg ht h3⟩
      · exact .inr (.inl (by rw [h3]; rfl))
      · exact .inr (.inr (.inr (by rw [h3]; rfl)))
    · rw [if_neg (by omega)]; exact .inr (.inr (.inl h))
    · rw [if_neg (by omega)]; exact .inr (.inr (.inr h))
  · rw [if_neg hg]; exact .inr (.inr (.inr rfl))
theorem acc_first {size : Int} {b : Bl} {lg : List Cm} (h : accN size b bl0 lg [] = 8) : False := by
  unfold accN at h
  by_cases hg : GoodL lg
  · rw [if_pos hg] at h
    rcases hearN_cases b bl0 with ⟨h2, hb, hl⟩ | h2 | h2
    · rw [if_pos h2] at h
      rcases saveP_or3 size (accP b lg) [] with h3 | h3 | h3 <;> (rw [h3] at h; cases h)
    · unfold hearN at h2
      by_cases hb : OkB b
      · rw [if_pos hb] at h2
        by_cases hl : LtB b bl0
        · have hb2 := hb.1
          have e1 : bl0.n = 0 := rfl
          unfold LtB at hl
          omega
        · rw [if_neg hl] at h2; cases h2
      · rw [if_neg hb] at h2; cases h2
    · rw [if_neg (by omega)] at h; omega
  · rw [if_neg hg] at h; cases h
/-- A voter whose store says what it holds. -/
structure VE (w0 w : World) (p s : Nat) (Z : Int) (l : List Pr) (pr ac : Bl) (ls : List Cm) (K : Nat → Prop) : Prop where
  on : VOn w0 w p s Z l l pr ac ls 16 K
  enc : EncS l pr ac ls
theorem VE.acc {w0 w w' : World} {p s : Nat} {Z : Int} {l : List Pr} {pr ac : Bl} {ls : List Cm} {K : Nat → Prop} {b : Bl} {lg : List Cm} (hE : EncS l pr ac ls) (ht : ∀ x ∈ lg, TyC x) (h : AcO w0 w p s Z l l pr ac ls 16 K b lg w') :
    ∃ (n : Int) (l2 : List Pr) (pr2 ac2 : Bl) (ls2 : List Cm), n = accN Z b pr lg l ∧ (n = 0 ∨ n = 5 ∨ n = 8 ∨ n = 9) ∧ VE w0 w' p s Z l2 pr2 ac2 ls2 K ∧ (n ≠ 0 → pr2 = pr ∧ ac2 = ac ∧ ls2 = ls ∧ l2 = l) := by
  rcases acc_ways (size := Z) (b := b) hE ht with ⟨h0, h2⟩ | h0
  · exact ⟨0, _, b, b, lg, h0.symm, .inl rfl, ⟨h.yes h0, h2⟩, fun h => absurd rfl h⟩
  · refine ⟨_, l, pr, ac, ls, rfl, .inr h0, ⟨h.no (by omega), hE⟩, fun _ => ⟨rfl, rfl, rfl, rfl⟩⟩
theorem VE.new {w0 w w' : World} {p s : Nat} {Z : Int} {l : List Pr} {pr ac : Bl} {ls : List Cm} {K : Nat → Prop} (h : VE w0 w p s Z l pr ac ls K) (hb : Below w.heap.size w w') : VE w0 w' p s Z l pr ac ls K := ⟨(h.on.new hb).1, h.enc⟩
theorem VE.grow {w0 w w' : World} {p s : Nat} {Z : Int} {l : List Pr} {pr ac : Bl} {ls : List Cm} {K : Nat → Prop} (h : VE w0 w p s Z l pr ac ls K) (hb : Below w.heap.size w w') : VE w0 w' p s Z l pr ac ls (fun k => K k ∨ (w.heap.size ≤ k ∧ k < w'.heap.size)) := ⟨h.on.grow hb, h.enc⟩
theorem nil_neq5 (w : World) : (binOp .eql 28 .nilIface (errnoF 5)).run Try.prog w = .ok (.bool false) w := by kernel_rfl
theorem err_neq (n m : Int) (w : World) : (binOp .neq 28 (errnoF n) (errnoF m)).run Try.prog w = .ok (.bool (n != m)) w := by
  first | kernel_rfl | go_simp
set_option maxRecDepth 100000 in
set_option maxHeartbeats 32000000 in
theorem full_c (z : Int) (b c : Bl) (hb : TyB b) (hc : TyB c) (lg : List Cm) (us : List Value) (a : Option Addr) (n cc : Nat) (w : World) (hI : InC w a n cc lg us) (hn : n ≤ 4611686018427387904) :
    Calls Try.prog 43 #[.int .i64 z, b.val, c.val, .slice a n cc] w fun e w' => e = .returned (.bool true) ∧ Below w.heap.size w w' := by
  obtain ⟨wa, hwa⟩ : ∃ W, W = w.alloc b.obj := ⟨_, rfl⟩
  have hA := bxB_new w b
  rw [← hwa] at hA
  obtain ⟨qb, hqb⟩ : ∃ q, q = w.heap.size := ⟨_, rfl⟩
  rw [← hqb] at hA
  obtain ⟨wb, hwb⟩ : ∃ W, W = wa.alloc c.obj := ⟨_, rfl⟩
  have hC := bxB_new wa c
  rw [← hwb] at hC
  obtain ⟨qc, hqc⟩ : ∃ q, q = wa.heap.size := ⟨_, rfl⟩
  rw [← hqc] at hC
  have hba : Below w.heap.size w wa := by rw [hwa]; exact bl_al (Below.refl _ _) _
  have hbb : Below wa.heap.size wa wb := by rw [hwb]; exact bl_al (Below.refl _ _) _
  have HQC : Hid (qb + 1 = qc) := Lib.hid (by rw [hqc, hwa, hqb]; simp)
  have HWA := Lib.hid (And.intro hwa hqb)
  have HWB := Lib.hid (And.intro hwb hqc)
  have hA2 := hA.later hbb
  have HB0 := Lib.hid (bl_tr hba hbb)
  have HA := Lib.hid hA2
  have HC := Lib.hid hC
  have HI := Lib.hid (hI.below (bl_tr hba hbb))
  have HTB := Lib.hid (And.intro hb hc)
  have HTL := Lib.hid hI.typ
  have CA := Lib.hid (alive_c wb)
  have CL := Lib.hid (fun (wx : World) (hx : Below wb.heap.size wb wx) => large_c lg us a n cc wx (HI.out.below hx) hn)
  obtain ⟨X, hX⟩ : ∃ X, X = IntKind.u64.wrap z := ⟨_, rfl⟩
  have hX0 : 0 ≤ X := by rw [hX, IntKind.wrap_u64]; omega
  have m0 : ∀ [Inhabited Nat], IntKind.u64.wrap z = X := by intro _; exact hX.symm
  obtain ⟨Z, hZ⟩ : ∃ r : Int, r = X % 500 := ⟨_, rfl⟩
  have hZ0 : 0 ≤ Z ∧ Z < 500 := by omega
  have vr1 : X.tmod 500 = Z := by rw [Int.tmod_eq_emod_of_nonneg hX0]; exact hZ.symm
  have vr2 : ∀ [Inhabited Nat], IntKind.u64.wrap Z = Z := by intro _; exact IntWalk.u64_in _ (by omega)
  have vr3 : ∀ [Inhabited Nat], IntKind.i64.wrap Z = Z := by intro _; exact IntWalk.i64_in _ (by omega)
  have HOZ : Hid (OkZ Z) := Lib.hid ⟨by omega, by omega⟩
  clear hX hZ hwa hA hqb hwb hC hqc hba hbb hA2 hI hb hc
  go_enter Try.func43, Try.ntmps43
  go_upto_region 1 with fail
  rw [show w.alloc (.cells #[.int .i64 b.n, .int .i64 b.node] tyB2) = wa from HWA.out.1.symm, show wa.alloc (.cells #[.int .i64 c.n, .int .i64 c.node] tyB2) = wb from HWB.out.1.symm, ← HWA.out.2, HQC.out]
  go_wp2_with fail
  refine CA.out.mono ?_
  rintro e w1 ⟨rfl, hb1⟩
  have HB1 := Lib.hid hb1
  have CL1 := Lib.hid (CL.out w1 hb1)
  clear hb1 CA CL
  go_wp2_with fail
  refine CL1.out.mono ?_
  rintro e w2 ⟨rfl, hb2⟩
  have HB2 := Lib.hid (bl_tr HB1.out hb2)
  clear hb2 CL1
  by_cases hbig : 400 < totL lg
  · have HF := Lib.hid (bl_tr HB0.out HB2.out)
    rw [decide_eq_true hbig]
    go_wp2
    go_ret
    exact ⟨rfl, HF.out⟩
  · rw [decide_eq_false hbig]
    have hn400 : lg.length ≤ 400 := by have := totL_len lg; omega
    have HES : Hid (∀ x ∈ lg, x.es.length ≤ 400) := Lib.hid (fun x hx => by have := totL_es hx; omega)
    have CO := Lib.hid (opened_c Z 16 w2 HOZ.out ⟨by decide, by decide⟩)
    clear hbig
    go_wp2_with fail
    refine CO.out.mono ?_
    rintro e w3 ⟨h1, _, _⟩
    obtain ⟨s, p, rfl, hV⟩ := h1 (by decide)
    have hs0 : ((some (⟨s, 0, none⟩ : Addr)) == none) = false := rfl
    have hp0 : ((some (⟨p, 0, none⟩ : Addr)) == none) = false := rfl
    have HV3 := Lib.hid hV
    have HX3 : Hid (BxB w3 qb b ∧ BxB w3 qc c ∧ InC w3 a n cc lg us ∧ qb < w2.heap.size ∧ qc < w2.heap.size ∧ LgK a n us (Old w2)) := Lib.hid (by
      have hb23 := bl_tr HB2.out hV.bel
      have h2 := HA.out.later HB2.out
      have h3 := HC.out.later HB2.out
      exact ⟨HA.out.later hb23, HC.out.later hb23, HI.out.below hb23, h2.lt, h3.lt, (HI.out.below HB2.out).lgk (fun k hk => hk)⟩)
    clear h1 hV CO HA HC HI
    -- the first Accept
    have CH0 := fun W => health_c 1 W
    obtain ⟨x, hx⟩ : ∃ x, x = hlt 1 := ⟨_, rfl⟩
    rw [← hx] at CH0
    have CH := Lib.hid CH0
    have HXT : Hid (TyC x ∧ x.es = []) := Lib.hid ⟨by rw [hx]; exact hlt_ty ⟨by decide, by decide⟩, by rw [hx]; rfl⟩
    clear hx CH0
    have hS0 : w3.drew.cell? ⟨qb, 0, none⟩ = some (.int .i64 b.n) ∧ w3.drew.cell? ⟨qb, 1, none⟩ = some (.int .i64 b.node) := ⟨HX3.out.1.at.1, HX3.out.1.at.2⟩
    go_upto_region 8 with fail
    go_region_held3 (fun wx => wx.cell? ⟨qb, 0, none⟩ = some (.int .i64 b.n) ∧ wx.cell? ⟨qb, 1, none⟩ = some (.int .i64 b.node)) (first | (with_reducible exact hS0) | (with_reducible assumption) | (with_reducible exact hS2 _) | fail)
      (first
        | (go_at_call 41; (with_reducible refine (CH.out _).mono ?_); rintro e wA ⟨rfl, hbA⟩; have hbA3 := bl_tr (Below.refl w3.heap.size w3).drew hbA; have hVA := HV3.out.grow hbA3; have hXA := HX3.out.1.later hbA3; have hS1 := (show wA.cell? ⟨qb, 0, none⟩ = some (.int .i64 b.n) ∧ wA.cell? ⟨qb, 1, none⟩ = some (.int .i64 b.node) from ⟨hXA.at.1, hXA.at.2⟩); have hS2 := (fun (o : Obj) => (show (wA.alloc o).cell? ⟨qb, 0, none⟩ = some (.int .i64 b.n) ∧ (wA.alloc o).cell? ⟨qb, 1, none⟩ = some (.int .i64 b.node) from ⟨cell_later (bl_al (Below.refl wA.heap.size wA) o) hS1.1, cell_later (bl_al (Below.refl wA.heap.size wA) o) hS1.2⟩)))
        | (go_at_call 33; (refine (accept_c w2 (wA.alloc (x.obj (.slice none 0 0))) p s Z [] [] bl0 bl0 [] 16 _ b HTB.out.1 (hVA.grow (bl_al (Below.refl wA.heap.size wA) (x.obj (.slice none 0 0)))) [x] _ 1 1 _ (inC_one wA x HXT.out.1 HXT.out.2) (lgK_one (.inr ⟨Nat.le_refl _, by simp⟩)) (by omega)).mono ?_); rintro e w4 ⟨rfl, hAc⟩; have hS3 := (show w4.cell? ⟨qb, 0, none⟩ = some (.int .i64 b.n) ∧ w4.cell? ⟨qb, 1, none⟩ = some (.int .i64 b.node) from by
              have hk9 : BxB w4 qb b := (hAc.kpt qb (.inl (.inl HX3.out.2.2.2.1))).trans (hXA.later (bl_al (Below.refl wA.heap.size wA) _))
              exact ⟨hk9.at.1, hk9.at.2⟩))
        | fail)
    all_goals
      have hbA4 : Below w3.heap.size w3 (wA.alloc (x.obj (.slice none 0 0))) := bl_tr hbA3 (bl_al (Below.refl wA.heap.size wA) _)
      have hkC : BxB w4 qc c := (hAc.kpt qc (.inl (.inl HX3.out.2.2.2.2.1))).trans (HX3.out.2.1.later hbA4)
      have hIC : InC w4 a n cc lg us := (HX3.out.2.2.1.below hbA4).kptw hAc.kpt ⟨fun ad e h => .inl (.inl (HX3.out.2.2.2.2.2.1 ad e h)), fun j hj ad k c2 e h => .inl (.inl (HX3.out.2.2.2.2.2.2 j hj ad k c2 e h))⟩
      obtain ⟨n1, l1, pr1, ac1, ls1, hn1, hor, hVE, _⟩ := VE.acc enc_nil (fun y hy => by rw [List.mem_singleton] at hy; rw [hy]; exact HXT.out.1) hAc
      have hor1 : n1 = 0 ∨ n1 = 5 ∨ n1 = 9 := by
        rcases hor with h | h | h | h
        · exact .inl h
        · exact .inr (.inl h)
        · exact (acc_first (by rw [← hn1]; exact h)).elim
        · exact .inr (.inr h)
      rw [← hn1]
      have HVE4 : Hid (VE w2 w4 p s Z l1 pr1 ac1 ls1 (Old w2)) := Lib.hid ⟨hVE.on.less (fun k hk => .inl (.inl hk)), hVE.enc⟩
      have HX4 : Hid (BxB w4 qc c ∧ InC w4 a n cc lg us) := Lib.hid ⟨hkC, hIC⟩
      have HLK := Lib.hid HX3.out.2.2.2.2.2
      clear hS0 hS1 hS2 hS3 hbA hbA3 hVA hXA hbA4 hkC hIC hAc hn1 hor hVE HX3 HV3
      go_upto_region 9 with fail
      -- what it holds then
      obtain ⟨aW, cW, vW, hVW⟩ := HVE4.out.on
      have CP := Lib.hid (promised_c w4 p s pr1 ac1 _ 16 hVW.ob)
      clear hVW
      go_wp2_with fail
      refine CP.out.mono ?_
      rintro e w5 ⟨rfl, hb5⟩
      obtain ⟨w6, hw6⟩ : ∃ w6, w6 = w5.alloc (.cells #[.int .i64 pr1.n, .int .i64 pr1.node] tyB2) := ⟨_, rfl⟩
      have hb6 : Below w5.heap.size w5 w6 := by rw [hw6]; exact bl_al (Below.refl _ _) _
      have hX6 := bxB_new w5 pr1
      rw [show w5.alloc pr1.obj = w6 from hw6.symm] at hX6
      obtain ⟨q12, hq12⟩ : ∃ q, q = w5.heap.size := ⟨_, rfl⟩
      rw [← hq12] at hX6
      have HV6 := Lib.hid (HVE4.out.new (bl_tr hb5 hb6))
      have HW6 := Lib.hid (And.intro hw6 hq12)
      have HB46 := Lib.hid (bl_tr hb5 hb6)
      have HX6 : Hid (BxB w6 q12 pr1 ∧ w4.heap.size ≤ q12) := Lib.hid ⟨hX6, by have := hb5.size; omega⟩
      obtain ⟨aW, cW, vW, hVW⟩ := HV6.out.on
      have CC := Lib.hid (accepted_c w6 p s pr1 ac1 ls1 aW cW vW 16 hVW.ob hVW.log hVW.few)
      clear hb5 hw6 hb6 hX6 hq12 CP hVW
      go_upto_region 10 with fail
      rw [show w5.alloc (.cells #[.int .i64 pr1.n, .int .i64 pr1.node] tyB2) = w6 from HW6.out.1.symm, ← HW6.out.2]
      go_wp2_with fail
      refine CC.out.mono ?_
      rintro e w7 ⟨⟨aT, cT, vT, rfl, hOT⟩, hb7⟩
      obtain ⟨w8, hw8⟩ : ∃ w8, w8 = w7.alloc (.cells #[.int .i64 ac1.n, .int .i64 ac1.node] tyB2) := ⟨_, rfl⟩
      have hb8 : Below w7.heap.size w7 w8 := by rw [hw8]; exact bl_al (Below.refl _ _) _
      have hX8 := bxB_new w7 ac1
      rw [show w7.alloc ac1.obj = w8 from hw8.symm] at hX8
      obtain ⟨q13, hq13⟩ : ∃ q, q = w7.heap.size := ⟨_, rfl⟩
      rw [← hq13] at hX8
      have hb68 := bl_tr hb7 hb8
      have hb48 := bl_tr HB46.out hb68
      have HW8 := Lib.hid (And.intro hw8 hq13)
      have HV8 := Lib.hid (HVE4.out.grow hb48)
      have HOT := Lib.hid (And.intro (hOT.later hb8) HB46.out.size)
      have HX8 : Hid (BxB w8 q12 pr1 ∧ BxB w8 q13 ac1 ∧ BxB w8 qc c ∧ InC w8 a n cc lg us ∧ w4.heap.size ≤ q12 ∧ w4.heap.size ≤ q13) := Lib.hid ⟨HX6.out.1.later hb68, hX8, HX4.out.1.later hb48, HX4.out.2.below hb48, HX6.out.2, by have := HB46.out.size; have := hb7.size; omega⟩
      clear hb7 hw8 hb8 hX8 hq13 hb68 hb48 hOT CC HV6 HX6 HX4 HB46
      go_upto_region 11 with fail
      rw [show w7.alloc (.cells #[.int .i64 ac1.n, .int .i64 ac1.node] tyB2) = w8 from HW8.out.1.symm, ← HW8.out.2]
      -- the second Accept
      obtain ⟨x0, x1⟩ := HX8.out.2.2.1.at
      have CA2 := Lib.hid (accept_c w2 w8 p s Z l1 l1 pr1 ac1 ls1 16 _ c HTB.out.2 HV8.out.on lg a n cc us HX8.out.2.2.2.1 ⟨fun ad e h => .inl (HLK.out.1 ad e h), fun j hj ad k c2 e h => .inl (HLK.out.2 j hj ad k c2 e h)⟩ hn)
      go_wp2_with fail
      refine CA2.out.mono ?_
      rintro e w9 ⟨rfl, hAc⟩
      obtain ⟨n2, l2, pr2, ac2, ls2, hn2, hor2, hVE9, hsame⟩ := VE.acc HV8.out.enc HTL.out hAc
      rw [← hn2]
      have hkp := hAc.kpt
      have l12 := HX8.out.1.lt
      have l13 := HX8.out.2.1.lt
      have HIT : Hid (InC w9 aT ls1.length cT ls1 vT) := Lib.hid (((HOT.out.1.in HV8.out.enc.typ).kptw hkp (lgK_of HOT.out.1.vlen (fun k hk => by
        have := HOT.out.1.blk k hk
        have := HOT.out.2
        exact .inr ⟨by omega, by omega⟩))))
      have HX9 : Hid (BxB w9 q12 pr1 ∧ BxB w9 q13 ac1) := Lib.hid ⟨(hkp q12 (.inr ⟨HX8.out.2.2.2.2.1, l12⟩)).trans HX8.out.1, (hkp q13 (.inr ⟨HX8.out.2.2.2.2.2, l13⟩)).trans HX8.out.2.1⟩
      have HVE9 := Lib.hid hVE9
      have HSM := Lib.hid hsame
      have HT1 := Lib.hid (And.intro HV8.out.enc.typ (fun (y : Cm) (hy : y ∈ ls1) => goodC_es (HV8.out.enc.good.2.1 y hy)))
      clear hAc hn2 hVE9 hsame hkp l12 l13 x0 x1 CA2 HX8 HV8 HOT HLK HTL
      go_upto_region 12 with fail
      go_cut [68] from 57 to 68 (fun v wx => v = .bool false ∧ w9 = wx)
      case first =>
        rcases hor1 with rfl | rfl | rfl
        · rw [show errF 0 = .nilIface from rfl]
          have qn := nilNe
          go_wp2
          go_meet
          exact ⟨rfl, rfl⟩
        · rw [show errF 5 = errnoF 5 from rfl]
          have qn := five_neq
          have qm := fun W => err_neq 5 5 W
          go_wp2
          go_meet
          exact ⟨rfl, rfl⟩
        · rw [show errF 9 = errnoF 9 from rfl]
          have qn := nine_neq
          have qm := fun W => err_neq 9 5 W
          have qo := fun W => err_neq 9 9 W
          go_wp2
          go_meet
          exact ⟨rfl, rfl⟩
      case rest =>
        obtain ⟨rfl, rfl⟩ := hcut
        go_upto_region 14 with fail
        go_cut [86] from 69 to 86 (fun v wx => v = .bool false ∧ Hid (Below w9.heap.size w9 wx))
        case first =>
          have hS0 : w9.drew.cell? ⟨q12, 0, none⟩ = some (.int .i64 pr1.n) ∧ w9.drew.cell? ⟨q12, 1, none⟩ = some (.int .i64 pr1.node) := ⟨HX9.out.1.at.1, HX9.out.1.at.2⟩
          have HD := Lib.hid (show Below w9.heap.size w9 w9.drew from (Below.refl _ _).drew)
          by_cases h5 : n2 = 5
          · have hpr := (HSM.out (by omega)).1
            obtain ⟨aW, cW, vW, hVW⟩ := HVE9.out.on
            have hobW := hVW.ob
            have CPW := Lib.hid (fun (wx : World) (hx : Below w9.heap.size w9 wx) => promised_c wx p s pr2 ac2 _ 16 ((hx.block p hobW.lt).trans hobW))
            rw [hpr] at CPW
            have CUW := Lib.hid (fun (wx : World) (hx : Below w9.heap.size w9 wx) => (hVW.st.new hx).1.used)
            have gu : ¬ Z < (usedP l2 : Int) := by have := hVW.st.facts.2.2.2.1; omega
            subst h5
            rw [show errF 5 = errnoF 5 from rfl]
            have qe := fun W => err_eql 5 5 W
            have qb := fun W => bl_neq pr1 pr1 W
            clear hVW hobW hpr
            go_region_held3 (fun wx => wx.cell? ⟨q12, 0, none⟩ = some (.int .i64 pr1.n) ∧ wx.cell? ⟨q12, 1, none⟩ = some (.int .i64 pr1.node)) (first | (with_reducible exact hS0) | (with_reducible assumption) | fail)
              (first
                | (go_at_call 40; (with_reducible refine (CPW.out _ HD.out).mono ?_); rintro e wA ⟨rfl, hbA⟩; have hbA9 := bl_tr HD.out hbA; have hS1 := (show wA.cell? ⟨q12, 0, none⟩ = some (.int .i64 pr1.n) ∧ wA.cell? ⟨q12, 1, none⟩ = some (.int .i64 pr1.node) from ⟨(HX9.out.1.later hbA9).at.1, (HX9.out.1.later hbA9).at.2⟩))
                | (go_at_call 91; (with_reducible refine (CUW.out _ hbA9).mono ?_); rintro e wB ⟨rfl, htB⟩; have hbB := non_below htB; have hbB9 := bl_tr hbA9 hbB; have hS2 := (show wB.cell? ⟨q12, 0, none⟩ = some (.int .i64 pr1.n) ∧ wB.cell? ⟨q12, 1, none⟩ = some (.int .i64 pr1.node) from ⟨(HX9.out.1.later hbB9).at.1, (HX9.out.1.later hbB9).at.2⟩))
                | fail)
            all_goals
              have HF := Lib.hid hbB9
              clear hS0 hS1 hS2 hbA hbA9 htB hbB hbB9
              go_wp2
              go_meet
              exact ⟨congrArg Value.bool (decide_eq_false (by omega)), HF⟩
          · rcases hor2 with h | h | h | h
            · subst h
              rw [show errF 0 = .nilIface from rfl]
              have qe := nil_neq5
              refine wp_region_held_drew (S := (fun wx => wx.cell? ⟨q12, 0, none⟩ = some (.int .i64 pr1.n) ∧ wx.cell? ⟨q12, 1, none⟩ = some (.int .i64 pr1.node))) (by kernel_rfl) hS0 (fun hHeld => ?_)
              refine wpAnyH_take (i := 0) (v := ?_) rfl (by kernel_rfl) (by kernel_rfl) (by kernel_rfl) (fun _ _ _ h => h) (Or.inl ⟨by rfl, ?_⟩) (by assumption) ?_
              rotate_left
              · intro wz hSw; (try dsimp only at hSw); (try simp only [List.getElem_toArray, List.getElem_cons_zero, List.getElem_cons_succ]); go_simp; first | done | with_reducible rfl
              try simp only [Act.put, List.setIfInBounds_toArray, List.set_cons_zero, List.set_cons_succ, List.getElem_toArray, List.getElem_cons_zero, List.getElem_cons_succ]
              refine wpAnyH_take (i := 1) (v := ?_) rfl (by kernel_rfl) (by kernel_rfl) (by kernel_rfl) (fun _ _ _ h => h) (Or.inl ⟨by rfl, ?_⟩) (by assumption) ?_
              rotate_left
              · intro wz hSw; (try dsimp only at hSw); (try simp only [List.getElem_toArray, List.getElem_cons_zero, List.getElem_cons_succ]); go_simp; first | done | with_reducible rfl
              try simp only [Act.put, List.setIfInBounds_toArray, List.set_cons_zero, List.set_cons_succ, List.getElem_toArray, List.getElem_cons_zero, List.getElem_cons_succ]
              refine wpAnyH_take (i := 2) (v := ?_) rfl (by kernel_rfl) (by kernel_rfl) (by kernel_rfl) (fun _ _ _ h => h) (Or.inl ⟨by rfl, ?_⟩) (by assumption) ?_
              rotate_left
              · intro wz hSw; (try dsimp only at hSw); (try simp only [List.getElem_toArray, List.getElem_cons_zero, List.getElem_cons_succ]); go_simp; first | done | with_reducible rfl
              try simp only [Act.put, List.setIfInBounds_toArray, List.set_cons_zero, List.set_cons_succ, List.getElem_toArray, List.getElem_cons_zero, List.getElem_cons_succ]
              refine wpAnyH_take (i := 3) (v := ?_) rfl (by kernel_rfl) (by kernel_rfl) (by kernel_rfl) (fun _ _ _ h => h) (Or.inl ⟨by rfl, ?_⟩) (by assumption) ?_
              rotate_left
              · intro wz hSw; (try dsimp only at hSw); (try simp only [List.getElem_toArray, List.getElem_cons_zero, List.getElem_cons_succ]); go_simp; first | done | with_reducible rfl
              try simp only [Act.put, List.setIfInBounds_toArray, List.set_cons_zero, List.set_cons_succ, List.getElem_toArray, List.getElem_cons_zero, List.getElem_cons_succ]
              refine wpAnyH_take (i := 4) (v := undef) rfl (by kernel_rfl) (by kernel_rfl) (by kernel_rfl) (fun _ _ _ h => h) (Or.inr ⟨by rfl, rfl⟩) (by assumption) ?_
              try simp only [Act.put, List.setIfInBounds_toArray, List.set_cons_zero, List.set_cons_succ, List.getElem_toArray, List.getElem_cons_zero, List.getElem_cons_succ]
              refine wpAnyH_take (i := 5) (v := undef) rfl (by kernel_rfl) (by kernel_rfl) (by kernel_rfl) (fun _ _ _ h => h) (Or.inr ⟨by rfl, rfl⟩) (by assumption) ?_
              try simp only [Act.put, List.setIfInBounds_toArray, List.set_cons_zero, List.set_cons_succ, List.getElem_toArray, List.getElem_cons_zero, List.getElem_cons_succ]
              refine wpAnyH_take (i := 6) (v := undef) rfl (by kernel_rfl) (by kernel_rfl) (by kernel_rfl) (fun _ _ _ h => h) (Or.inr ⟨by rfl, rfl⟩) (by assumption) ?_
              try simp only [Act.put, List.setIfInBounds_toArray, List.set_cons_zero, List.set_cons_succ, List.getElem_toArray, List.getElem_cons_zero, List.getElem_cons_succ]
              refine wpAnyH_take (i := 7) (v := undef) rfl (by kernel_rfl) (by kernel_rfl) (by kernel_rfl) (fun _ _ _ h => h) (Or.inr ⟨by rfl, rfl⟩) (by assumption) ?_
              try simp only [Act.put, List.setIfInBounds_toArray, List.set_cons_zero, List.set_cons_succ, List.getElem_toArray, List.getElem_cons_zero, List.getElem_cons_succ]
              refine wpAnyH_take (i := 8) (v := undef) rfl (by kernel_rfl) (by kernel_rfl) (by kernel_rfl) (fun _ _ _ h => h) (Or.inr ⟨by rfl, rfl⟩) (by assumption) ?_
              try simp only [Act.put, List.setIfInBounds_toArray, List.set_cons_zero, List.set_cons_succ, List.getElem_toArray, List.getElem_cons_zero, List.getElem_cons_succ]
              refine wpAnyH_take (i := 9) (v := undef) rfl (by kernel_rfl) (by kernel_rfl) (by kernel_rfl) (fun _ _ _ h => h) (Or.inr ⟨by rfl, rfl⟩) (by assumption) ?_
              try simp only [Act.put, List.setIfInBounds_toArray, List.set_cons_zero, List.set_cons_succ, List.getElem_toArray, List.getElem_cons_zero, List.getElem_cons_succ]
              refine wpAnyH_take (i := 10) (v := undef) rfl (by kernel_rfl) (by kernel_rfl) (by kernel_rfl) (fun _ _ _ h => h) (Or.inr ⟨by rfl, rfl⟩) (by assumption) ?_
              try simp only [Act.put, List.setIfInBounds_toArray, List.set_cons_zero, List.set_cons_succ, List.getElem_toArray, List.getElem_cons_zero, List.getElem_cons_succ]
              refine wpAnyH_take (i := 11) (v := undef) rfl (by kernel_rfl) (by kernel_rfl) (by kernel_rfl) (fun _ _ _ h => h) (Or.inr ⟨by rfl, rfl⟩) (by assumption) ?_
              try simp only [Act.put, List.setIfInBounds_toArray, List.set_cons_zero, List.set_cons_succ, List.getElem_toArray, List.getElem_cons_zero, List.getElem_cons_succ]
              refine wpAnyH_take (i := 12) (v := undef) rfl (by kernel_rfl) (by kernel_rfl) (by kernel_rfl) (fun _ _ _ h => h) (Or.inr ⟨by rfl, rfl⟩) (by assumption) ?_
              try simp only [Act.put, List.setIfInBounds_toArray, List.set_cons_zero, List.set_cons_succ, List.getElem_toArray, List.getElem_cons_zero, List.getElem_cons_succ]
              refine wpAnyH_take (i := 13) (v := undef) rfl (by kernel_rfl) (by kernel_rfl) (by kernel_rfl) (fun _ _ _ h => h) (Or.inr ⟨by rfl, rfl⟩) (by assumption) ?_
              try simp only [Act.put, List.setIfInBounds_toArray, List.set_cons_zero, List.set_cons_succ, List.getElem_toArray, List.getElem_cons_zero, List.getElem_cons_succ]
              refine wpAnyH_take (i := 14) (v := undef) rfl (by kernel_rfl) (by kernel_rfl) (by kernel_rfl) (fun _ _ _ h => h) (Or.inr ⟨by rfl, rfl⟩) (by assumption) ?_
              try simp only [Act.put, List.setIfInBounds_toArray, List.set_cons_zero, List.set_cons_succ, List.getElem_toArray, List.getElem_cons_zero, List.getElem_cons_succ]
              refine wpAnyH_take (i := 15) (v := undef) rfl (by kernel_rfl) (by kernel_rfl) (by kernel_rfl) (fun _ _ _ h => h) (Or.inr ⟨by rfl, rfl⟩) (by assumption) ?_
              try simp only [Act.put, List.setIfInBounds_toArray, List.set_cons_zero, List.set_cons_succ, List.getElem_toArray, List.getElem_cons_zero, List.getElem_cons_succ]
              refine wpAnyH_take (i := 16) (v := undef) rfl (by kernel_rfl) (by kernel_rfl) (by kernel_rfl) (fun _ _ _ h => h) (Or.inr ⟨by rfl, rfl⟩) (by assumption) ?_
              try simp only [Act.put, List.setIfInBounds_toArray, List.set_cons_zero, List.set_cons_succ, List.getElem_toArray, List.getElem_cons_zero, List.getElem_cons_succ]
              refine wpAnyH_take (i := 17) (v := ?_) rfl (by kernel_rfl) (by kernel_rfl) (by kernel_rfl) (fun _ _ _ h => h) (Or.inl ⟨by rfl, ?_⟩) (by assumption) ?_
              rotate_left
              · intro wz hSw; (try dsimp only at hSw); (try simp only [List.getElem_toArray, List.getElem_cons_zero, List.getElem_cons_succ]); go_simp; first | done | with_reducible rfl
              try simp only [Act.put, List.setIfInBounds_toArray, List.set_cons_zero, List.set_cons_succ, List.getElem_toArray, List.getElem_cons_zero, List.getElem_cons_succ]
              refine wpAnyH_done (by kernel_rfl) ?_ _
              have HF := HD
              clear hS0 hHeld HD
              go_wp2
              go_meet
              exact ⟨rfl, HF⟩
            · exact absurd h h5
            · subst h
              rw [show errF 8 = errnoF 8 from rfl]
              have qe := fun W => err_eql 8 5 W
              refine wp_region_held_drew (S := (fun wx => wx.cell? ⟨q12, 0, none⟩ = some (.int .i64 pr1.n) ∧ wx.cell? ⟨q12, 1, none⟩ = some (.int .i64 pr1.node))) (by kernel_rfl) hS0 (fun hHeld => ?_)
              refine wpAnyH_take (i := 0) (v := ?_) rfl (by kernel_rfl) (by kernel_rfl) (by kernel_rfl) (fun _ _ _ h => h) (Or.inl ⟨by rfl, ?_⟩) (by assumption) ?_
              rotate_left
              · intro wz hSw; (try dsimp only at hSw); (try simp only [List.getElem_toArray, List.getElem_cons_zero, List.getElem_cons_succ]); go_simp; first | done | with_reducible rfl
              try simp only [Act.put, List.setIfInBounds_toArray, List.set_cons_zero, List.set_cons_succ, List.getElem_toArray, List.getElem_cons_zero, List.getElem_cons_succ]
              refine wpAnyH_take (i := 1) (v := ?_) rfl (by kernel_rfl) (by kernel_rfl) (by kernel_rfl) (fun _ _ _ h => h) (Or.inl ⟨by rfl, ?_⟩) (by assumption) ?_
              rotate_left
              · intro wz hSw; (try dsimp only at hSw); (try simp only [List.getElem_toArray, List.getElem_cons_zero, List.getElem_cons_succ]); go_simp; first | done | with_reducible rfl
              try simp only [Act.put, List.setIfInBounds_toArray, List.set_cons_zero, List.set_cons_succ, List.getElem_toArray, List.getElem_cons_zero, List.getElem_cons_succ]
              refine wpAnyH_take (i := 2) (v := ?_) rfl (by kernel_rfl) (by kernel_rfl) (by kernel_rfl) (fun _ _ _ h => h) (Or.inl ⟨by rfl, ?_⟩) (by assumption) ?_
              rotate_left
              · intro wz hSw; (try dsimp only at hSw); (try simp only [List.getElem_toArray, List.getElem_cons_zero, List.getElem_cons_succ]); go_simp; first | done | with_reducible rfl
              try simp only [Act.put, List.setIfInBounds_toArray, List.set_cons_zero, List.set_cons_succ, List.getElem_toArray, List.getElem_cons_zero, List.getElem_cons_succ]
              refine wpAnyH_take (i := 3) (v := ?_) rfl (by kernel_rfl) (by kernel_rfl) (by kernel_rfl) (fun _ _ _ h => h) (Or.inl ⟨by rfl, ?_⟩) (by assumption) ?_
              rotate_left
              · intro wz hSw; (try dsimp only at hSw); (try simp only [List.getElem_toArray, List.getElem_cons_zero, List.getElem_cons_succ]); go_simp; first | done | with_reducible rfl
              try simp only [Act.put, List.setIfInBounds_toArray, List.set_cons_zero, List.set_cons_succ, List.getElem_toArray, List.getElem_cons_zero, List.getElem_cons_succ]
              refine wpAnyH_take (i := 4) (v := undef) rfl (by kernel_rfl) (by kernel_rfl) (by kernel_rfl) (fun _ _ _ h => h) (Or.inr ⟨by rfl, rfl⟩) (by assumption) ?_
              try simp only [Act.put, List.setIfInBounds_toArray, List.set_cons_zero, List.set_cons_succ, List.getElem_toArray, List.getElem_cons_zero, List.getElem_cons_succ]
              refine wpAnyH_take (i := 5) (v := undef) rfl (by kernel_rfl) (by kernel_rfl) (by kernel_rfl) (fun _ _ _ h => h) (Or.inr ⟨by rfl, rfl⟩) (by assumption) ?_
              try simp only [Act.put, List.setIfInBounds_toArray, List.set_cons_zero, List.set_cons_succ, List.getElem_toArray, List.getElem_cons_zero, List.getElem_cons_succ]
              refine wpAnyH_take (i := 6) (v := undef) rfl (by kernel_rfl) (by kernel_rfl) (by kernel_rfl) (fun _ _ _ h => h) (Or.inr ⟨by rfl, rfl⟩) (by assumption) ?_
              try simp only [Act.put, List.setIfInBounds_toArray, List.set_cons_zero, List.set_cons_succ, List.getElem_toArray, List.getElem_cons_zero, List.getElem_cons_succ]
              refine wpAnyH_take (i := 7) (v := undef) rfl (by kernel_rfl) (by kernel_rfl) (by kernel_rfl) (fun _ _ _ h => h) (Or.inr ⟨by rfl, rfl⟩) (by assumption) ?_
              try simp only [Act.put, List.setIfInBounds_toArray, List.set_cons_zero, List.set_cons_succ, List.getElem_toArray, List.getElem_cons_zero, List.getElem_cons_succ]
              refine wpAnyH_take (i := 8) (v := undef) rfl (by kernel_rfl) (by kernel_rfl) (by kernel_rfl) (fun _ _ _ h => h) (Or.inr ⟨by rfl, rfl⟩) (by assumption) ?_
              try simp only [Act.put, List.setIfInBounds_toArray, List.set_cons_zero, List.set_cons_succ, List.getElem_toArray, List.getElem_cons_zero, List.getElem_cons_succ]
              refine wpAnyH_take (i := 9) (v := undef) rfl (by kernel_rfl) (by kernel_rfl) (by kernel_rfl) (fun _ _ _ h => h) (Or.inr ⟨by rfl, rfl⟩) (by assumption) ?_
              try simp only [Act.put, List.setIfInBounds_toArray, List.set_cons_zero, List.set_cons_succ, List.getElem_toArray, List.getElem_cons_zero, List.getElem_cons_succ]
              refine wpAnyH_take (i := 10) (v := undef) rfl (by kernel_rfl) (by kernel_rfl) (by kernel_rfl) (fun _ _ _ h => h) (Or.inr ⟨by rfl, rfl⟩) (by assumption) ?_
              try simp only [Act.put, List.setIfInBounds_toArray, List.set_cons_zero, List.set_cons_succ, List.getElem_toArray, List.getElem_cons_zero, List.getElem_cons_succ]
              refine wpAnyH_take (i := 11) (v := undef) rfl (by kernel_rfl) (by kernel_rfl) (by kernel_rfl) (fun _ _ _ h => h) (Or.inr ⟨by rfl, rfl⟩) (by assumption) ?_
              try simp only [Act.put, List.setIfInBounds_toArray, List.set_cons_zero, List.set_cons_succ, List.getElem_toArray, List.getElem_cons_zero, List.getElem_cons_succ]
              refine wpAnyH_take (i := 12) (v := undef) rfl (by kernel_rfl) (by kernel_rfl) (by kernel_rfl) (fun _ _ _ h => h) (Or.inr ⟨by rfl, rfl⟩) (by assumption) ?_
              try simp only [Act.put, List.setIfInBounds_toArray, List.set_cons_zero, List.set_cons_succ, List.getElem_toArray, List.getElem_cons_zero, List.getElem_cons_succ]
              refine wpAnyH_take (i := 13) (v := undef) rfl (by kernel_rfl) (by kernel_rfl) (by kernel_rfl) (fun _ _ _ h => h) (Or.inr ⟨by rfl, rfl⟩) (by assumption) ?_
              try simp only [Act.put, List.setIfInBounds_toArray, List.set_cons_zero, List.set_cons_succ, List.getElem_toArray, List.getElem_cons_zero, List.getElem_cons_succ]
              refine wpAnyH_take (i := 14) (v := undef) rfl (by kernel_rfl) (by kernel_rfl) (by kernel_rfl) (fun _ _ _ h => h) (Or.inr ⟨by rfl, rfl⟩) (by assumption) ?_
              try simp only [Act.put, List.setIfInBounds_toArray, List.set_cons_zero, List.set_cons_succ, List.getElem_toArray, List.getElem_cons_zero, List.getElem_cons_succ]
              refine wpAnyH_take (i := 15) (v := undef) rfl (by kernel_rfl) (by kernel_rfl) (by kernel_rfl) (fun _ _ _ h => h) (Or.inr ⟨by rfl, rfl⟩) (by assumption) ?_
              try simp only [Act.put, List.setIfInBounds_toArray, List.set_cons_zero, List.set_cons_succ, List.getElem_toArray, List.getElem_cons_zero, List.getElem_cons_succ]
              refine wpAnyH_take (i := 16) (v := undef) rfl (by kernel_rfl) (by kernel_rfl) (by kernel_rfl) (fun _ _ _ h => h) (Or.inr ⟨by rfl, rfl⟩) (by assumption) ?_
              try simp only [Act.put, List.setIfInBounds_toArray, List.set_cons_zero, List.set_cons_succ, List.getElem_toArray, List.getElem_cons_zero, List.getElem_cons_succ]
              refine wpAnyH_take (i := 17) (v := ?_) rfl (by kernel_rfl) (by kernel_rfl) (by kernel_rfl) (fun _ _ _ h => h) (Or.inl ⟨by rfl, ?_⟩) (by assumption) ?_
              rotate_left
              · intro wz hSw; (try dsimp only at hSw); (try simp only [List.getElem_toArray, List.getElem_cons_zero, List.getElem_cons_succ]); go_simp; first | done | with_reducible rfl
              try simp only [Act.put, List.setIfInBounds_toArray, List.set_cons_zero, List.set_cons_succ, List.getElem_toArray, List.getElem_cons_zero, List.getElem_cons_succ]
              refine wpAnyH_done (by kernel_rfl) ?_ _
              have HF := HD
              clear hS0 hHeld HD
              go_wp2
              go_meet
              exact ⟨rfl, HF⟩
            · subst h
              rw [show errF 9 = errnoF 9 from rfl]
              have qe := fun W => err_eql 9 5 W
              refine wp_region_held_drew (S := (fun wx => wx.cell? ⟨q12, 0, none⟩ = some (.int .i64 pr1.n) ∧ wx.cell? ⟨q12, 1, none⟩ = some (.int .i64 pr1.node))) (by kernel_rfl) hS0 (fun hHeld => ?_)
              refine wpAnyH_take (i := 0) (v := ?_) rfl (by kernel_rfl) (by kernel_rfl) (by kernel_rfl) (fun _ _ _ h => h) (Or.inl ⟨by rfl, ?_⟩) (by assumption) ?_
              rotate_left
              · intro wz hSw; (try dsimp only at hSw); (try simp only [List.getElem_toArray, List.getElem_cons_zero, List.getElem_cons_succ]); go_simp; first | done | with_reducible rfl
              try simp only [Act.put, List.setIfInBounds_toArray, List.set_cons_zero, List.set_cons_succ, List.getElem_toArray, List.getElem_cons_zero, List.getElem_cons_succ]
              refine wpAnyH_take (i := 1) (v := ?_) rfl (by kernel_rfl) (by kernel_rfl) (by kernel_rfl) (fun _ _ _ h => h) (Or.inl ⟨by rfl, ?_⟩) (by assumption) ?_
              rotate_left
              · intro wz hSw; (try dsimp only at hSw); (try simp only [List.getElem_toArray, List.getElem_cons_zero, List.getElem_cons_succ]); go_simp; first | done | with_reducible rfl
              try simp only [Act.put, List.setIfInBounds_toArray, List.set_cons_zero, List.set_cons_succ, List.getElem_toArray, List.getElem_cons_zero, List.getElem_cons_succ]
              refine wpAnyH_take (i := 2) (v := ?_) rfl (by kernel_rfl) (by kernel_rfl) (by kernel_rfl) (fun _ _ _ h => h) (Or.inl ⟨by rfl, ?_⟩) (by assumption) ?_
              rotate_left
              · intro wz hSw; (try dsimp only at hSw); (try simp only [List.getElem_toArray, List.getElem_cons_zero, List.getElem_cons_succ]); go_simp; first | done | with_reducible rfl
              try simp only [Act.put, List.setIfInBounds_toArray, List.set_cons_zero, List.set_cons_succ, List.getElem_toArray, List.getElem_cons_zero, List.getElem_cons_succ]
              refine wpAnyH_take (i := 3) (v := ?_) rfl (by kernel_rfl) (by kernel_rfl) (by kernel_rfl) (fun _ _ _ h => h) (Or.inl ⟨by rfl, ?_⟩) (by assumption) ?_
              rotate_left
              · intro wz hSw; (try dsimp only at hSw); (try simp only [List.getElem_toArray, List.getElem_cons_zero, List.getElem_cons_succ]); go_simp; first | done | with_reducible rfl
              try simp only [Act.put, List.setIfInBounds_toArray, List.set_cons_zero, List.set_cons_succ, List.getElem_toArray, List.getElem_cons_zero, List.getElem_cons_succ]
              refine wpAnyH_take (i := 4) (v := undef) rfl (by kernel_rfl) (by kernel_rfl) (by kernel_rfl) (fun _ _ _ h => h) (Or.inr ⟨by rfl, rfl⟩) (by assumption) ?_
              try simp only [Act.put, List.setIfInBounds_toArray, List.set_cons_zero, List.set_cons_succ, List.getElem_toArray, List.getElem_cons_zero, List.getElem_cons_succ]
              refine wpAnyH_take (i := 5) (v := undef) rfl (by kernel_rfl) (by kernel_rfl) (by kernel_rfl) (fun _ _ _ h => h) (Or.inr ⟨by rfl, rfl⟩) (by assumption) ?_
              try simp only [Act.put, List.setIfInBounds_toArray, List.set_cons_zero, List.set_cons_succ, List.getElem_toArray, List.getElem_cons_zero, List.getElem_cons_succ]
              refine wpAnyH_take (i := 6) (v := undef) rfl (by kernel_rfl) (by kernel_rfl) (by kernel_rfl) (fun _ _ _ h => h) (Or.inr ⟨by rfl, rfl⟩) (by assumption) ?_
              try simp only [Act.put, List.setIfInBounds_toArray, List.set_cons_zero, List.set_cons_succ, List.getElem_toArray, List.getElem_cons_zero, List.getElem_cons_succ]
              refine wpAnyH_take (i := 7) (v := undef) rfl (by kernel_rfl) (by kernel_rfl) (by kernel_rfl) (fun _ _ _ h => h) (Or.inr ⟨by rfl, rfl⟩) (by assumption) ?_
              try simp only [Act.put, List.setIfInBounds_toArray, List.set_cons_zero, List.set_cons_succ, List.getElem_toArray, List.getElem_cons_zero, List.getElem_cons_succ]
              refine wpAnyH_take (i := 8) (v := undef) rfl (by kernel_rfl) (by kernel_rfl) (by kernel_rfl) (fun _ _ _ h => h) (Or.inr ⟨by rfl, rfl⟩) (by assumption) ?_
              try simp only [Act.put, List.setIfInBounds_toArray, List.set_cons_zero, List.set_cons_succ, List.getElem_toArray, List.getElem_cons_zero, List.getElem_cons_succ]
              refine wpAnyH_take (i := 9) (v := undef) rfl (by kernel_rfl) (by kernel_rfl) (by kernel_rfl) (fun _ _ _ h => h) (Or.inr ⟨by rfl, rfl⟩) (by assumption) ?_
              try simp only [Act.put, List.setIfInBounds_toArray, List.set_cons_zero, List.set_cons_succ, List.getElem_toArray, List.getElem_cons_zero, List.getElem_cons_succ]
              refine wpAnyH_take (i := 10) (v := undef) rfl (by kernel_rfl) (by kernel_rfl) (by kernel_rfl) (fun _ _ _ h => h) (Or.inr ⟨by rfl, rfl⟩) (by assumption) ?_
              try simp only [Act.put, List.setIfInBounds_toArray, List.set_cons_zero, List.set_cons_succ, List.getElem_toArray, List.getElem_cons_zero, List.getElem_cons_succ]
              refine wpAnyH_take (i := 11) (v := undef) rfl (by kernel_rfl) (by kernel_rfl) (by kernel_rfl) (fun _ _ _ h => h) (Or.inr ⟨by rfl, rfl⟩) (by assumption) ?_
              try simp only [Act.put, List.setIfInBounds_toArray, List.set_cons_zero, List.set_cons_succ, List.getElem_toArray, List.getElem_cons_zero, List.getElem_cons_succ]
              refine wpAnyH_take (i := 12) (v := undef) rfl (by kernel_rfl) (by kernel_rfl) (by kernel_rfl) (fun _ _ _ h => h) (Or.inr ⟨by rfl, rfl⟩) (by assumption) ?_
              try simp only [Act.put, List.setIfInBounds_toArray, List.set_cons_zero, List.set_cons_succ, List.getElem_toArray, List.getElem_cons_zero, List.getElem_cons_succ]
              refine wpAnyH_take (i := 13) (v := undef) rfl (by kernel_rfl) (by kernel_rfl) (by kernel_rfl) (fun _ _ _ h => h) (Or.inr ⟨by rfl, rfl⟩) (by assumption) ?_
              try simp only [Act.put, List.setIfInBounds_toArray, List.set_cons_zero, List.set_cons_succ, List.getElem_toArray, List.getElem_cons_zero, List.getElem_cons_succ]
              refine wpAnyH_take (i := 14) (v := undef) rfl (by kernel_rfl) (by kernel_rfl) (by kernel_rfl) (fun _ _ _ h => h) (Or.inr ⟨by rfl, rfl⟩) (by assumption) ?_
              try simp only [Act.put, List.setIfInBounds_toArray, List.set_cons_zero, List.set_cons_succ, List.getElem_toArray, List.getElem_cons_zero, List.getElem_cons_succ]
              refine wpAnyH_take (i := 15) (v := undef) rfl (by kernel_rfl) (by kernel_rfl) (by kernel_rfl) (fun _ _ _ h => h) (Or.inr ⟨by rfl, rfl⟩) (by assumption) ?_
              try simp only [Act.put, List.setIfInBounds_toArray, List.set_cons_zero, List.set_cons_succ, List.getElem_toArray, List.getElem_cons_zero, List.getElem_cons_succ]
              refine wpAnyH_take (i := 16) (v := undef) rfl (by kernel_rfl) (by kernel_rfl) (by kernel_rfl) (fun _ _ _ h => h) (Or.inr ⟨by rfl, rfl⟩) (by assumption) ?_
              try simp only [Act.put, List.setIfInBounds_toArray, List.set_cons_zero, List.set_cons_succ, List.getElem_toArray, List.getElem_cons_zero, List.getElem_cons_succ]
              refine wpAnyH_take (i := 17) (v := ?_) rfl (by kernel_rfl) (by kernel_rfl) (by kernel_rfl) (fun _ _ _ h => h) (Or.inl ⟨by rfl, ?_⟩) (by assumption) ?_
              rotate_left
              · intro wz hSw; (try dsimp only at hSw); (try simp only [List.getElem_toArray, List.getElem_cons_zero, List.getElem_cons_succ]); go_simp; first | done | with_reducible rfl
              try simp only [Act.put, List.setIfInBounds_toArray, List.set_cons_zero, List.set_cons_succ, List.getElem_toArray, List.getElem_cons_zero, List.getElem_cons_succ]
              refine wpAnyH_done (by kernel_rfl) ?_ _
              have HF := HD
              clear hS0 hHeld HD
              go_wp2
              go_meet
              exact ⟨rfl, HF⟩
        case rest =>
          obtain ⟨rfl, hbc⟩ := hcut
          obtain ⟨wM, rfl⟩ : ∃ v, v = wc := ⟨_, rfl⟩
          have HBC := hbc
          have HVc := Lib.hid (HVE9.out.new hbc.out)
          obtain ⟨aW, cW, vW, hVW⟩ := HVc.out.on
          have CP := Lib.hid (promised_c wM p s pr2 ac2 _ 16 hVW.ob)
          clear hVW
          go_wp2_with fail
          refine CP.out.mono ?_
          rintro e w10 ⟨rfl, hb10⟩
          obtain ⟨w11, hw11⟩ : ∃ w11, w11 = w10.alloc (.cells #[.int .i64 pr2.n, .int .i64 pr2.node] tyB2) := ⟨_, rfl⟩
          have hb11 : Below w10.heap.size w10 w11 := by rw [hw11]; exact bl_al (Below.refl _ _) _
          have hX11 := bxB_new w10 pr2
          rw [show w10.alloc pr2.obj = w11 from hw11.symm] at hX11
          obtain ⟨q16, hq16⟩ : ∃ q, q = w10.heap.size := ⟨_, rfl⟩
          rw [← hq16] at hX11
          have hbc11 := bl_tr hb10 hb11
          have HV11 := Lib.hid (HVc.out.new hbc11)
          have HW11 := Lib.hid (And.intro hw11 hq16)
          have HBc11 := Lib.hid hbc11
          have HX11 : Hid (BxB w11 q16 pr2 ∧ wM.heap.size ≤ q16) := Lib.hid ⟨hX11, by have := hb10.size; omega⟩
          obtain ⟨aW, cW, vW, hVW⟩ := HV11.out.on
          have CC := Lib.hid (accepted_c w11 p s pr2 ac2 ls2 aW cW vW 16 hVW.ob hVW.log hVW.few)
          clear hb10 hw11 hb11 hX11 hq16 CP hVW hbc11
          go_upto_region 17 with fail
          rw [show w10.alloc (.cells #[.int .i64 pr2.n, .int .i64 pr2.node] tyB2) = w11 from HW11.out.1.symm, ← HW11.out.2]
          go_wp2_with fail
          refine CC.out.mono ?_
          rintro e w12 ⟨⟨aU, cU, vU, rfl, hOU⟩, hb12⟩
          obtain ⟨w13, hw13⟩ : ∃ w13, w13 = w12.alloc (.cells #[.int .i64 ac2.n, .int .i64 ac2.node] tyB2) := ⟨_, rfl⟩
          have hb13 : Below w12.heap.size w12 w13 := by rw [hw13]; exact bl_al (Below.refl _ _) _
          have hX13 := bxB_new w12 ac2
          rw [show w12.alloc ac2.obj = w13 from hw13.symm] at hX13
          obtain ⟨q17, hq17⟩ : ∃ q, q = w12.heap.size := ⟨_, rfl⟩
          rw [← hq17] at hX13
          have hb1113 := bl_tr hb12 hb13
          have hbc13 := bl_tr HBc11.out hb1113
          have HW13 := Lib.hid (And.intro hw13 hq17)
          have HV13 := Lib.hid (HVc.out.grow hbc13)
          have HOU := Lib.hid (And.intro (hOU.later hb13) HBc11.out.size)
          have HX13 : Hid (BxB w13 q16 pr2 ∧ BxB w13 q17 ac2 ∧ wM.heap.size ≤ q16 ∧ wM.heap.size ≤ q17 ∧ BxB w13 q12 pr1 ∧ BxB w13 q13 ac1 ∧ InC w13 aT ls1.length cT ls1 vT) := Lib.hid ⟨HX11.out.1.later hb1113, hX13, HX11.out.2, by have := HBc11.out.size; have := hb12.size; omega, HX9.out.1.later (bl_tr HBC.out hbc13), HX9.out.2.later (bl_tr HBC.out hbc13), HIT.out.below (bl_tr HBC.out hbc13)⟩
          have HT2 := Lib.hid (And.intro HVc.out.enc.typ (fun (y : Cm) (hy : y ∈ ls2) => goodC_es (HVc.out.enc.good.2.1 y hy)))
          clear hb12 hw13 hb13 hX13 hq17 hb1113 hbc13 hOU CC HV11 HX11 HX9 HIT HBc11
          go_upto_region 18 with fail
          rw [show w12.alloc (.cells #[.int .i64 ac2.n, .int .i64 ac2.node] tyB2) = w13 from HW13.out.1.symm, ← HW13.out.2]
          obtain ⟨N2, hN2⟩ : ∃ N, N = ls2.length := ⟨_, rfl⟩
          rw [← hN2]
          have HN2 := Lib.hid hN2
          clear hN2
          go_cut [111] from 94 to 111 (fun v wx => v = .bool false ∧ Hid (Below w13.heap.size w13 wx))
          case first =>
            by_cases h0 : n2 = 0
            · subst h0
              rw [show errF 0 = .nilIface from rfl]
              have qn := nilNe
              have HF := Lib.hid (Below.refl w13.heap.size w13)
              go_wp2
              go_meet
              exact ⟨rfl, HF⟩
            · rcases hor2 with h | h | h | h
              · exact absurd h h0
              · subst h
                rw [show errF 5 = errnoF 5 from rfl]
                have qn := five_neq
                obtain ⟨e1, e2, e3, e4⟩ := HSM.out h0
                have hIU := HOU.out.1.in HT2.out.1
                rw [e3] at hIU
                have hN : N2 = ls1.length := by rw [HN2.out, e3]
                subst hN
                have CS := Lib.hid (sameR_c ls1 vT vU aT aU ls1.length cT cU w13 HX13.out.2.2.2.2.2.2 hIU (by have := HT1.out; exact Nat.le_trans (by have := HVE9.out.enc.good.1; rw [e3] at this; exact this) (by decide)) (fun y hy => Nat.le_trans (HT1.out.2 y hy) (by decide)))
                have hx16 := HX13.out.1
                have hx17 := HX13.out.2.1
                rw [e1] at hx16
                rw [e2] at hx17
                obtain ⟨x0, x1⟩ := hx16.at
                obtain ⟨x2, x3⟩ := hx17.at
                obtain ⟨x4, x5⟩ := HX13.out.2.2.2.2.1.at
                obtain ⟨x6, x7⟩ := HX13.out.2.2.2.2.2.1.at
                have qb1 := fun W => bl_neq pr1 pr1 W
                have qb2 := fun W => bl_neq ac1 ac1 W
                clear e1 e2 e3 e4 hIU hx16 hx17
                go_wp2_with fail
                refine CS.out.mono ?_
                rintro e w14 ⟨rfl, hb14⟩
                have HF := Lib.hid hb14
                clear hb14 x0 x1 x2 x3 x4 x5 x6 x7
                go_wp2
                go_meet
                exact ⟨rfl, HF⟩
              · subst h
                rw [show errF 8 = errnoF 8 from rfl]
                have qn := eight_neq
                obtain ⟨e1, e2, e3, e4⟩ := HSM.out h0
                have hIU := HOU.out.1.in HT2.out.1
                rw [e3] at hIU
                have hN : N2 = ls1.length := by rw [HN2.out, e3]
                subst hN
                have CS := Lib.hid (sameR_c ls1 vT vU aT aU ls1.length cT cU w13 HX13.out.2.2.2.2.2.2 hIU (by have := HT1.out; exact Nat.le_trans (by have := HVE9.out.enc.good.1; rw [e3] at this; exact this) (by decide)) (fun y hy => Nat.le_trans (HT1.out.2 y hy) (by decide)))
                have hx16 := HX13.out.1
                have hx17 := HX13.out.2.1
                rw [e1] at hx16
                rw [e2] at hx17
                obtain ⟨x0, x1⟩ := hx16.at
                obtain ⟨x2, x3⟩ := hx17.at
                obtain ⟨x4, x5⟩ := HX13.out.2.2.2.2.1.at
                obtain ⟨x6, x7⟩ := HX13.out.2.2.2.2.2.1.at
                have qb1 := fun W => bl_neq pr1 pr1 W
                have qb2 := fun W => bl_neq ac1 ac1 W
                clear e1 e2 e3 e4 hIU hx16 hx17
                go_wp2_with fail
                refine CS.out.mono ?_
                rintro e w14 ⟨rfl, hb14⟩
                have HF := Lib.hid hb14
                clear hb14 x0 x1 x2 x3 x4 x5 x6 x7
                go_wp2
                go_meet
                exact ⟨rfl, HF⟩
              · subst h
                rw [show errF 9 = errnoF 9 from rfl]
                have qn := nine_neq
                obtain ⟨e1, e2, e3, e4⟩ := HSM.out h0
                have hIU := HOU.out.1.in HT2.out.1
                rw [e3] at hIU
                have hN : N2 = ls1.length := by rw [HN2.out, e3]
                subst hN
                have CS := Lib.hid (sameR_c ls1 vT vU aT aU ls1.length cT cU w13 HX13.out.2.2.2.2.2.2 hIU (by have := HT1.out; exact Nat.le_trans (by have := HVE9.out.enc.good.1; rw [e3] at this; exact this) (by decide)) (fun y hy => Nat.le_trans (HT1.out.2 y hy) (by decide)))
                have hx16 := HX13.out.1
                have hx17 := HX13.out.2.1
                rw [e1] at hx16
                rw [e2] at hx17
                obtain ⟨x0, x1⟩ := hx16.at
                obtain ⟨x2, x3⟩ := hx17.at
                obtain ⟨x4, x5⟩ := HX13.out.2.2.2.2.1.at
                obtain ⟨x6, x7⟩ := HX13.out.2.2.2.2.2.1.at
                have qb1 := fun W => bl_neq pr1 pr1 W
                have qb2 := fun W => bl_neq ac1 ac1 W
                clear e1 e2 e3 e4 hIU hx16 hx17
                go_wp2_with fail
                refine CS.out.mono ?_
                rintro e w14 ⟨rfl, hb14⟩
                have HF := Lib.hid hb14
                clear hb14 x0 x1 x2 x3 x4 x5 x6 x7
                go_wp2
                go_meet
                exact ⟨rfl, HF⟩
          case rest =>
            obtain ⟨rfl, hbd⟩ := hcut
            -- the crash
            obtain ⟨aW, cW, vW, hVW⟩ := HV13.out.on
            have hst := (hVW.st.new hbd.out).1
            have CX := Lib.hid hst.crash
            have HKP : Hid (∀ k, wM.heap.size ≤ k → k < w13.heap.size → (fun k => (Old w2 k ∨ (w4.heap.size ≤ k ∧ k < w8.heap.size)) ∨ (wM.heap.size ≤ k ∧ k < w13.heap.size)) k) := Lib.hid (fun k h1 h2 => .inr ⟨h1, h2⟩)
            have HBD := hbd
            have HENC := Lib.hid HV13.out.enc
            clear hVW hst
            go_wp2_with fail
            refine CX.out.mono ?_
            rintro e w15 ⟨rfl, hS15, hk15⟩
            have CO := Lib.hid (open_c w2 w15 s Z l2 l2 16 _ (hS15.less (fun k hk => .inl hk)) ⟨by decide, by decide⟩ (fun k r hk hf => HENC.out.rows k r hk hf))
            have HK15 := Lib.hid (hk15.less (fun k (hk : (Old w2 k ∨ (w4.heap.size ≤ k ∧ k < w8.heap.size)) ∨ (wM.heap.size ≤ k ∧ k < w13.heap.size)) => .inl hk))
            clear hS15 hk15 CX HV13
            go_wp2_with fail
            refine CO.out.mono ?_
            intro e w16 hP
            obtain ⟨p2, rfl, hV16⟩ := hP.yes (by decide) pr2 ac2 ls2 HENC.out.ld.1 HENC.out.ld.2
            have hp2 : ((some (⟨p2, 0, none⟩ : Addr)) == none) = false := rfl
            have hK := HK15.out.trans hP.kpt
            have hI13 := (HOU.out.1.in HT2.out.1).below hbd.out
            have hlg : LgK aU ls2.length vU (fun k => (Old w2 k ∨ (w4.heap.size ≤ k ∧ k < w8.heap.size)) ∨ (wM.heap.size ≤ k ∧ k < w13.heap.size)) := lgK_of HOU.out.1.vlen (fun k hk => by
              have h1 := HOU.out.1.blk k hk
              have h2 := HOU.out.2
              exact .inr ⟨by omega, by omega⟩)
            have HX16 : Hid (BxB w16 q16 pr2 ∧ BxB w16 q17 ac2 ∧ InC w16 aU ls2.length cU ls2 vU) := Lib.hid ⟨(hK q16 (.inr ⟨HX13.out.2.2.1, HX13.out.1.lt⟩)).trans (HX13.out.1.later hbd.out), (hK q17 (.inr ⟨HX13.out.2.2.2.1, HX13.out.2.1.lt⟩)).trans (HX13.out.2.1.later hbd.out), hI13.kptw hK hlg⟩
            have HV16 := Lib.hid hV16
            clear hP hV16 hK hI13 hlg CO HX13 HK15
            obtain ⟨aW, cW, vW, hVW⟩ := HV16.out
            have CC := Lib.hid (accepted_c w16 p2 s pr2 ac2 ls2 aW cW vW 16 hVW.ob hVW.log hVW.few)
            clear hVW
            go_wp2_with fail
            refine CC.out.mono ?_
            rintro e w17 ⟨⟨aY, cY, vY, rfl, hOY⟩, hb17⟩
            obtain ⟨w18, hw18⟩ : ∃ w18, w18 = w17.alloc (.cells #[.int .i64 ac2.n, .int .i64 ac2.node] tyB2) := ⟨_, rfl⟩
            have hb18 : Below w17.heap.size w17 w18 := by rw [hw18]; exact bl_al (Below.refl _ _) _
            have hX18 := bxB_new w17 ac2
            rw [show w17.alloc ac2.obj = w18 from hw18.symm] at hX18
            obtain ⟨q21, hq21⟩ : ∃ q, q = w17.heap.size := ⟨_, rfl⟩
            rw [← hq21] at hX18
            have hb1618 := bl_tr hb17 hb18
            have HW18 := Lib.hid (And.intro hw18 hq21)
            have HX18 : Hid (BxB w18 q16 pr2 ∧ BxB w18 q17 ac2 ∧ BxB w18 q21 ac2) := Lib.hid ⟨HX16.out.1.later hb1618, HX16.out.2.1.later hb1618, hX18⟩
            have hIU := HX16.out.2.2.below hb1618
            have hIY := ((hOY.later hb18).in HT2.out.1)
            have HV18 := Lib.hid (HV16.out.new hb1618).1
            have HB18 := Lib.hid (HV18.out.bel)
            have CS := Lib.hid (fun (wx : World) (hx : Below w18.heap.size w18 wx) => sameR_c ls2 vY vU aY aU ls2.length cY cU wx (hIY.below hx) (hIU.below hx) (by have := HENC.out.good.1; exact Nat.le_trans this (by decide)) (fun y hy => Nat.le_trans (HT2.out.2 y hy) (by decide)))
            obtain ⟨aW, cW, vW, hVW⟩ := HV18.out
            have hobW := hVW.ob
            have CPW := Lib.hid (fun (wx : World) (hx : Below w18.heap.size w18 wx) => promised_c wx p2 s pr2 ac2 _ 16 ((hx.block p2 hobW.lt).trans hobW))
            clear hb17 hw18 hb18 hX18 hq21 hb1618 hIU hIY hOY CC hVW hobW HX16 HV16
            go_upto_region 25 with fail
            rw [show w17.alloc (.cells #[.int .i64 ac2.n, .int .i64 ac2.node] tyB2) = w18 from HW18.out.1.symm, ← HW18.out.2]
            rw [← HN2.out] at CS ⊢
            have qb1 := fun W => bl_eql pr2 pr2 W
            have qb2 := fun W => bl_eql ac2 ac2 W
            have HSK : Hid (∀ wx, Below w18.heap.size w18 wx → wx.cell? ⟨q16, 0, none⟩ = some (.int .i64 pr2.n) ∧ wx.cell? ⟨q16, 1, none⟩ = some (.int .i64 pr2.node) ∧ wx.cell? ⟨q17, 0, none⟩ = some (.int .i64 ac2.n) ∧ wx.cell? ⟨q17, 1, none⟩ = some (.int .i64 ac2.node) ∧ wx.cell? ⟨q21, 0, none⟩ = some (.int .i64 ac2.n) ∧ wx.cell? ⟨q21, 1, none⟩ = some (.int .i64 ac2.node)) := Lib.hid (fun wx hx => ⟨(HX18.out.1.later hx).at.1, (HX18.out.1.later hx).at.2, (HX18.out.2.1.later hx).at.1, (HX18.out.2.1.later hx).at.2, (HX18.out.2.2.later hx).at.1, (HX18.out.2.2.later hx).at.2⟩)
            have hS0 := HSK.out w18.drew (Below.refl _ _).drew
            have HD := Lib.hid (show Below w18.heap.size w18 w18.drew from (Below.refl _ _).drew)
            go_region_held3 (fun wx => wx.cell? ⟨q16, 0, none⟩ = some (.int .i64 pr2.n) ∧ wx.cell? ⟨q16, 1, none⟩ = some (.int .i64 pr2.node) ∧ wx.cell? ⟨q17, 0, none⟩ = some (.int .i64 ac2.n) ∧ wx.cell? ⟨q17, 1, none⟩ = some (.int .i64 ac2.node) ∧ wx.cell? ⟨q21, 0, none⟩ = some (.int .i64 ac2.n) ∧ wx.cell? ⟨q21, 1, none⟩ = some (.int .i64 ac2.node)) (first | (with_reducible exact hS0) | (with_reducible assumption) | fail)
              (first
                | (go_at_call 40; (with_reducible refine (CPW.out _ HD.out).mono ?_); rintro e wG ⟨rfl, hbG⟩; have hbG8 := bl_tr HD.out hbG; have hS1 := HSK.out _ hbG8)
                | (go_at_call 21; (with_reducible refine (CS.out _ hbG8).mono ?_); rintro e wH ⟨rfl, hbH⟩; have hbH8 := bl_tr hbG8 hbH; have hS2 := HSK.out _ hbH8)
                | fail)
            all_goals
              have HF := Lib.hid (bl_tr HB0.out (bl_tr HB2.out (HB18.out.trans (hbH8.mono HB18.out.size))))
              clear hS0 hS1 hS2 hbG hbG8 hbH hbH8 CS CPW
              go_wp2
              go_ret
              exact ⟨rfl, HF.out⟩
end Go.Proofs.Ytnhnpfhfcbmmlaa
namespace Go.Proofs.Ytnhnpfhfcbmmlaa
open Go Go.RowKit
set_option linter.unusedVariables false
set_option linter.unusedSimpArgs false

abbrev tyTi : TypeId := 89
set_option maxRecDepth 100000 in
set_option maxHeartbeats 4000000 in
theorem voteTight_t (z : Int) (b c : Bl) (hb : TyB b) (hc : TyB c) (lg : List Cm) (us : List Value) (a : Option Addr) (n cc : Nat) (w : World) (hI : InC w a n cc lg us) (hn : n ≤ 1152921504606846976) :
    Calls Try.prog 7 #[.agg #[.int .i64 z, .int .i64 b.n, .int .i64 b.node, .int .i64 c.n, .int .i64 c.node, .slice a n cc]] w fun e w' => e = .returned (.bool true) ∧ Below w.heap.size w w' := by
  obtain ⟨w1, hw1⟩ : ∃ W, W = w.alloc (.cells #[.int .i64 z, .int .i64 b.n, .int .i64 b.node, .int .i64 c.n, .int .i64 c.node, .slice a n cc] tyTi) := ⟨_, rfl⟩
  have hb1 : Below w.heap.size w w1 := by rw [hw1]; exact bl_al (Below.refl _ _) _
  have hA : w1.heap[w.heap.size]? = some (.cells #[.int .i64 z, .int .i64 b.n, .int .i64 b.node, .int .i64 c.n, .int .i64 c.node, .slice a n cc] tyTi (0, 0)) := by rw [hw1]; exact heap_alloc_new w _
  obtain ⟨q, hq⟩ : ∃ q, q = w.heap.size := ⟨_, rfl⟩
  rw [← hq] at hA
  have c0 : w1.cell? ⟨q, 0, none⟩ = some (.int .i64 z) := by rw [cell_of_row w1 q 0 _ _ _ hA]; rfl
  have c1 : w1.cell? ⟨q, 1, none⟩ = some (.int .i64 b.n) := by rw [cell_of_row w1 q 1 _ _ _ hA]; rfl
  have c2 : w1.cell? ⟨q, 2, none⟩ = some (.int .i64 b.node) := by rw [cell_of_row w1 q 2 _ _ _ hA]; rfl
  have c3 : w1.cell? ⟨q, 3, none⟩ = some (.int .i64 c.n) := by rw [cell_of_row w1 q 3 _ _ _ hA]; rfl
  have c4 : w1.cell? ⟨q, 4, none⟩ = some (.int .i64 c.node) := by rw [cell_of_row w1 q 4 _ _ _ hA]; rfl
  have c5 : w1.cell? ⟨q, 5, none⟩ = some (.slice a n cc) := by rw [cell_of_row w1 q 5 _ _ _ hA]; rfl
  have HW := Lib.hid (And.intro hw1 hq)
  have HB := Lib.hid hb1
  have CF := Lib.hid (full_c z b c hb hc lg us a n cc w1 (hI.below hb1) (Nat.le_trans hn (by decide)))
  clear hw1 hb1 hA hq hI hb hc
  go_enter Try.func7, Try.ntmps7
  go_upto_region 1 with fail
  rw [show w.alloc (.cells #[.int .i64 z, .int .i64 b.n, .int .i64 b.node, .int .i64 c.n, .int .i64 c.node, .slice a n cc] tyTi) = w1 from HW.out.1.symm, ← HW.out.2]
  go_wp2_with fail
  refine CF.out.mono ?_
  rintro e w2 ⟨rfl, hb2⟩
  have HB2 := Lib.hid (bl_tr HB.out hb2)
  clear hb2 CF c0 c1 c2 c3 c4 c5
  go_wp2
  go_ret
  exact ⟨rfl, HB2.out⟩
end Go.Proofs.Ytnhnpfhfcbmmlaa
