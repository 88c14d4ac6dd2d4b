/- accepts: those rounds whose time has come tell the voters. Conditions: those stated. -/
import Derived.Test.YtnhnpfhfcbmmlaaRoQ
import Derived.Deep.RegionHeld3
namespace Go.Proofs.Ytnhnpfhfcbmmlaa
open Go Go.RowKit
set_option linter.unusedVariables false
set_option linter.unusedSimpArgs false

set_option maxRecDepth 100000 in
set_option maxHeartbeats 2000000 in
theorem ballot_cS (w : World) (p : Nat) (r : Rd) (u v : Value) (h : ROb w p r u v) (ho : OkR r) :
    Calls Try.prog 56 #[.pointer (some ⟨p, 0, none⟩)] w fun e w' => e = .returned r.b.val ∧ Below w.heap.size w w' ∧ w.heap.size < w'.heap.size := by
  obtain ⟨w1, hw1⟩ : ∃ W, W = w.alloc bl0.obj := ⟨_, rfl⟩
  have hA := bxB_new w bl0
  rw [← hw1] at hA
  have hb1 : Below w.heap.size w w1 := by rw [hw1]; exact bl_al (Below.refl _ _) _
  obtain ⟨q, hq⟩ : ∃ p, p = w.heap.size := ⟨_, rfl⟩
  rw [← hq] at hA
  have HQ : Hid (q = w.heap.size ∧ p < q) := Lib.hid ⟨hq, by have := h.lt; omega⟩
  have HW1 := Lib.hid (And.intro hw1 hq)
  have HSZ : Hid (w.heap.size < w1.heap.size) := Lib.hid (by rw [hw1]; simp)
  have HB := Lib.hid hb1
  have HA := Lib.hid hA
  have hcs := (h.below hb1).cs ho.len
  have c9 := hcs.c9
  have c10 := hcs.c10
  obtain ⟨z0, z1⟩ := hA.at
  have f0 : w1.frozen? ⟨q, 0, none⟩ = false := frozen_of_row w1 q 0 _ _ hA
  have f1 : w1.frozen? ⟨q, 1, none⟩ = false := frozen_of_row w1 q 1 _ _ hA
  have hne : ((some (⟨p, 0, none⟩ : Addr)) == none) = false := rfl
  obtain ⟨b, hb⟩ : ∃ b, b = r.b := ⟨_, rfl⟩
  rw [← hb] at c9 c10 ⊢
  obtain ⟨x, y⟩ := b
  clear hw1 hA hb1 hcs hq h ho hb
  go_enter Try.func56, Try.ntmps56
  go_upto_region 1 with fail
  rw [show w.alloc (.cells #[.int .i64 0, .int .i64 0] tyB2) = w1 from HW1.out.1.symm, ← HW1.out.2]
  go_wp2
  have hA6 : BxB ((w1.setCell ⟨q, 0, none⟩ (.int .i64 x)).setCell ⟨q, 1, none⟩ (.int .i64 y)) q ⟨x, y⟩ := by
    have h0 := heap_setCell_same w1 q 0 _ _ (.int .i64 x) HA.out
    exact heap_setCell_same _ q 1 _ _ (.int .i64 y) h0
  have hb6 : Below w.heap.size w ((w1.setCell ⟨q, 0, none⟩ (.int .i64 x)).setCell ⟨q, 1, none⟩ (.int .i64 y)) := bl_set (bl_set HB.out (by have := HQ.out; omega) _) (by have := HQ.out; omega) _
  obtain ⟨w6, hw6⟩ : ∃ v, v = (w1.setCell ⟨q, 0, none⟩ (.int .i64 x)).setCell ⟨q, 1, none⟩ (.int .i64 y) := ⟨_, rfl⟩
  have hs6 : w.heap.size < w6.heap.size := by rw [hw6]; have := HSZ.out; simpa using this
  rw [← hw6] at hA6 hb6 ⊢
  obtain ⟨y0, y1⟩ := hA6.at
  refine bodyPost_ret (v := Bl.val ⟨x, y⟩) (by simp [results, Try.results56, go_sem, y0, y1]) rfl ?_
  exact ⟨rfl, hb6, hs6⟩
/-- A proposer's doings. -/
structure AskV where
  n : Int
  node : Int
  hears : Int
  agrees : Int
def ask0 : AskV := ⟨0, 0, 0, 0⟩
def AskV.cs (o : AskV) : List Value := [.int .i64 o.n, .int .i64 o.node, .int .i64 o.hears, .int .i64 o.agrees]
structure AskT (o : AskV) : Prop where
  n : i64c o.n
  node : i64c o.node
  hears : i64c o.hears
  agrees : i64c o.agrees
structure InA (w : World) (a : Option Addr) (n c : Nat) (aq : List AskV) : Prop where
  len : aq.length = n
  room : n ≤ c
  here : n = 0 ∨ ∃ b off, a = some ⟨b, off, none⟩ ∧ ∀ j, j < n → ∀ i, i < 4 → w.cell? ⟨b, off + j * 4 + i, none⟩ = ((aq.getD j ask0).cs)[i]?
  typ : ∀ j, j < n → AskT (aq.getD j ask0)
theorem InA.below {w w' : World} {n c : Nat} {a : Option Addr} {aq : List AskV} (h : InA w a n c aq) (hb : Below w.heap.size w w') : InA w' a n c aq :=
  ⟨h.len, h.room, h.here.imp id (fun ⟨b, off, e, hc⟩ => ⟨b, off, e, fun j hj i hi => by
    have := hc j hj i hi
    have hl : i < ((aq.getD j ask0).cs).length := hi
    obtain ⟨u, hu⟩ : ∃ u, ((aq.getD j ask0).cs)[i]? = some u := ⟨_, List.getElem?_eq_getElem hl⟩
    rw [hu] at this ⊢
    exact cell_later hb this⟩), h.typ⟩
theorem InA.at {w : World} {n c : Nat} {ao : Option Addr} {aq : List AskV} (h : InA w ao n c aq) {j : Nat} (hj : j < n) :
    ∃ b off, ao = some ⟨b, off, none⟩ ∧ w.cell? ⟨b, off + j * 4, none⟩ = some (.int .i64 (aq.getD j ask0).n) ∧ w.cell? ⟨b, off + j * 4 + 1, none⟩ = some (.int .i64 (aq.getD j ask0).node) ∧ w.cell? ⟨b, off + j * 4 + 2, none⟩ = some (.int .i64 (aq.getD j ask0).hears) ∧ w.cell? ⟨b, off + j * 4 + 3, none⟩ = some (.int .i64 (aq.getD j ask0).agrees) := by
  rcases h.here with h0 | ⟨b, off, e, hc⟩
  · omega
  · exact ⟨b, off, e, hc j hj 0 (by omega), hc j hj 1 (by omega), hc j hj 2 (by omega), hc j hj 3 (by omega)⟩
theorem errF_eql (n : Int) (w : World) : (binOp .eql 28 (errF n) .nilIface).run Try.prog w = .ok (.bool (n == 0)) w := by
  unfold errF
  by_cases h : n = 0
  · rw [if_pos h, h]
    kernel_rfl
  · rw [if_neg h, show (n == 0) = false by simp [h]]
    first | kernel_rfl | go_simp
theorem updN_same {α : Type} (f : Nat → α) (k : Nat) : updN f k (f k) = f := by
  funext i
  unfold updN
  split
  · rename_i h; rw [h]
  · rfl
theorem accN_zero {size : Int} {b pr : Bl} {lg : List Cm} {l : List Pr} (h : accN size b pr lg l = 0) : ¬ LtB b pr := by
  unfold accN at h
  by_cases hg : GoodL lg
  · rw [if_pos hg] at h
    rcases hearN_cases b pr with ⟨_, _, h2⟩ | h2 | h2
    · exact h2
    · rw [h2, if_neg (by decide)] at h
      exact absurd h (by decide)
    · rw [h2, if_neg (by decide)] at h
      exact absurd h (by decide)
  · rw [if_neg hg] at h
    exact absurd h (by decide)
/-- What accepts keeps. -/
structure AcS (w1 wr : World) (f : Nat → Nat) (M : Nat) (V : Nat → Vr) (vp sp : Nat → Nat) (n : Nat) (R : Nat → Rd) (rp : Nat → Nat) (vv rv wv sv : Value) (ws : List Int) (ss : List Bl) : Prop where
  mem : Mny w1 wr f M V vp sp n R rp vv rv wv sv n ws ss
  inv : Inv M V n R
  len : ws.length = n
  typ : ∀ j, j < n → i64c (ws.getD j 0)
  bal : ∀ j, j < n → (R j).b = ss.getD j bl0
theorem getD_setI (l : List Int) (j i : Nat) (x : Int) (hi : i < l.length) : (l.set j x).getD i 0 = if i = j then x else l.getD i 0 := by
  rw [List.getD_eq_getElem?_getD, List.getD_eq_getElem?_getD, List.getElem?_set]
  by_cases h : j = i
  · subst h
    simp [hi]
  · rw [if_neg h, if_neg (fun e => h e.symm)]
def AcX (w1 wr : World) (M : Nat) (vp sp : Nat → Nat) (n : Nat) (rp : Nat → Nat) (vv rv wv sv : Value) (ss : List Bl) (i : Option Nat) : Prop := ∃ f V R ws, AcS w1 wr f M V vp sp n R rp vv rv wv sv ws ss ∧ ∀ j, i = some j → Tl (R j)
set_option maxRecDepth 100000 in
set_option maxHeartbeats 16000000 in
theorem accepts_c (w1 w : World) (M : Nat) (vp sp : Nat → Nat) (n : Nat) (rp : Nat → Nat) (vv rv wv sv : Value) (ss : List Bl) (hM : M ≤ 8) (hn : n ≤ 24) (h : AcX w1 w M vp sp n rp vv rv wv sv ss none) (now : Int) (hnow : i64c now) (aq : List AskV) (a : Option Addr) (m c : Nat) (hA : InA w1 a m c aq) (hm : n ≤ m) (hm2 : m ≤ 24) :
    Calls Try.prog 50 #[rv, wv, vv, .int .i64 now, .slice a m c] w fun e w' => e = .returned (.tuple #[]) ∧ AcX w1 w' M vp sp n rp vv rv wv sv ss none := by
  obtain ⟨ra, rc, rfl⟩ : ∃ ra rc, rv = .slice ra n rc := by obtain ⟨f, V, R, ws, hS, _⟩ := h; exact own_form hS.mem.rrow.own
  obtain ⟨va, vc, rfl⟩ : ∃ ra rc, vv = .slice ra M rc := by obtain ⟨f, V, R, ws, hS, _⟩ := h; exact own_form hS.mem.vrow.own
  obtain ⟨wa, wc, rfl⟩ : ∃ ra rc, wv = .slice ra n rc := by
    obtain ⟨f, V, R, ws, hS, _⟩ := h
    have := own_form hS.mem.wrow.own
    rwa [hS.len] at this
  have hroom := hA.room
  have HA := Lib.hid hA
  have H0 := Lib.hid h
  have q0 := nilEl
  clear h hA
  go_enter Try.func50, Try.ntmps50
  go_wp2
  go_loopw [10, 11, 12, 13, 14, 17] (fun _ _ _ _ _ iv wr => ∃ i : Nat, i ≤ n ∧ iv = .int .i64 i ∧ Hid (AcX w1 wr M vp sp n rp (.slice va M vc) (.slice ra n rc) (.slice wa n wc) sv ss none)) (fun _ _ _ _ _ iv _ => n - (intOf iv).toNat)
  case atStart => exact ⟨0, by omega, rfl, H0⟩
  case round =>
    obtain ⟨i, hi, rfl, HS⟩ := hrel
    obtain ⟨w2, rfl⟩ : ∃ v, v = wr := ⟨_, rfl⟩
    by_cases hin : i < n
    · have ii : (i : Int) < (n : Int) := by omega
      have i0 : (0 : Int) ≤ (i : Int) := by omega
      obtain ⟨f, V, R, ws, hS, _⟩ := HS.out
      obtain ⟨rg, rcap, er, hrc, cr⟩ := hS.mem.rptr hin
      simp only [Value.slice.injEq] at er
      obtain ⟨rfl, _, rfl⟩ := er
      obtain ⟨wg, wcap, ew, hwc, cw, fw, hm3⟩ := hS.mem.setW hM (j := i) (by rw [hS.len]; exact hin) (-1)
      rw [hS.len] at ew hwc
      simp only [Value.slice.injEq] at ew
      obtain ⟨rfl, _, rfl⟩ := ew
      have hwty := hS.typ i hin
      obtain ⟨wi, hwi⟩ : ∃ x, x = ws.getD i 0 := ⟨_, rfl⟩
      rw [← hwi] at cw hwty
      have ic : (i : Int) ≤ (rc : Int) := by omega
      have ic2 : (i : Int) ≤ (wc : Int) := by omega
      clear hwc hrc
      have HS1 := Lib.hid hS
      have HM3 := Lib.hid hm3
      clear hS hm3 hwi
      by_cases hneg : wi < 0
      · go_wp2
        go_roundw
        case rel => exact ⟨i + 1, by omega, by go_num, HS⟩
        case measure => simp [intOf]; omega
      · by_cases hlate : wi > now
        · go_wp2
          go_roundw
          case rel => exact ⟨i + 1, by omega, by go_num, HS⟩
          case measure => simp [intOf]; omega
        · have hxm : (min wi ((m : Int) - 1)).toNat < m := by omega
          obtain ⟨ab, aoff, rfl, _, _, _, ca⟩ := (HA.out.below HS1.out.mem.bel).at hxm
          have hgr := (HA.out.typ _ hxm).agrees
          obtain ⟨ag, hag⟩ : ∃ z, z = (aq.getD (min wi ((m : Int) - 1)).toNat ask0).agrees := ⟨_, rfl⟩
          rw [← hag] at ca hgr
          clear hag
          have mm : (m : Int) ≤ (c : Int) := by omega
          have x0 : (0 : Int) ≤ min wi ((m : Int) - 1) := by omega
          have xm : min wi ((m : Int) - 1) < (m : Int) := by omega
          have HS3 : Hid (AcS w1 (w2.setCell ⟨wg, i, none⟩ (.int .i64 (-1))) (upd f w2.heap.size 3) M V vp sp n R rp (.slice va M vc) (.slice (some ⟨rg, 0, none⟩) n rc) (.slice (some ⟨wg, 0, none⟩) n wc) sv (ws.set i (-1)) ss) := Lib.hid ⟨HM3.out, HS1.out.inv, by rw [List.length_set]; exact HS1.out.len, fun j hj => by
            rw [getD_setI ws i j (-1) (by rw [HS1.out.len]; exact hj)]
            split
            · exact ⟨by decide, by decide⟩
            · exact HS1.out.typ j hj, HS1.out.bal⟩
          obtain ⟨w3, hw3⟩ : ∃ W, W = w2.setCell ⟨wg, i, none⟩ (.int .i64 (-1)) := ⟨_, rfl⟩
          rw [← hw3] at HS3
          have HW3 := Lib.hid hw3
          obtain ⟨ra1, rc1, rv1, ra2, rc2, rv2, hX⟩ := HS3.out.mem.ron i hin
          have CST := Lib.hid (stage_c w3 (rp i) (R i) _ _ hX.ob hX.ok)
          obtain ⟨st, hst⟩ : ∃ z, z = (R i).stage := ⟨_, rfl⟩
          rw [← hst] at CST
          have HST := Lib.hid hst
          clear hw3 HS1 HM3 hX hst
          go_upto_region 4 with fail
          go_upto_region 5 with fail
          go_upto_region 6 with fail
          rw [← HW3.out]
          clear cw ca hxm x0 xm hgr hneg hlate hwty cr fw HW3
          go_wp2_with fail
          refine CST.out.mono ?_
          rintro e w4 ⟨rfl, hb4⟩
          have HM4 := Lib.hid (HS3.out.mem.new hb4)
          have HX4 : Hid (∀ ti, (ti = none ∨ (Tl (R i) ∧ ti = some i)) → AcX w1 w4 M vp sp n rp (.slice va M vc) (.slice (some ⟨rg, 0, none⟩) n rc) (.slice (some ⟨wg, 0, none⟩) n wc) sv ss ti) := Lib.hid (fun ti hti => ⟨_, V, R, ws.set i (-1), ⟨HM4.out, HS3.out.inv, HS3.out.len, HS3.out.typ, HS3.out.bal⟩, fun j hj => by
            rcases hti with h1 | ⟨h1, h2⟩
            · rw [h1] at hj; cases hj
            · rw [h2] at hj; cases hj; exact h1⟩)
          clear hb4 CST HM4
          by_cases hs2 : st = 2
          · have HT2 : Hid (AcX w1 w4 M vp sp n rp (.slice va M vc) (.slice (some ⟨rg, 0, none⟩) n rc) (.slice (some ⟨wg, 0, none⟩) n wc) sv ss (some i)) := Lib.hid (HX4.out _ (.inr ⟨.inl (HST.out.symm.trans hs2), rfl⟩))
            clear HX4 HS3 HST
            subst hs2
            go_wp2
            go_loopw [13, 14, 55] (fun _ _ iv wr => ∃ k : Nat, k ≤ M ∧ iv = .int .i64 k ∧ Hid (AcX w1 wr M vp sp n rp (.slice va M vc) (.slice (some ⟨rg, 0, none⟩) n rc) (.slice (some ⟨wg, 0, none⟩) n wc) sv ss (some i))) (fun _ _ iv _ => M - (intOf iv).toNat)
            case atStart => exact ⟨0, by omega, rfl, HT2⟩
            case round =>
              obtain ⟨k, hk, rfl, HL⟩ := hrel
              obtain ⟨w5, rfl⟩ : ∃ v, v = wr := ⟨_, rfl⟩
              clear HT2
              by_cases hkM : k < M
              · have kk : (k : Int) < (M : Int) := by omega
                have k0 : (0 : Int) ≤ (k : Int) := by omega
                obtain ⟨f5, V5, R5, ws5, hS5, hT5⟩ := HL.out
                obtain ⟨vg, vcap, ev, hvc, cv⟩ := hS5.mem.vptr hkM
                simp only [Value.slice.injEq] at ev
                obtain ⟨rfl, _, rfl⟩ := ev
                have kc : (k : Int) ≤ (vc : Int) := by omega
                have HS5 := Lib.hid hS5
                have HT5 := Lib.hid (hT5 i rfl)
                clear hS5 hT5
                have ck : IntKind.u64.wrap (k : Int) = (k : Int) := IntWalk.u64_in _ (by omega)
                go_upto_region 10 with fail
                by_cases hbit : bits .and .i64 (ag / 2 ^ k) 1 = 1
                · obtain ⟨ra1, rc1, rv1, ra2, rc2, rv2, hX⟩ := HS5.out.mem.ron i hin
                  have CB := Lib.hid (ballot_cS w5 (rp i) (R5 i) _ _ hX.ob hX.ok)
                  have HOK := Lib.hid hX.ok
                  clear hX cv
                  go_wp2_with fail
                  refine CB.out.mono ?_
                  rintro e w6 ⟨rfl, hb6, hs6⟩
                  have HM6 := Lib.hid (HS5.out.mem.new hb6)
                  obtain ⟨ra1, rc1, rv1, ra2, rc2, rv2, hX⟩ := HM6.out.ron i hin
                  have CL := Lib.hid (log_cR w6 hX)
                  have HB6 := Lib.hid (And.intro hb6 hs6)
                  clear hX CB HM6 hb6 hs6 hbit
                  go_wp2_with fail
                  refine CL.out.mono ?_
                  intro e w7 hL
                  obtain ⟨⟨a7, c7, v7, rfl, hO7⟩, _⟩ := hL.1 HT5.out
                  have hb57 := bl_tr HB6.out.1 hL.2.2
                  have hm7 := HS5.out.mem.new hb57
                  have HSZ : Hid (w5.heap.size < w7.heap.size ∧ w5.heap.size ≤ w6.heap.size) := Lib.hid (by have := HB6.out.2; have := hL.2.2.size; omega)
                  obtain ⟨N, hN⟩ : ∃ N, N = accN 4194304 (R5 i).b (V5 k).pr (R5 i).log (V5 k).l := ⟨_, rfl⟩
                  have CA := Lib.hid (accept_c w1 w7 (vp k) (sp k) 4194304 (V5 k).l (V5 k).l (V5 k).pr (V5 k).ac (V5 k).ls (16 + (k : Int)) _ (R5 i).b HOK.out.b (hm7.von k hkM) (R5 i).log a7 _ c7 v7 (hO7.in HOK.out.lty) (lgK_of hO7.vlen (fun x hx => ⟨(hO7.blk x hx).2, by
                    have := (hO7.blk x hx).1
                    have := HSZ.out.2
                    rw [upd_new (by omega)]
                    omega⟩)) (by have := HOK.out.few; omega))
                  rw [← hN] at CA
                  have HN := Lib.hid hN
                  have HM7 := Lib.hid hm7
                  clear hL hO7 hb57 hm7 hN CL HB6
                  go_wp2_with fail
                  refine CA.out.mono ?_
                  rintro e w8 ⟨rfl, hAc⟩
                  have hs8 : ∀ {pr ac : Bl} {ls : List Cm} {l : List Pr}, VOn w1 w8 (vp k) (sp k) 4194304 l l pr ac ls (16 + (k : Int)) (Kf (upd f5 w5.heap.size 0) w7.heap.size (10 + k)) → Stp w1 (upd f5 w5.heap.size 0) (10 + k) w7 w8 := fun hv => stp_kpt hv.bel hAc.kpt ⟨w7.heap.size - 1, by have := HSZ.out.1; omega, by
                    have := HSZ.out.1
                    rw [upd_new (by omega)]
                    omega⟩
                  clear CA
                  by_cases hN0 : N = 0
                  · have hac0 : accN 4194304 (R5 i).b (V5 k).pr (R5 i).log (V5 k).l = 0 := HN.out.symm.trans hN0
                    have hV8 := hAc.yes hac0
                    have HM8 := Lib.hid (HM7.out.voter hkM hM (hs8 hV8) hV8)
                    have HLT := Lib.hid (accN_zero hac0)
                    obtain ⟨ra1, rc1, rv1, ra2, rc2, rv2, hX⟩ := HM8.out.ron i hin
                    have CC := Lib.hid (acceptedR_c w1 w8 (rp i) (R5 i) _ _ _ _ _ _ _ (16 + (k : Int)) hX)
                    rw [show errF N = Value.nilIface from by rw [hN0]; rfl]
                    clear hac0 hV8 hX hAc HM7 HN
                    go_wp2_with fail
                    refine CC.out.mono ?_
                    intro e w9 hR
                    obtain rfl := hR.1
                    have HF : Hid (AcX w1 w9 M vp sp n rp (.slice (some ⟨vg, 0, none⟩) M vc) (.slice (some ⟨rg, 0, none⟩) n rc) (.slice (some ⟨wg, 0, none⟩) n wc) sv ss (some i)) := Lib.hid ⟨_, _, _, ws5, ⟨HM8.out.round hin hM hR, HS5.out.inv.accept hkM hin HOK.out.len HT5.out HLT.out _, HS5.out.len, HS5.out.typ, fun j hj => by
                      rcases updN_at (R5) i (accR (R5 i) (16 + (k : Int))) j with ⟨e, e2⟩ | ⟨_, e2⟩
                      · rw [e2, (accR_b _ _).1, e]; exact HS5.out.bal i hin
                      · rw [e2]; exact HS5.out.bal j hj⟩, fun j hj => by
                      cases hj
                      rw [updN_self]
                      exact accR_tl _ HT5.out⟩
                    clear CC hR HM8 HLT
                    go_wp2
                    go_roundw
                    case rel => exact ⟨k + 1, by omega, by go_num, HF⟩
                    case measure => simp [intOf]; omega
                  · have hac0 : accN 4194304 (R5 i).b (V5 k).pr (R5 i).log (V5 k).l ≠ 0 := by rw [← HN.out]; exact hN0
                    have hV8 := hAc.no hac0
                    have hm8 := HM7.out.voter hkM hM (hs8 hV8) hV8
                    rw [show (⟨(V5 k).pr, (V5 k).ac, (V5 k).ls, (V5 k).l⟩ : Vr) = V5 k from rfl, updN_same] at hm8
                    have q1 : ∀ W : World, (binOp .eql 28 (errnoF N) .nilIface).run Try.prog W = .ok (.bool false) W := fun W => by
                      have := errF_eql N W
                      rw [show errF N = errnoF N from if_neg hN0, show (N == 0) = false by simp [hN0]] at this
                      exact this
                    rw [show errF N = errnoF N from if_neg hN0]
                    have HF : Hid (AcX w1 w8 M vp sp n rp (.slice (some ⟨vg, 0, none⟩) M vc) (.slice (some ⟨rg, 0, none⟩) n rc) (.slice (some ⟨wg, 0, none⟩) n wc) sv ss (some i)) := Lib.hid ⟨_, V5, R5, ws5, ⟨hm8, HS5.out.inv, HS5.out.len, HS5.out.typ, HS5.out.bal⟩, fun j hj => by
                      cases hj
                      exact HT5.out⟩
                    clear hac0 hV8 hm8 hAc HM7 HN
                    go_wp2
                    go_roundw
                    case rel => exact ⟨k + 1, by omega, by go_num, HF⟩
                    case measure => simp [intOf]; omega
                · go_wp2
                  go_roundw
                  case rel => exact ⟨k + 1, by omega, by go_num, HL⟩
                  case measure => simp [intOf]; omega
              · have kk : ¬ (k : Int) < (M : Int) := by omega
                have HE : Hid (AcX w1 w5 M vp sp n rp (.slice va M vc) (.slice (some ⟨rg, 0, none⟩) n rc) (.slice (some ⟨wg, 0, none⟩) n wc) sv ss none) := Lib.hid (by
                  obtain ⟨f5, V5, R5, ws5, hS5, _⟩ := HL.out
                  exact ⟨f5, V5, R5, ws5, hS5, fun j hj => by cases hj⟩)
                clear HL
                go_wp2
                go_roundw
                case rel => exact ⟨i + 1, by omega, by go_num, HE⟩
                case measure => simp [intOf]; omega
          · have HE := Lib.hid (HX4.out none (.inl rfl))
            clear HX4 HS3 HST
            have g2 : ¬ st = 2 := hs2
            go_wp2
            go_roundw
            case rel => exact ⟨i + 1, by omega, by go_num, HE⟩
            case measure => simp [intOf]; omega
    · have ii : ¬ (i : Int) < (n : Int) := by omega
      go_wp2
      go_end0
      exact ⟨rfl, HS.out⟩
end Go.Proofs.Ytnhnpfhfcbmmlaa
