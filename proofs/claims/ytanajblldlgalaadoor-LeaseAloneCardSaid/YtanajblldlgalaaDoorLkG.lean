/- The statement LeaseGrants' walk. Conditions: the list came in; the numbers fit their kinds; the library's table lies as its text lays it. -/
import Derived.Test.YtanajblldlgalaaDoorLkE
namespace Go.Proofs.YtanajblldlgalaaDoor
open Go Go.RowKit
set_option linter.unusedVariables false
set_option linter.unusedSimpArgs false

theorem lease_neqs (y0 y1 y2 y3 : Int) (w : World) : (binOp .neq tyL (.agg #[.int .u32 y0, .int .i64 y1, .int .u32 y2, .int .i64 y3]) (.agg #[.int .u32 y0, .int .i64 y1, .int .u32 y2, .int .i64 y3])).run Tryd.prog w = .ok (.bool false) w := by
  have hq := lease_neq (⟨y0, y1, y2, y3⟩ : Ls) ⟨y0, y1, y2, y3⟩ w
  rwa [eqL_is, decide_eq_true rfl] at hq
theorem lease_eqs (y0 y1 y2 y3 : Int) (w : World) : (binOp .eql tyL (.agg #[.int .u32 y0, .int .i64 y1, .int .u32 y2, .int .i64 y3]) (.agg #[.int .u32 y0, .int .i64 y1, .int .u32 y2, .int .i64 y3])).run Tryd.prog w = .ok (.bool true) w := by
  have hq := lease_eql (⟨y0, y1, y2, y3⟩ : Ls) ⟨y0, y1, y2, y3⟩ w
  rwa [eqL_is, decide_eq_true rfl] at hq
/-- A lease of zeros stored in a row. -/
abbrev st4 (w : World) (g j : Nat) : World := (((w.setCell ⟨g, j, none⟩ (.int .u32 0)).setCell ⟨g, j + 1, none⟩ (.int .i64 0)).setCell ⟨g, j + 2, none⟩ (.int .u32 0)).setCell ⟨g, j + 3, none⟩ (.int .i64 0)
theorem own_st4 {B g size n : Nat} {e : TypeId} {v : Value} {xs : List Value} {W : World} (ho : W.ownsRow B e size v n xs) (hg : g < B) (j : Nat) : (st4 W g j).ownsRow B e size v n xs :=
  own_cell1 (own_cell1 (own_cell1 (own_cell1 ho hg _ _) hg _ _) hg _ _) hg _ _
theorem bx_st4 {w : World} {g q : Nat} {x : Ls} (h : BxL w q x) (hq : q ≠ g) (j : Nat) : BxL (st4 w g j) q x := by
  have hs : ∀ (W : World) (i : Nat) (u : Value), BxL W q x → BxL (W.setCell ⟨g, i, none⟩ u) q x := fun W i u hb => (heap_setCell_other W ⟨g, i, none⟩ q u hq).trans hb
  exact hs _ _ _ (hs _ _ _ (hs _ _ _ (hs _ _ _ h)))
theorem bl_st4 {B g : Nat} {w w' : World} (h : Below B w w') (hB : B ≤ g) (j : Nat) : Below B w (st4 w' g j) :=
  (((h.setCell (p := ⟨g, j, none⟩) hB _).setCell (p := ⟨g, j + 1, none⟩) hB _).setCell (p := ⟨g, j + 2, none⟩) hB _).setCell (p := ⟨g, j + 3, none⟩) hB _
theorem own_in4 {B g n cap : Nat} {xs : List Value} {w : World} (h : w.ownsRow B tyL 4 (.slice (some ⟨g, 0, none⟩) n cap) n xs) {i : Nat} (hi : i < n) :
    (∃ u0 u1 u2 u3, w.cell? ⟨g, i * 4, none⟩ = some u0 ∧ w.cell? ⟨g, i * 4 + 1, none⟩ = some u1 ∧ w.cell? ⟨g, i * 4 + 2, none⟩ = some u2 ∧ w.cell? ⟨g, i * 4 + 3, none⟩ = some u3) ∧
    (w.frozen? ⟨g, i * 4, none⟩ = false ∧ w.frozen? ⟨g, i * 4 + 1, none⟩ = false ∧ w.frozen? ⟨g, i * 4 + 2, none⟩ = false ∧ w.frozen? ⟨g, i * 4 + 3, none⟩ = false) := by
  have hl := h.1
  have hc : ∀ j, j < n * 4 → ∃ u, w.cell? ⟨g, j, none⟩ = some u := fun j hj => ⟨_, (h.cellAt j hj).trans (List.getElem?_eq_getElem (by omega))⟩
  obtain ⟨u0, h0⟩ := hc (i * 4) (by omega)
  obtain ⟨u1, h1⟩ := hc (i * 4 + 1) (by omega)
  obtain ⟨u2, h2⟩ := hc (i * 4 + 2) (by omega)
  obtain ⟨u3, h3⟩ := hc (i * 4 + 3) (by omega)
  exact ⟨⟨u0, u1, u2, u3, h0, h1, h2, h3⟩, h.frozenAt _, h.frozenAt _, h.frozenAt _, h.frozenAt _⟩
theorem own_stored4 {B g n cap : Nat} {xs : List Value} {w : World} (h : w.ownsRow B tyL 4 (.slice (some ⟨g, 0, none⟩) n cap) n xs) (j : Nat) : ∃ ys, (st4 w g j).ownsRow B tyL 4 (.slice (some ⟨g, 0, none⟩) n cap) n ys :=
  ⟨_, ((((h.stored j (.int .u32 0)).1.stored (j + 1) (.int .i64 0)).1.stored (j + 2) (.int .u32 0)).1.stored (j + 3) (.int .i64 0)).1⟩
theorem own_some {B n c : Nat} {a : Option Addr} {xs : List Value} {w : World} (h : w.ownsRow B tyL 4 (.slice a n c) n xs) (hn : 0 < n) : ∃ g, a = some ⟨g, 0, none⟩ := by
  rcases h.2 with ⟨hv, h0⟩ | ⟨g, cap, cur, hv, _⟩
  · omega
  · simp only [Value.slice.injEq] at hv
    exact ⟨g, hv.1⟩
/-- What stands while the granted list is wiped. -/
structure Zr (w1 : World) (B : Nat) (a3 : Option Addr) (m c3 : Nat) (vn vo : Value) (N : List Ls) (p3 p4 : Nat) (y : Ls) (wr : World) : Prop where
  own : ∃ xs, wr.ownsRow w1.heap.size tyL 4 (.slice a3 m c3) m xs
  bel : Below w1.heap.size w1 wr
  rn : PkL B wr vn N
  ro : PkL B wr vo N
  b3 : BxL wr p3 y
  b4 : BxL wr p4 y
  l3 : B ≤ p3
  l4 : B ≤ p4
  far : ∀ k, (Value.slice a3 m c3).ownBlock = some k → k < B
theorem Zr.step {w1 : World} {B g m c3 : Nat} {vn vo : Value} {N : List Ls} {p3 p4 : Nat} {y : Ls} {wr : World} (h : Zr w1 B (some ⟨g, 0, none⟩) m c3 vn vo N p3 p4 y wr) (j : Nat) : Zr w1 B (some ⟨g, 0, none⟩) m c3 vn vo N p3 p4 y (st4 wr g j) := by
  obtain ⟨xs, ho⟩ := h.own
  have hg := h.far g rfl
  have h3 := h.l3
  have h4 := h.l4
  exact ⟨own_stored4 ho j, bl_st4 h.bel (own_blkL ho rfl) j, own_st4 h.rn hg j, own_st4 h.ro hg j, bx_st4 h.b3 (by omega) j, bx_st4 h.b4 (by omega) j, h3, h4, h.far⟩
theorem OutR.get2 {w w' : World} {L : List Ls} {g : Ls} {z : Int} {e : Ending} (h : OutR w (L, g, z) e w') (ht : ∀ x ∈ L, TyL x) : ∃ ao c, e = .returned (.tuple #[.slice ao L.length c, .agg #[.int .u32 g.vip, .int .i64 g.first, .int .u32 g.dip, .int .i64 g.exp], .int .i64 z]) ∧ PkL w.heap.size w' (.slice ao L.length c) L ∧ Below w.heap.size w w' := by
  obtain ⟨⟨v, he, hK⟩, hb⟩ := h
  obtain ⟨ao, c, rfl, hI⟩ := PkL.inL hK ht
  exact ⟨ao, c, he, hK, hb⟩
theorem same_inL {L : List Ls} {n : Nat} (hlen : L.length ≤ n + 1) (hn : n ≤ 150) (ht : ∀ x ∈ L, TyL x) {W : World} {v u : Value} {B B' : Nat} (h1 : PkL B W v L) (h2 : PkL B' W u L) :
    Calls Tryd.prog 13 #[v, u] W fun e w' => e = .returned (.bool true) ∧ Below W.heap.size W w' := by
  obtain ⟨a1, c1, rfl, hI1⟩ := h1.inL ht
  obtain ⟨a2, c2, rfl, hI2⟩ := h2.inL ht
  have h := refSame_c L L a1 a2 _ _ c1 c2 W hI1 hI2 (by omega) (by omega)
  rwa [decide_eq_true rfl] at h
set_option maxRecDepth 100000 in
set_option maxHeartbeats 8000000 in
theorem leaseGrants_t (l : List Ls) (vip dip first now : Int) (a : Option Addr) (n c : Nat) (w : World) (hI : InL w a n c l) (hv : 0 ≤ vip ∧ vip < 4294967296) (hd : 0 ≤ dip ∧ dip < 4294967296) (hf : i64b first) (hn : n ≤ 4611686018427387904) (hg : Good w) :
    Calls Tryd.prog 3 #[.agg #[.slice a n c, .int .u32 vip, .int .u32 dip, .int .i64 first, .int .i64 now]] w fun e w' => e = .returned (.bool true) ∧ Below w.heap.size w w' := by
  obtain ⟨W, g, hW, hg1, hA, hb⟩ := askC_new w a n c vip dip first now
  have hlen := hI.len
  have CA := Lib.hid (alive_c W (hg.later hb))
  have HI := Lib.hid (hI.below hb)
  have HA := Lib.hid hA
  have HB := Lib.hid hb
  have HG := Lib.hid (hg.later hb)
  have HW := Lib.hid (And.intro hW hg1)
  have HV := Lib.hid (And.intro hv hd)
  have HT := Lib.hid hI.typ
  have HF := Lib.hid hf
  clear hW hg1 hA hb hI hg hv hd hf
  by_cases hl : 150 < n
  · have il : (150 : Int) < (n : Int) := by omega
    go_enter Tryd.func3, Tryd.ntmps3
    go_upto_region 1 with fail
    rw [show w.alloc (.cells #[.slice a n c, .int .u32 vip, .int .u32 dip, .int .i64 first, .int .i64 now] 26) = W from HW.out.1.symm, ← HW.out.2]
    go_wp2_with fail
    refine CA.out.mono ?_
    rintro e w0 ⟨rfl, hb0⟩
    have HA0 := Lib.hid (HA.out.later hb0)
    have HI0 := Lib.hid (HI.out.below hb0)
    have HG0 := Lib.hid (HG.out.later hb0)
    have HB0 := Lib.hid (bl_tr HB.out hb0)
    obtain ⟨k0, k1, k2, k3, k4⟩ := HA0.out
    clear hb0 CA
    go_wp2
    go_ret
    exact ⟨rfl, HB0.out⟩
  · have il : ¬ (150 : Int) < (n : Int) := by omega
    have hn2 : n ≤ 150 := by omega
    have CM := Lib.hid (fun (W1 : World) (hI : InL W1 a n c l) => mineL_c l a n c W1 hI (by omega))
    have CK := Lib.hid (fun (W1 : World) (g2 : Nat) (hM : MkL W1 g2 n l) (hI : InL W1 a n c l) => keptL_c l a n c g2 W1 hM hI (by omega))
    have HO1 := Lib.hid (grant_out l vip dip now)
    have HO2 := Lib.hid (renew_out l vip first dip now)
    have CG := Lib.hid (fun (W1 : World) {ao : Option Addr} {cc : Nat} (hI : InL W1 ao n cc l) (hg : Good W1) => grant_c l vip dip now ao n cc W1 hI (by omega) HV.out.1 HV.out.2 hg)
    have CRG := Lib.hid (fun (W1 : World) (hI : InL W1 a n c l) => refGrant_c l vip dip now a n c W1 hI (by omega) HV.out.1 HV.out.2)
    have CN := Lib.hid (fun (W1 : World) {ao : Option Addr} {cc : Nat} (hI : InL W1 ao n cc l) => renew_c l vip first dip now ao n cc W1 hI (by omega) HV.out.1 HV.out.2 HF.out)
    have CRN := Lib.hid (fun (W1 : World) (hI : InL W1 a n c l) => refRenew_c l vip first dip now a n c W1 hI (by omega))
    have CC := Lib.hid (fun (W1 : World) {ao : Option Addr} {cc : Nat} (hI : InL W1 ao n cc l) => check_c l ao n cc W1 hI (by omega))
    have CRC := Lib.hid (fun (W1 : World) (hI : InL W1 a n c l) => refGood_c l a n c W1 hI (by omega))
    obtain ⟨r, hr⟩ : ∃ r, r = grantL l vip dip now := ⟨_, rfl⟩
    obtain ⟨L, ⟨y0, y1, y2, y3⟩, z⟩ := r
    rw [← hr] at HO1 CG CRG
    clear hr
    obtain ⟨r, hr⟩ : ∃ r, r = renewL l vip first dip now := ⟨_, rfl⟩
    obtain ⟨N, ⟨x0, x1, x2, x3⟩, z2⟩ := r
    rw [← hr] at HO2 CN CRN
    clear hr
    have HT1 := Lib.hid (out_ty (l := l) HO1.out.2)
    have HT2 := Lib.hid (out_ty (l := l) HO2.out.2)
    have CZ1 := Lib.hid (fun W => numL_c z HO1.out.1 W)
    have CZ2 := Lib.hid (fun W => numL_c z2 HO2.out.1 W)
    have CS1 := Lib.hid (fun (W1 : World) {v u : Value} {B B' : Nat} (h1 : PkL B W1 v L) (h2 : PkL B' W1 u L) => same_inL (L := L) (n := n) (by have := HT1.out.2; omega) hn2 HT1.out.1 h1 h2)
    have CS2 := Lib.hid (fun (W1 : World) {v u : Value} {B B' : Nat} (h1 : PkL B W1 v N) (h2 : PkL B' W1 u N) => same_inL (L := N) (n := n) (by have := HT2.out.2; omega) hn2 HT2.out.1 h1 h2)
    have q1 := lease_neqs y0 y1 y2 y3
    have q2 := lease_eqs x0 x1 x2 x3
    obtain ⟨kz, hkz⟩ : ∃ kz : Int, kz = if OkL l then 0 else 9 := ⟨_, rfl⟩
    obtain ⟨b, hbq⟩ : ∃ b : Bool, b = decide (OkL l) := ⟨_, rfl⟩
    have q3 : ∀ w : World, (binOp .eql 32 (errL kz) .nilIface).run Tryd.prog w = .ok (.bool b) w := by
      intro w
      by_cases ho : OkL l
      · rw [hkz, hbq, if_pos ho, decide_eq_true ho]
        kernel_rfl
      · rw [hkz, hbq, if_neg ho, decide_eq_false ho]
        kernel_rfl
    have q4 : ∀ w : World, (eqGuard .eql 32 (.tmp 134) (.const .nilIface) (errL kz) .nilIface).run Tryd.prog w = .ok () w := by
      intro w
      by_cases ho : OkL l
      · rw [hkz, if_pos ho]
        kernel_rfl
      · rw [hkz, if_neg ho]
        kernel_rfl
    have hbb : (b == b) = true := by simp
    rw [← hkz] at CC
    rw [← hbq] at CRC
    have hLn : L.length ≤ 151 := by have := HT1.out.2; omega
    clear hkz hbq HO1 HO2
    go_enter Tryd.func3, Tryd.ntmps3
    go_upto_region 1 with fail
    rw [show w.alloc (.cells #[.slice a n c, .int .u32 vip, .int .u32 dip, .int .i64 first, .int .i64 now] 26) = W from HW.out.1.symm, ← HW.out.2]
    go_wp2_with fail
    refine CA.out.mono ?_
    rintro e w0 ⟨rfl, hb0⟩
    have HA0 := Lib.hid (HA.out.later hb0)
    have HI0 := Lib.hid (HI.out.below hb0)
    have HG0 := Lib.hid (HG.out.later hb0)
    have HB0 := Lib.hid (bl_tr HB.out hb0)
    obtain ⟨k0, k1, k2, k3, k4⟩ := HA0.out
    clear hb0 CA
    have HG1 := Lib.hid HG0.out
    go_wp2_with fail
    refine (CM.out w0 HI0.out).mono ?_
    rintro e w1 ⟨g2, rfl, hM, hg2, hb1⟩
    have HM1 := Lib.hid hM
    have HA1 := Lib.hid (HA0.out.later hb1)
    have HI1 := Lib.hid (HI0.out.below hb1)
    have HB1 := Lib.hid (bl_tr HB0.out hb1)
    have HGd := Lib.hid (HG0.out.later hb1)
    clear hM hg2 hb1 CM k0 k1 k2 k3 k4
    obtain ⟨k0, k1, k2, k3, k4⟩ := HA1.out
    go_wp2_with fail
    refine (CG.out w1 HM1.out.row HGd.out).mono ?_
    rintro e w2 hG2
    obtain ⟨a3, c3, rfl, _, hO2, hb2⟩ := OutG.get hG2 HT1.out.1
    dsimp only
    obtain ⟨w3, p1, hw3, hp1, hA3, hb3, _⟩ := boxed w2 ⟨y0, y1, y2, y3⟩
    have HX3 : Hid (BxL w3 p1 ⟨y0, y1, y2, y3⟩) := Lib.hid (by rw [hw3, hp1]; exact bxL_new w2 _)
    have HL3 := Lib.hid (owns_bel hO2 hb3)
    have HE3 := Lib.hid (bl_tr hb2 hb3)
    have HW3 := Lib.hid (And.intro hw3 hp1)
    have HK2 := Lib.hid (fun k hk => (hO2.lt k hk).2)
    have HS3 := Lib.hid hb3
    clear hw3 hp1 hA3 hb3 hb2 hO2 hG2 CG k0 k1 k2 k3 k4
    go_upto_region 7 with fail
    rw [show w2.alloc (.cells #[.int .u32 y0, .int .i64 y1, .int .u32 y2, .int .i64 y3] tyL) = w3 from HW3.out.1.symm, ← HW3.out.2]
    obtain ⟨k0, k1, k2, k3, k4⟩ := (HA1.out.later HE3.out)
    go_wp2_with fail
    refine (CRG.out w3 (HI1.out.below HE3.out)).mono ?_
    rintro e w4 hG4
    obtain ⟨a4, c4, rfl, hO4, hb4⟩ := OutR.get2 hG4 HT1.out.1
    dsimp only
    obtain ⟨w5, p2, hw5, hp2, hA5, hb5, _⟩ := boxed w4 ⟨y0, y1, y2, y3⟩
    have HX5 : Hid (BxL w5 p2 ⟨y0, y1, y2, y3⟩) := Lib.hid (by rw [hw5, hp2]; exact bxL_new w4 _)
    have HX35 := Lib.hid (HX3.out.later (bl_tr hb4 hb5))
    have HL5 := Lib.hid (owns_bel HL3.out (bl_tr hb4 hb5))
    have HR5 := Lib.hid (PkL.below hO4 hb5)
    have HE5 := Lib.hid (bl_tr HE3.out (bl_tr hb4 hb5))
    have HS5 := Lib.hid (bl_tr HS3.out (bl_tr hb4 hb5))
    have HW5 := Lib.hid (And.intro hw5 hp2)
    clear hw5 hp2 hA5 hb5 hb4 hO4 hG4 CRG k0 k1 k2 k3 k4
    go_upto_region 8 with fail
    rw [show w4.alloc (.cells #[.int .u32 y0, .int .i64 y1, .int .u32 y2, .int .i64 y3] tyL) = w5 from HW5.out.1.symm, ← HW5.out.2]
    go_wp2_with fail
    refine (CS1.out w5 HL5.out HR5.out).mono ?_
    rintro e w6 ⟨rfl, hb6⟩
    have HE6 := Lib.hid (bl_tr HE5.out hb6)
    have HL6 := Lib.hid (owns_bel HL5.out hb6)
    have HS6 := Lib.hid (bl_tr HS5.out hb6)
    obtain ⟨i0, i1, i2, i3⟩ := (HX35.out.later hb6).at
    obtain ⟨j0, j1, j2, j3⟩ := (HX5.out.later hb6).at
    clear hb6
    go_wp2_with fail
    refine (CZ1.out w6).mono ?_
    rintro e w6' ⟨rfl, rfl⟩
    obtain ⟨k0, k1, k2, k3, k4⟩ := (HA1.out.later HE6.out)
    go_wp2_with fail
    refine (CK.out w6 g2 (HM1.out.below HE6.out) (HI1.out.below HE6.out)).mono ?_
    rintro e w7 ⟨rfl, hb7⟩
    have HE7 := Lib.hid (bl_tr HE6.out hb7)
    have HL7 := Lib.hid (owns_bel HL6.out hb7)
    have HS7 := Lib.hid (bl_tr HS6.out hb7)
    have HK7 : Hid (∀ k, (Value.slice a3 L.length c3).ownBlock = some k → k < w7.heap.size) := Lib.hid (fun k hk => by have h1 := HK2.out k hk; have h2 := HS7.out.size; omega)
    clear hb7 k0 k1 k2 k3 k4 i0 i1 i2 i3 j0 j1 j2 j3 CZ1 CS1 HX3 HX35 HX5 HR5 HL3 HL5 HL6 HE3 HE5 HS3 HS5 HS6 HW3 HW5 HK2
    obtain ⟨k0, k1, k2, k3, k4⟩ := (HA1.out.later HE7.out)
    go_wp2_with fail
    refine (CN.out w7 (HM1.out.below HE7.out).row).mono ?_
    rintro e w8 hG8
    obtain ⟨a5, c5, rfl, _, hO8, hb8⟩ := OutG.get hG8 HT2.out.1
    dsimp only
    obtain ⟨w9, p3, hw9, hp3, hA9, hb9, _⟩ := boxed w8 ⟨x0, x1, x2, x3⟩
    have HX9 : Hid (BxL w9 p3 ⟨x0, x1, x2, x3⟩) := Lib.hid (by rw [hw9, hp3]; exact bxL_new w8 _)
    have HN9 := Lib.hid (PkL.below hO8 hb9)
    have HL9 := Lib.hid (owns_bel HL7.out (bl_tr hb8 hb9))
    have HE9 := Lib.hid (bl_tr HE7.out (bl_tr hb8 hb9))
    have HU9 := Lib.hid (bl_tr hb8 hb9)
    have HP3 : Hid (w7.heap.size ≤ p3) := Lib.hid (by have := hb8.size; omega)
    have HW9 := Lib.hid (And.intro hw9 hp3)
    clear hw9 hp3 hA9 hb9 hb8 hO8 hG8 CN k0 k1 k2 k3 k4
    go_upto_region 11 with fail
    rw [show w8.alloc (.cells #[.int .u32 x0, .int .i64 x1, .int .u32 x2, .int .i64 x3] tyL) = w9 from HW9.out.1.symm, ← HW9.out.2]
    obtain ⟨k0, k1, k2, k3, k4⟩ := (HA1.out.later HE9.out)
    go_wp2_with fail
    refine (CRN.out w9 (HI1.out.below HE9.out)).mono ?_
    rintro e wa hGa
    obtain ⟨a6, c6, rfl, hOa, hba⟩ := OutR.get2 hGa HT2.out.1
    dsimp only
    obtain ⟨wb, p4, hwb, hp4, hAb, hbb2, _⟩ := boxed wa ⟨x0, x1, x2, x3⟩
    have HZ0 : Hid (Zr w1 w7.heap.size a3 L.length c3 (.slice a5 N.length c5) (.slice a6 N.length c6) N p3 p4 ⟨x0, x1, x2, x3⟩ wb) := Lib.hid (by
      have s1 := HU9.out.size
      have s2 := hba.size
      refine ⟨⟨_, owns_bel HL9.out (bl_tr hba hbb2)⟩, bl_tr HE9.out (bl_tr hba hbb2), PkL.below HN9.out (bl_tr hba hbb2), (PkL.below hOa hbb2).base s1, HX9.out.later (bl_tr hba hbb2), ?_, HP3.out, by omega, HK7.out⟩
      rw [hwb, hp4]
      exact bxL_new wa _)
    have HWb := Lib.hid (And.intro hwb hp4)
    clear hwb hp4 hAb hbb2 hba hOa hGa CRN k0 k1 k2 k3 k4 HX9 HN9 HL9 HE9 HU9 HP3 HK7 HL7 HS7
    go_upto_region 12 with fail
    rw [show wa.alloc (.cells #[.int .u32 x0, .int .i64 x1, .int .u32 x2, .int .i64 x3] tyL) = wb from HWb.out.1.symm, ← HWb.out.2]
    clear HW9 HWb
    go_wp2
    go_loopw [104] (fun iv wr => ∃ i : Nat, i ≤ L.length ∧ iv = .int .i64 i ∧ Hid (Zr w1 w7.heap.size a3 L.length c3 (.slice a5 N.length c5) (.slice a6 N.length c6) N p3 p4 ⟨x0, x1, x2, x3⟩ wr)) (fun iv _ => L.length - (intOf iv).toNat)
    case atStart => exact ⟨0, by omega, rfl, HZ0⟩
    case round =>
      obtain ⟨i, hi, rfl, HZ⟩ := hrel
      obtain ⟨wz, rfl⟩ : ∃ v, v = wr := ⟨_, rfl⟩
      clear HZ0
      by_cases hlt : i < L.length
      · have ii : (i : Int) < (L.length : Int) := by omega
        have i0 : (0 : Int) ≤ (i : Int) := by omega
        obtain ⟨g3, rfl⟩ : ∃ g3, a3 = some ⟨g3, 0, none⟩ := by
          obtain ⟨xs, ho⟩ := HZ.out.own
          exact own_some ho (by omega)
        obtain ⟨⟨u0, u1, u2, u3, c0, c1, c2, c3'⟩, f0, f1, f2, f3⟩ : (∃ u0 u1 u2 u3, wz.cell? ⟨g3, i * 4, none⟩ = some u0 ∧ wz.cell? ⟨g3, i * 4 + 1, none⟩ = some u1 ∧ wz.cell? ⟨g3, i * 4 + 2, none⟩ = some u2 ∧ wz.cell? ⟨g3, i * 4 + 3, none⟩ = some u3) ∧ (wz.frozen? ⟨g3, i * 4, none⟩ = false ∧ wz.frozen? ⟨g3, i * 4 + 1, none⟩ = false ∧ wz.frozen? ⟨g3, i * 4 + 2, none⟩ = false ∧ wz.frozen? ⟨g3, i * 4 + 3, none⟩ = false) := by
          obtain ⟨xs, ho⟩ := HZ.out.own
          exact own_in4 ho hlt
        have HZ6 := Lib.hid (HZ.out.step (i * 4))
        have v1 : ∀ [Inhabited Nat], IntKind.i64.wrap ((i : Int) + 1) = (i : Int) + 1 := by intro _; exact IntWalk.i64_in _ (by omega)
        clear HZ
        go_wp2
        refine ⟨⟨i + 1, by omega, by rw [Int.natCast_add]; rfl, HZ6⟩, ?_⟩
        simp [intOf]
        omega
      · obtain rfl : i = L.length := by omega
        have ii : ¬ ((L.length : Nat) : Int) < (L.length : Int) := by omega
        have hX0 : Sx p3 p4 g a n c vip dip first now x0 x1 x2 x3 wz.drew := by
          have hA := HA1.out.later HZ.out.bel
          exact Sx.of (w := wz.drew) HZ.out.b3 HZ.out.b4 ⟨hA.row, hA.vp, hA.dp, hA.fs, hA.nw⟩
        have HD0 : Hid (Below wz.heap.size wz wz.drew) := Lib.hid (Below.refl _ _).drew
        have hS0 : (wz.drew.cell? ⟨p3, 0, none⟩ = some (.int .u32 x0) ∧ wz.drew.cell? ⟨p3, 1, none⟩ = some (.int .i64 x1) ∧ wz.drew.cell? ⟨p3, 2, none⟩ = some (.int .u32 x2) ∧ wz.drew.cell? ⟨p3, 3, none⟩ = some (.int .i64 x3)) ∧ (wz.drew.cell? ⟨p4, 0, none⟩ = some (.int .u32 x0) ∧ wz.drew.cell? ⟨p4, 1, none⟩ = some (.int .i64 x1) ∧ wz.drew.cell? ⟨p4, 2, none⟩ = some (.int .u32 x2) ∧ wz.drew.cell? ⟨p4, 3, none⟩ = some (.int .i64 x3)) ∧ wz.drew.cell? ⟨g, 0, none⟩ = some (.slice a n c) ∧ wz.drew.cell? ⟨g, 1, none⟩ = some (.int .u32 vip) ∧ wz.drew.cell? ⟨g, 2, none⟩ = some (.int .u32 dip) ∧ wz.drew.cell? ⟨g, 3, none⟩ = some (.int .i64 first) ∧ wz.drew.cell? ⟨g, 4, none⟩ = some (.int .i64 now) := hX0
        go_upto_region 17 with fail
        go_region_held3 (fun wx => (wx.cell? ⟨p3, 0, none⟩ = some (.int .u32 x0) ∧ wx.cell? ⟨p3, 1, none⟩ = some (.int .i64 x1) ∧ wx.cell? ⟨p3, 2, none⟩ = some (.int .u32 x2) ∧ wx.cell? ⟨p3, 3, none⟩ = some (.int .i64 x3)) ∧ (wx.cell? ⟨p4, 0, none⟩ = some (.int .u32 x0) ∧ wx.cell? ⟨p4, 1, none⟩ = some (.int .i64 x1) ∧ wx.cell? ⟨p4, 2, none⟩ = some (.int .u32 x2) ∧ wx.cell? ⟨p4, 3, none⟩ = some (.int .i64 x3)) ∧ wx.cell? ⟨g, 0, none⟩ = some (.slice a n c) ∧ wx.cell? ⟨g, 1, none⟩ = some (.int .u32 vip) ∧ wx.cell? ⟨g, 2, none⟩ = some (.int .u32 dip) ∧ wx.cell? ⟨g, 3, none⟩ = some (.int .i64 first) ∧ wx.cell? ⟨g, 4, none⟩ = some (.int .i64 now)) (first | (with_reducible exact hS0) | (with_reducible exact hS1) | (with_reducible exact hS2) | (with_reducible exact hS3) | (with_reducible exact hS4) | (with_reducible assumption) | fail)
          (first | (go_at_call 13; (with_reducible refine (CS2.out _ (PkL.below HZ.out.rn HD0.out) (PkL.below HZ.out.ro HD0.out)).mono ?_); rintro e v1 ⟨rfl, hb⟩; have HD1 := Lib.hid (bl_tr HD0.out hb); have hX1 := Sx.later hX0 hb; have hS1 : (v1.cell? ⟨p3, 0, none⟩ = some (.int .u32 x0) ∧ v1.cell? ⟨p3, 1, none⟩ = some (.int .i64 x1) ∧ v1.cell? ⟨p3, 2, none⟩ = some (.int .u32 x2) ∧ v1.cell? ⟨p3, 3, none⟩ = some (.int .i64 x3)) ∧ (v1.cell? ⟨p4, 0, none⟩ = some (.int .u32 x0) ∧ v1.cell? ⟨p4, 1, none⟩ = some (.int .i64 x1) ∧ v1.cell? ⟨p4, 2, none⟩ = some (.int .u32 x2) ∧ v1.cell? ⟨p4, 3, none⟩ = some (.int .i64 x3)) ∧ v1.cell? ⟨g, 0, none⟩ = some (.slice a n c) ∧ v1.cell? ⟨g, 1, none⟩ = some (.int .u32 vip) ∧ v1.cell? ⟨g, 2, none⟩ = some (.int .u32 dip) ∧ v1.cell? ⟨g, 3, none⟩ = some (.int .i64 first) ∧ v1.cell? ⟨g, 4, none⟩ = some (.int .i64 now) := hX1; clear hb) | (go_at_call 14; (with_reducible refine (CZ2.out _).mono ?_); rintro e v2 ⟨rfl, rfl⟩) | (go_at_call 15; (with_reducible refine (CK.out _ _ (HM1.out.below (bl_tr HZ.out.bel HD1.out)) (HI1.out.below (bl_tr HZ.out.bel HD1.out))).mono ?_); rintro e v3 ⟨rfl, hb⟩; have HD2 := Lib.hid (bl_tr HD1.out hb); have hX2 := Sx.later hX1 hb; have hS2 : (v3.cell? ⟨p3, 0, none⟩ = some (.int .u32 x0) ∧ v3.cell? ⟨p3, 1, none⟩ = some (.int .i64 x1) ∧ v3.cell? ⟨p3, 2, none⟩ = some (.int .u32 x2) ∧ v3.cell? ⟨p3, 3, none⟩ = some (.int .i64 x3)) ∧ (v3.cell? ⟨p4, 0, none⟩ = some (.int .u32 x0) ∧ v3.cell? ⟨p4, 1, none⟩ = some (.int .i64 x1) ∧ v3.cell? ⟨p4, 2, none⟩ = some (.int .u32 x2) ∧ v3.cell? ⟨p4, 3, none⟩ = some (.int .i64 x3)) ∧ v3.cell? ⟨g, 0, none⟩ = some (.slice a n c) ∧ v3.cell? ⟨g, 1, none⟩ = some (.int .u32 vip) ∧ v3.cell? ⟨g, 2, none⟩ = some (.int .u32 dip) ∧ v3.cell? ⟨g, 3, none⟩ = some (.int .i64 first) ∧ v3.cell? ⟨g, 4, none⟩ = some (.int .i64 now) := hX2; clear hb) | (go_at_call 18; (with_reducible refine (CC.out _ (HM1.out.below (bl_tr HZ.out.bel HD2.out)).row).mono ?_); rintro e v4 ⟨rfl, hb⟩; have HD3 := Lib.hid (bl_tr HD2.out hb); have hX3 := Sx.later hX2 hb; have hS3 : (v4.cell? ⟨p3, 0, none⟩ = some (.int .u32 x0) ∧ v4.cell? ⟨p3, 1, none⟩ = some (.int .i64 x1) ∧ v4.cell? ⟨p3, 2, none⟩ = some (.int .u32 x2) ∧ v4.cell? ⟨p3, 3, none⟩ = some (.int .i64 x3)) ∧ (v4.cell? ⟨p4, 0, none⟩ = some (.int .u32 x0) ∧ v4.cell? ⟨p4, 1, none⟩ = some (.int .i64 x1) ∧ v4.cell? ⟨p4, 2, none⟩ = some (.int .u32 x2) ∧ v4.cell? ⟨p4, 3, none⟩ = some (.int .i64 x3)) ∧ v4.cell? ⟨g, 0, none⟩ = some (.slice a n c) ∧ v4.cell? ⟨g, 1, none⟩ = some (.int .u32 vip) ∧ v4.cell? ⟨g, 2, none⟩ = some (.int .u32 dip) ∧ v4.cell? ⟨g, 3, none⟩ = some (.int .i64 first) ∧ v4.cell? ⟨g, 4, none⟩ = some (.int .i64 now) := hX3; clear hb) | (go_at_call 19; (with_reducible refine (CRC.out _ (HI1.out.below (bl_tr HZ.out.bel HD3.out))).mono ?_); rintro e v5 ⟨rfl, hb⟩; have HD4 := Lib.hid (bl_tr HD3.out hb); have hX4 := Sx.later hX3 hb; have hS4 : (v5.cell? ⟨p3, 0, none⟩ = some (.int .u32 x0) ∧ v5.cell? ⟨p3, 1, none⟩ = some (.int .i64 x1) ∧ v5.cell? ⟨p3, 2, none⟩ = some (.int .u32 x2) ∧ v5.cell? ⟨p3, 3, none⟩ = some (.int .i64 x3)) ∧ (v5.cell? ⟨p4, 0, none⟩ = some (.int .u32 x0) ∧ v5.cell? ⟨p4, 1, none⟩ = some (.int .i64 x1) ∧ v5.cell? ⟨p4, 2, none⟩ = some (.int .u32 x2) ∧ v5.cell? ⟨p4, 3, none⟩ = some (.int .i64 x3)) ∧ v5.cell? ⟨g, 0, none⟩ = some (.slice a n c) ∧ v5.cell? ⟨g, 1, none⟩ = some (.int .u32 vip) ∧ v5.cell? ⟨g, 2, none⟩ = some (.int .u32 dip) ∧ v5.cell? ⟨g, 3, none⟩ = some (.int .i64 first) ∧ v5.cell? ⟨g, 4, none⟩ = some (.int .i64 now) := hX4; clear hb) | fail)
        all_goals
          have HEnd := Lib.hid (bl_tr HB1.out (bl_tr HZ.out.bel HD4.out))
          clear hS0 hS1 hS2 hS3 hS4 hX0 hX1 hX2 hX3 hX4
          go_wp2
          go_ret
          exact ⟨rfl, HEnd.out⟩
end Go.Proofs.YtanajblldlgalaaDoor
