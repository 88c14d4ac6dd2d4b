/- The statement LeaseFinds' walk. Conditions: the list came in; the numbers fit their kinds; the library's table lies as its text lays it. -/
import Derived.Test.YtanajblldlgalaaDoorLkD
namespace Go.Proofs.YtanajblldlgalaaDoor
open Go Go.RowKit
set_option linter.unusedVariables false
set_option linter.unusedSimpArgs false

/-- Two boxes and what is asked, in one. -/
def Sx (p1 p2 g : Nat) (a : Option Addr) (n c : Nat) (vip dip first now y0 y1 y2 y3 : Int) (wx : World) : Prop := (wx.cell? ⟨p1, 0, none⟩ = some (.int .u32 y0) ∧ wx.cell? ⟨p1, 1, none⟩ = some (.int .i64 y1) ∧ wx.cell? ⟨p1, 2, none⟩ = some (.int .u32 y2) ∧ wx.cell? ⟨p1, 3, none⟩ = some (.int .i64 y3)) ∧ (wx.cell? ⟨p2, 0, none⟩ = some (.int .u32 y0) ∧ wx.cell? ⟨p2, 1, none⟩ = some (.int .i64 y1) ∧ wx.cell? ⟨p2, 2, none⟩ = some (.int .u32 y2) ∧ wx.cell? ⟨p2, 3, none⟩ = some (.int .i64 y3)) ∧ wx.cell? ⟨g, 0, none⟩ = some (.slice a n c) ∧ wx.cell? ⟨g, 1, none⟩ = some (.int .u32 vip) ∧ wx.cell? ⟨g, 2, none⟩ = some (.int .u32 dip) ∧ wx.cell? ⟨g, 3, none⟩ = some (.int .i64 first) ∧ wx.cell? ⟨g, 4, none⟩ = some (.int .i64 now)
theorem Sx.of {p1 p2 g : Nat} {a : Option Addr} {n c : Nat} {vip dip first now y0 y1 y2 y3 : Int} {w : World} (h1 : BxL w p1 ⟨y0, y1, y2, y3⟩) (h2 : BxL w p2 ⟨y0, y1, y2, y3⟩) (h3 : AskC w g a n c vip dip first now) : Sx p1 p2 g a n c vip dip first now y0 y1 y2 y3 w := ⟨h1.at, h2.at, h3.row, h3.vp, h3.dp, h3.fs, h3.nw⟩
theorem Sx.later {p1 p2 g : Nat} {a : Option Addr} {n c : Nat} {vip dip first now y0 y1 y2 y3 : Int} {w W : World} (h : Sx p1 p2 g a n c vip dip first now y0 y1 y2 y3 w) (hb : Below w.heap.size w W) : Sx p1 p2 g a n c vip dip first now y0 y1 y2 y3 W := by
  have hk : ∀ {p : Addr} {u : Value}, w.cell? p = some u → W.cell? p = some u := fun {p u} hc => (hb.cell (p := p) (block_lt_of_cell hc)).trans hc
  obtain ⟨⟨a0, a1, a2, a3⟩, ⟨b0, b1, b2, b3⟩, c0, c1, c2, c3, c4⟩ := h
  exact ⟨⟨hk a0, hk a1, hk a2, hk a3⟩, ⟨hk b0, hk b1, hk b2, hk b3⟩, hk c0, hk c1, hk c2, hk c3, hk c4⟩
theorem same_pk {l : List Ls} {n : Nat} (hlen : l.length = n) (hn : n ≤ 1048576) (ht : ∀ x ∈ l, TyL x) (p : Ls → Bool) {W : World} {v u : Value} {B B' : Nat} (h1 : PkL B W v (l.filter p)) (h2 : PkL B' W u (l.filter p)) :
    Calls Tryd.prog 13 #[v, u] W fun e w' => e = .returned (.bool true) ∧ Below W.heap.size W w' := by
  have hty : ∀ x ∈ l.filter p, TyL x := fun x hx => ht x (List.mem_filter.1 hx).1
  have hl : (l.filter p).length ≤ 1048576 := Nat.le_trans (List.length_filter_le _ _) (by omega)
  obtain ⟨a1, c1, rfl, hI1⟩ := h1.inL hty
  obtain ⟨a2, c2, rfl, hI2⟩ := h2.inL hty
  have h := refSame_c (l.filter p) (l.filter p) a1 a2 _ _ c1 c2 W hI1 hI2 hl hl
  rwa [decide_eq_true rfl] at h
set_option maxRecDepth 100000 in
set_option maxHeartbeats 8000000 in
theorem leaseFinds_t (l : List Ls) (vip dip first now : Int) (a : Option Addr) (n c : Nat) (w : World) (hI : InL w a n c l) (hv : 0 ≤ vip ∧ vip < 4294967296) (hd : 0 ≤ dip ∧ dip < 4294967296) (hf : i64b first) (hn : n ≤ 4611686018427387904) (hg : Good w) :
    Calls Tryd.prog 4 #[.agg #[.slice a n c, .int .u32 vip, .int .u32 dip, .int .i64 first, .int .i64 now]] w fun e w' => e = .returned (.bool true) ∧ Below w.heap.size w w' := by
  obtain ⟨W, g, hW, hg1, hA, hb⟩ := askC_new w a n c vip dip first now
  have hlen := hI.len
  have CA := Lib.hid (alive_c W (hg.later hb))
  have HI := Lib.hid (hI.below hb)
  have HA := Lib.hid hA
  have HB := Lib.hid hb
  have HG := Lib.hid (hg.later hb)
  have HW := Lib.hid (And.intro hW hg1)
  have HV := Lib.hid (And.intro hv hd)
  have HT := Lib.hid hI.typ
  clear hW hg1 hA hb hI hg hv hd
  by_cases hl : 2000 < n
  · have il : (2000 : Int) < (n : Int) := by omega
    go_enter Tryd.func4, Tryd.ntmps4
    go_upto_region 1 with fail
    rw [show w.alloc (.cells #[.slice a n c, .int .u32 vip, .int .u32 dip, .int .i64 first, .int .i64 now] 26) = W from HW.out.1.symm, ← HW.out.2]
    go_wp2_with fail
    refine CA.out.mono ?_
    rintro e w0 ⟨rfl, hb0⟩
    have HA0 := Lib.hid (HA.out.later hb0)
    have HI0 := Lib.hid (HI.out.below hb0)
    have HG0 := Lib.hid (HG.out.later hb0)
    have HB0 := Lib.hid (bl_tr HB.out hb0)
    obtain ⟨k0, k1, k2, k3, k4⟩ := HA0.out
    clear hb0 CA
    go_wp2
    go_ret
    exact ⟨rfl, HB0.out⟩
  · have il : ¬ (2000 : Int) < (n : Int) := by omega
    have hn2 : n ≤ 1048576 := by omega
    have CM := Lib.hid (fun (W1 : World) (hI : InL W1 a n c l) => mineL_c l a n c W1 hI hn2)
    have CF := Lib.hid (fun (W1 : World) {ao : Option Addr} {cc : Nat} (hI : InL W1 ao n cc l) => find_c l vip first now ao n cc W1 hI hn2 hf)
    have CR := Lib.hid (fun (W1 : World) (hI : InL W1 a n c l) => refFind_c l vip first now a n c W1 hI hn2 hf)
    obtain ⟨o, ho⟩ : ∃ o, o = findL vip first now l := ⟨_, rfl⟩
    rw [← ho] at CF CR
    obtain ⟨y, hy⟩ : ∃ y, y = o.getD ls0 := ⟨_, rfl⟩
    obtain ⟨b, hbo⟩ : ∃ b, b = o.isSome := ⟨_, rfl⟩
    have hR : fndR o = Value.tuple #[.agg #[.int .u32 y.vip, .int .i64 y.first, .int .u32 y.dip, .int .i64 y.exp], .bool b] := by rw [hy, hbo]; rfl
    rw [hR] at CF CR
    have CO := Lib.hid (fun (W1 : World) {ao : Option Addr} {cc : Nat} (hI : InL W1 ao n cc l) => of_c l dip now ao n cc W1 hI hn2)
    have CRO := Lib.hid (fun (W1 : World) (hI : InL W1 a n c l) => refOf_c l dip now a n c W1 hI hn2)
    have CP := Lib.hid (fun (W1 : World) {ao : Option Addr} {cc : Nat} (hI : InL W1 ao n cc l) => prune_c l now ao n cc W1 hI hn2)
    have CRP := Lib.hid (fun (W1 : World) (hI : InL W1 a n c l) => refPrune_c l now a n c W1 hI hn2)
    have CS := Lib.hid (fun (W1 : World) (p : Ls → Bool) {v u : Value} {B B' : Nat} (h1 : PkL B W1 v (l.filter p)) (h2 : PkL B' W1 u (l.filter p)) => same_pk hlen hn2 HT.out p h1 h2)
    have CK := Lib.hid (fun (W1 : World) (g2 : Nat) (hM : MkL W1 g2 n l) (hI : InL W1 a n c l) => keptL_c l a n c g2 W1 hM hI hn2)
    have hq := lease_eql y y
    rw [eqL_is, decide_eq_true rfl] at hq
    obtain ⟨y0, y1, y2, y3⟩ := y
    have hq0 : ∀ w, (binOp .eql tyL (.agg #[.int .u32 y0, .int .i64 y1, .int .u32 y2, .int .i64 y3]) (.agg #[.int .u32 y0, .int .i64 y1, .int .u32 y2, .int .i64 y3])).run Tryd.prog w = .ok (.bool true) w := hq
    have hbb : (b == b) = true := by simp
    clear hy hbo hR ho hf hq
    go_enter Tryd.func4, Tryd.ntmps4
    go_upto_region 1 with fail
    rw [show w.alloc (.cells #[.slice a n c, .int .u32 vip, .int .u32 dip, .int .i64 first, .int .i64 now] 26) = W from HW.out.1.symm, ← HW.out.2]
    go_wp2_with fail
    refine CA.out.mono ?_
    rintro e w0 ⟨rfl, hb0⟩
    have HA0 := Lib.hid (HA.out.later hb0)
    have HI0 := Lib.hid (HI.out.below hb0)
    have HG0 := Lib.hid (HG.out.later hb0)
    have HB0 := Lib.hid (bl_tr HB.out hb0)
    obtain ⟨k0, k1, k2, k3, k4⟩ := HA0.out
    clear hb0 CA
    go_wp2_with fail
    refine (CM.out w0 HI0.out).mono ?_
    rintro e w1 ⟨g2, rfl, hM, hg2, hb1⟩
    have HM1 := Lib.hid hM
    have HA1 := Lib.hid (HA0.out.later hb1)
    have HI1 := Lib.hid (HI0.out.below hb1)
    have HB1 := Lib.hid (bl_tr HB0.out hb1)
    clear hM hg2 hb1 CM k0 k1 k2 k3 k4
    obtain ⟨k0, k1, k2, k3, k4⟩ := HA1.out
    go_wp2_with fail
    refine (CF.out w1 HM1.out.row).mono ?_
    rintro e w2 ⟨rfl, hb2⟩
    obtain ⟨w3, p1, hw3, hp1, hA3, hb3, _⟩ := boxed w2 ⟨y0, y1, y2, y3⟩
    have HX3 : Hid (BxL w3 p1 ⟨y0, y1, y2, y3⟩) := Lib.hid (by rw [hw3, hp1]; exact bxL_new w2 _)
    have HM3 := Lib.hid (HM1.out.below (bl_tr hb2 hb3))
    have HA3 := Lib.hid (HA1.out.later (bl_tr hb2 hb3))
    have HI3 := Lib.hid (HI1.out.below (bl_tr hb2 hb3))
    have HB3 := Lib.hid (bl_tr HB1.out (bl_tr hb2 hb3))
    have HW3 := Lib.hid (And.intro hw3 hp1)
    clear hw3 hp1 hA3 hb3 hb2 CF k0 k1 k2 k3 k4
    go_upto_region 7 with fail
    rw [show w2.alloc (.cells #[.int .u32 y0, .int .i64 y1, .int .u32 y2, .int .i64 y3] tyL) = w3 from HW3.out.1.symm, ← HW3.out.2]
    obtain ⟨k0, k1, k2, k3, k4⟩ := HA3.out
    go_wp2_with fail
    refine (CR.out w3 HI3.out).mono ?_
    rintro e w4 ⟨rfl, hb4⟩
    obtain ⟨w5, p2, hw5, hp2, hA5, hb5, _⟩ := boxed w4 ⟨y0, y1, y2, y3⟩
    have HX5 : Hid (BxL w5 p2 ⟨y0, y1, y2, y3⟩) := Lib.hid (by rw [hw5, hp2]; exact bxL_new w4 _)
    have HX35 := Lib.hid (HX3.out.later (bl_tr hb4 hb5))
    have HM5 := Lib.hid (HM3.out.below (bl_tr hb4 hb5))
    have HA5 := Lib.hid (HA3.out.later (bl_tr hb4 hb5))
    have HI5 := Lib.hid (HI3.out.below (bl_tr hb4 hb5))
    have HB5 := Lib.hid (bl_tr HB3.out (bl_tr hb4 hb5))
    have HW5 := Lib.hid (And.intro hw5 hp2)
    clear hw5 hp2 hA5 hb5 hb4 CR k0 k1 k2 k3 k4
    go_upto_region 8 with fail
    rw [show w4.alloc (.cells #[.int .u32 y0, .int .i64 y1, .int .u32 y2, .int .i64 y3] tyL) = w5 from HW5.out.1.symm, ← HW5.out.2]
    have hX0 : Sx p1 p2 g a n c vip dip first now y0 y1 y2 y3 w5.drew := Sx.of (w := w5.drew) HX35.out HX5.out ⟨HA5.out.row, HA5.out.vp, HA5.out.dp, HA5.out.fs, HA5.out.nw⟩
    have HD : Hid (Below w5.heap.size w5 w5.drew) := Lib.hid (Below.refl _ _).drew
    have hS0 : (w5.drew.cell? ⟨p1, 0, none⟩ = some (.int .u32 y0) ∧ w5.drew.cell? ⟨p1, 1, none⟩ = some (.int .i64 y1) ∧ w5.drew.cell? ⟨p1, 2, none⟩ = some (.int .u32 y2) ∧ w5.drew.cell? ⟨p1, 3, none⟩ = some (.int .i64 y3)) ∧ (w5.drew.cell? ⟨p2, 0, none⟩ = some (.int .u32 y0) ∧ w5.drew.cell? ⟨p2, 1, none⟩ = some (.int .i64 y1) ∧ w5.drew.cell? ⟨p2, 2, none⟩ = some (.int .u32 y2) ∧ w5.drew.cell? ⟨p2, 3, none⟩ = some (.int .i64 y3)) ∧ w5.drew.cell? ⟨g, 0, none⟩ = some (.slice a n c) ∧ w5.drew.cell? ⟨g, 1, none⟩ = some (.int .u32 vip) ∧ w5.drew.cell? ⟨g, 2, none⟩ = some (.int .u32 dip) ∧ w5.drew.cell? ⟨g, 3, none⟩ = some (.int .i64 first) ∧ w5.drew.cell? ⟨g, 4, none⟩ = some (.int .i64 now) := hX0
    go_region_held3 (fun wx => (wx.cell? ⟨p1, 0, none⟩ = some (.int .u32 y0) ∧ wx.cell? ⟨p1, 1, none⟩ = some (.int .i64 y1) ∧ wx.cell? ⟨p1, 2, none⟩ = some (.int .u32 y2) ∧ wx.cell? ⟨p1, 3, none⟩ = some (.int .i64 y3)) ∧ (wx.cell? ⟨p2, 0, none⟩ = some (.int .u32 y0) ∧ wx.cell? ⟨p2, 1, none⟩ = some (.int .i64 y1) ∧ wx.cell? ⟨p2, 2, none⟩ = some (.int .u32 y2) ∧ wx.cell? ⟨p2, 3, none⟩ = some (.int .i64 y3)) ∧ wx.cell? ⟨g, 0, none⟩ = some (.slice a n c) ∧ wx.cell? ⟨g, 1, none⟩ = some (.int .u32 vip) ∧ wx.cell? ⟨g, 2, none⟩ = some (.int .u32 dip) ∧ wx.cell? ⟨g, 3, none⟩ = some (.int .i64 first) ∧ wx.cell? ⟨g, 4, none⟩ = some (.int .i64 now)) (first | (with_reducible exact hS0) | (with_reducible exact hS1) | (with_reducible exact hS2) | (with_reducible exact hS3) | (with_reducible exact hS4) | (with_reducible exact hS5) | (with_reducible exact hS6) | (with_reducible exact hS7) | (with_reducible assumption) | fail)
      (first | (go_at_call 22; (with_reducible refine (CO.out _ (HM5.out.below HD.out).row).mono ?_); rintro e w6 ⟨⟨v1, rfl, hK1⟩, hb⟩; obtain ⟨oa1, oc1, rfl⟩ := own_form hK1; have HE6 := Lib.hid (bl_tr HD.out hb); have hX1 := Sx.later hX0 hb; have hS1 : (w6.cell? ⟨p1, 0, none⟩ = some (.int .u32 y0) ∧ w6.cell? ⟨p1, 1, none⟩ = some (.int .i64 y1) ∧ w6.cell? ⟨p1, 2, none⟩ = some (.int .u32 y2) ∧ w6.cell? ⟨p1, 3, none⟩ = some (.int .i64 y3)) ∧ (w6.cell? ⟨p2, 0, none⟩ = some (.int .u32 y0) ∧ w6.cell? ⟨p2, 1, none⟩ = some (.int .i64 y1) ∧ w6.cell? ⟨p2, 2, none⟩ = some (.int .u32 y2) ∧ w6.cell? ⟨p2, 3, none⟩ = some (.int .i64 y3)) ∧ w6.cell? ⟨g, 0, none⟩ = some (.slice a n c) ∧ w6.cell? ⟨g, 1, none⟩ = some (.int .u32 vip) ∧ w6.cell? ⟨g, 2, none⟩ = some (.int .u32 dip) ∧ w6.cell? ⟨g, 3, none⟩ = some (.int .i64 first) ∧ w6.cell? ⟨g, 4, none⟩ = some (.int .i64 now) := hX1; clear hb) | (go_at_call 23; (with_reducible refine (CRO.out _ (HI5.out.below HE6.out)).mono ?_); rintro e w7 ⟨⟨v2, rfl, hK2⟩, hb⟩; obtain ⟨oa2, oc2, rfl⟩ := own_form hK2; have hK17 := PkL.below hK1 hb; have HE7 := Lib.hid (bl_tr HE6.out hb); have hX2 := Sx.later hX1 hb; have hS2 : (w7.cell? ⟨p1, 0, none⟩ = some (.int .u32 y0) ∧ w7.cell? ⟨p1, 1, none⟩ = some (.int .i64 y1) ∧ w7.cell? ⟨p1, 2, none⟩ = some (.int .u32 y2) ∧ w7.cell? ⟨p1, 3, none⟩ = some (.int .i64 y3)) ∧ (w7.cell? ⟨p2, 0, none⟩ = some (.int .u32 y0) ∧ w7.cell? ⟨p2, 1, none⟩ = some (.int .i64 y1) ∧ w7.cell? ⟨p2, 2, none⟩ = some (.int .u32 y2) ∧ w7.cell? ⟨p2, 3, none⟩ = some (.int .i64 y3)) ∧ w7.cell? ⟨g, 0, none⟩ = some (.slice a n c) ∧ w7.cell? ⟨g, 1, none⟩ = some (.int .u32 vip) ∧ w7.cell? ⟨g, 2, none⟩ = some (.int .u32 dip) ∧ w7.cell? ⟨g, 3, none⟩ = some (.int .i64 first) ∧ w7.cell? ⟨g, 4, none⟩ = some (.int .i64 now) := hX2; clear hb) | (go_at_call 13; (with_reducible refine (CS.out _ (isO dip now) hK17 hK2).mono ?_); rintro e w8 ⟨rfl, hb⟩; have HE8 := Lib.hid (bl_tr HE7.out hb); have hX3 := Sx.later hX2 hb; have hS3 : (w8.cell? ⟨p1, 0, none⟩ = some (.int .u32 y0) ∧ w8.cell? ⟨p1, 1, none⟩ = some (.int .i64 y1) ∧ w8.cell? ⟨p1, 2, none⟩ = some (.int .u32 y2) ∧ w8.cell? ⟨p1, 3, none⟩ = some (.int .i64 y3)) ∧ (w8.cell? ⟨p2, 0, none⟩ = some (.int .u32 y0) ∧ w8.cell? ⟨p2, 1, none⟩ = some (.int .i64 y1) ∧ w8.cell? ⟨p2, 2, none⟩ = some (.int .u32 y2) ∧ w8.cell? ⟨p2, 3, none⟩ = some (.int .i64 y3)) ∧ w8.cell? ⟨g, 0, none⟩ = some (.slice a n c) ∧ w8.cell? ⟨g, 1, none⟩ = some (.int .u32 vip) ∧ w8.cell? ⟨g, 2, none⟩ = some (.int .u32 dip) ∧ w8.cell? ⟨g, 3, none⟩ = some (.int .i64 first) ∧ w8.cell? ⟨g, 4, none⟩ = some (.int .i64 now) := hX3; clear hb hK17) | (go_at_call 24; (with_reducible refine (CP.out _ (HM5.out.below HE8.out).row).mono ?_); rintro e w9 ⟨⟨v3, rfl, hK3⟩, hb⟩; obtain ⟨oa3, oc3, rfl⟩ := own_form hK3; have HE9 := Lib.hid (bl_tr HE8.out hb); have hX4 := Sx.later hX3 hb; have hS4 : (w9.cell? ⟨p1, 0, none⟩ = some (.int .u32 y0) ∧ w9.cell? ⟨p1, 1, none⟩ = some (.int .i64 y1) ∧ w9.cell? ⟨p1, 2, none⟩ = some (.int .u32 y2) ∧ w9.cell? ⟨p1, 3, none⟩ = some (.int .i64 y3)) ∧ (w9.cell? ⟨p2, 0, none⟩ = some (.int .u32 y0) ∧ w9.cell? ⟨p2, 1, none⟩ = some (.int .i64 y1) ∧ w9.cell? ⟨p2, 2, none⟩ = some (.int .u32 y2) ∧ w9.cell? ⟨p2, 3, none⟩ = some (.int .i64 y3)) ∧ w9.cell? ⟨g, 0, none⟩ = some (.slice a n c) ∧ w9.cell? ⟨g, 1, none⟩ = some (.int .u32 vip) ∧ w9.cell? ⟨g, 2, none⟩ = some (.int .u32 dip) ∧ w9.cell? ⟨g, 3, none⟩ = some (.int .i64 first) ∧ w9.cell? ⟨g, 4, none⟩ = some (.int .i64 now) := hX4; clear hb) | (go_at_call 25; (with_reducible refine (CRP.out _ (HI5.out.below HE9.out)).mono ?_); rintro e wa ⟨⟨v4, rfl, hK4⟩, hb⟩; obtain ⟨oa4, oc4, rfl⟩ := own_form hK4; have hK39 := PkL.below hK3 hb; have HEa := Lib.hid (bl_tr HE9.out hb); have hX5 := Sx.later hX4 hb; have hS5 : (wa.cell? ⟨p1, 0, none⟩ = some (.int .u32 y0) ∧ wa.cell? ⟨p1, 1, none⟩ = some (.int .i64 y1) ∧ wa.cell? ⟨p1, 2, none⟩ = some (.int .u32 y2) ∧ wa.cell? ⟨p1, 3, none⟩ = some (.int .i64 y3)) ∧ (wa.cell? ⟨p2, 0, none⟩ = some (.int .u32 y0) ∧ wa.cell? ⟨p2, 1, none⟩ = some (.int .i64 y1) ∧ wa.cell? ⟨p2, 2, none⟩ = some (.int .u32 y2) ∧ wa.cell? ⟨p2, 3, none⟩ = some (.int .i64 y3)) ∧ wa.cell? ⟨g, 0, none⟩ = some (.slice a n c) ∧ wa.cell? ⟨g, 1, none⟩ = some (.int .u32 vip) ∧ wa.cell? ⟨g, 2, none⟩ = some (.int .u32 dip) ∧ wa.cell? ⟨g, 3, none⟩ = some (.int .i64 first) ∧ wa.cell? ⟨g, 4, none⟩ = some (.int .i64 now) := hX5; clear hb) | (go_at_call 13; (with_reducible refine (CS.out _ (livL now) hK39 hK4).mono ?_); rintro e wb ⟨rfl, hb⟩; have HEb := Lib.hid (bl_tr HEa.out hb); have hX6 := Sx.later hX5 hb; have hS6 : (wb.cell? ⟨p1, 0, none⟩ = some (.int .u32 y0) ∧ wb.cell? ⟨p1, 1, none⟩ = some (.int .i64 y1) ∧ wb.cell? ⟨p1, 2, none⟩ = some (.int .u32 y2) ∧ wb.cell? ⟨p1, 3, none⟩ = some (.int .i64 y3)) ∧ (wb.cell? ⟨p2, 0, none⟩ = some (.int .u32 y0) ∧ wb.cell? ⟨p2, 1, none⟩ = some (.int .i64 y1) ∧ wb.cell? ⟨p2, 2, none⟩ = some (.int .u32 y2) ∧ wb.cell? ⟨p2, 3, none⟩ = some (.int .i64 y3)) ∧ wb.cell? ⟨g, 0, none⟩ = some (.slice a n c) ∧ wb.cell? ⟨g, 1, none⟩ = some (.int .u32 vip) ∧ wb.cell? ⟨g, 2, none⟩ = some (.int .u32 dip) ∧ wb.cell? ⟨g, 3, none⟩ = some (.int .i64 first) ∧ wb.cell? ⟨g, 4, none⟩ = some (.int .i64 now) := hX6; clear hb) | (go_at_call 15; (with_reducible refine (CK.out _ _ (HM5.out.below HEb.out) (HI5.out.below HEb.out)).mono ?_); rintro e wc ⟨rfl, hb⟩; have HEc := Lib.hid (bl_tr HEb.out hb); have hX7 := Sx.later hX6 hb; have hS7 : (wc.cell? ⟨p1, 0, none⟩ = some (.int .u32 y0) ∧ wc.cell? ⟨p1, 1, none⟩ = some (.int .i64 y1) ∧ wc.cell? ⟨p1, 2, none⟩ = some (.int .u32 y2) ∧ wc.cell? ⟨p1, 3, none⟩ = some (.int .i64 y3)) ∧ (wc.cell? ⟨p2, 0, none⟩ = some (.int .u32 y0) ∧ wc.cell? ⟨p2, 1, none⟩ = some (.int .i64 y1) ∧ wc.cell? ⟨p2, 2, none⟩ = some (.int .u32 y2) ∧ wc.cell? ⟨p2, 3, none⟩ = some (.int .i64 y3)) ∧ wc.cell? ⟨g, 0, none⟩ = some (.slice a n c) ∧ wc.cell? ⟨g, 1, none⟩ = some (.int .u32 vip) ∧ wc.cell? ⟨g, 2, none⟩ = some (.int .u32 dip) ∧ wc.cell? ⟨g, 3, none⟩ = some (.int .i64 first) ∧ wc.cell? ⟨g, 4, none⟩ = some (.int .i64 now) := hX7; clear hb) | fail)
    all_goals
      have HEnd := Lib.hid (bl_tr HB5.out HEc.out)
      clear hS0 hS1 hS2 hS3 hS4 hS5 hS6 hS7 hX0 hX1 hX2 hX3 hX4 hX5 hX6 hX7 hK1 hK2 hK3 hK4
      go_wp2
      go_ret
      exact ⟨rfl, HEnd.out⟩
end Go.Proofs.YtanajblldlgalaaDoor
