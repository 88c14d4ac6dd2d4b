/- The document's none and Good of a command. Conditions: those stated. The document's GoodLog. Conditions: those stated. The document's Write. Conditions: the row came in. -/
import Derived.Test.YtnhnpfhfcbmmlaaVaC
import Derived.Test.YtnhnpfhfcbmmlaaRgE
import Derived.Test.YtnhnpfhfcbmmlaaVbK
import Derived.BigQuiet
import Derived.Test.YtnhnpfhfcbmmlaaVhB
namespace Go.Proofs.Ytnhnpfhfcbmmlaa
open Go Go.RowKit
set_option linter.unusedVariables false
set_option linter.unusedSimpArgs false

abbrev svA (vip proto port : Int) (v : Value) : Array Value := #[.int .u32 vip, .int .i64 proto, .int .i64 port, v]
/-- A service in a box. -/
structure SvAt (w : World) (q : Nat) (vip proto port : Int) (v : Value) : Prop where
  c0 : w.cell? ⟨q, 0, none⟩ = some (.int .u32 vip)
  c1 : w.cell? ⟨q, 1, none⟩ = some (.int .i64 proto)
  c2 : w.cell? ⟨q, 2, none⟩ = some (.int .i64 port)
  c3 : w.cell? ⟨q, 3, none⟩ = some v
theorem svAt_new (w : World) (vip proto port : Int) (v : Value) : SvAt (w.alloc (.cells (svA vip proto port v) tySv)) w.heap.size vip proto port v :=
  ⟨by rw [cell_of_row _ _ 0 _ _ _ (heap_alloc_new w _)]; rfl, by rw [cell_of_row _ _ 1 _ _ _ (heap_alloc_new w _)]; rfl, by rw [cell_of_row _ _ 2 _ _ _ (heap_alloc_new w _)]; rfl, by rw [cell_of_row _ _ 3 _ _ _ (heap_alloc_new w _)]; rfl⟩
theorem SvAt.later {w w' : World} {q : Nat} {vip proto port : Int} {v : Value} (h : SvAt w q vip proto port v) (hb : Below w.heap.size w w') : SvAt w' q vip proto port v :=
  ⟨cell_later hb h.c0, cell_later hb h.c1, cell_later hb h.c2, cell_later hb h.c3⟩
set_option maxRecDepth 100000 in
set_option maxHeartbeats 4000000 in
theorem noneR_c (vip proto port : Int) (a : Option Addr) (n c : Nat) (w : World) :
    Calls Try.prog 68 #[.agg (svA vip proto port (.slice a n c))] w fun e w' => e = .returned (.bool (decide (vip = 0 ∧ proto = 0 ∧ port = 0 ∧ n = 0))) ∧ Below w.heap.size w w' := by
  obtain ⟨z, hz⟩ : ∃ z, z = decide (vip = 0 ∧ proto = 0 ∧ port = 0 ∧ n = 0) := ⟨_, rfl⟩
  rw [← hz]
  have HZ := Lib.hid hz
  obtain ⟨W, hW⟩ : ∃ W, W = w.alloc (.cells (svA vip proto port (.slice a n c)) tySv) := ⟨_, rfl⟩
  have hA := svAt_new w vip proto port (.slice a n c)
  rw [← hW] at hA
  have HBW : Hid (Below w.heap.size w W) := Lib.hid (by rw [hW]; exact bl_al (Below.refl _ _) _)
  obtain ⟨q, hq⟩ : ∃ q, q = w.heap.size := ⟨_, rfl⟩
  rw [← hq] at hA
  have HW := Lib.hid (And.intro hW hq)
  obtain ⟨k0, k1, k2, k3⟩ := hA
  clear hW hq hz
  go_enter Try.func68, Try.ntmps68
  go_upto_region 1 with fail
  rw [show w.alloc (.cells #[.int .u32 vip, .int .i64 proto, .int .i64 port, .slice a n c] tySv) = W from HW.out.1.symm, ← HW.out.2]
  by_cases h0 : vip = 0
  · by_cases h1 : proto = 0
    · by_cases h2 : port = 0
      · by_cases h3 : n = 0
        · have N : Hid (z = true) := Lib.hid (by rw [HZ.out]; exact decide_eq_true ⟨h0, h1, h2, h3⟩)
          rw [h0] at k0
          rw [h1] at k1
          rw [h2] at k2
          rw [h3] at k3
          clear h0 h1 h2 h3
          go_wp2
          go_ret
          exact ⟨by rw [N.out]; rfl, HBW.out⟩
        · have N : Hid (z = false) := Lib.hid (by rw [HZ.out]; exact decide_eq_false (fun h => h3 h.2.2.2))
          have g : ((n : Int) == 0) = false := by simp [h3]
          rw [h0] at k0
          rw [h1] at k1
          rw [h2] at k2
          clear h0 h1 h2
          go_wp2
          go_ret
          exact ⟨by rw [N.out, ← g]; rfl, HBW.out⟩
      · have N : Hid (z = false) := Lib.hid (by rw [HZ.out]; exact decide_eq_false (fun h => h2 h.2.2.1))
        have g : (port == 0) = false := by simp [h2]
        rw [h0] at k0
        rw [h1] at k1
        clear h0 h1 h2
        go_wp2
        go_ret
        exact ⟨by rw [N.out]; rfl, HBW.out⟩
    · have N : Hid (z = false) := Lib.hid (by rw [HZ.out]; exact decide_eq_false (fun h => h1 h.2.1))
      have g : (proto == 0) = false := by simp [h1]
      rw [h0] at k0
      clear h0 h1
      go_wp2
      go_ret
      exact ⟨by rw [N.out]; rfl, HBW.out⟩
  · have N : Hid (z = false) := Lib.hid (by rw [HZ.out]; exact decide_eq_false (fun h => h0 h.1))
    have g : (vip == 0) = false := by simp [h0]
    clear h0
    go_wp2
    go_ret
    exact ⟨by rw [N.out]; rfl, HBW.out⟩
set_option maxRecDepth 100000 in
set_option maxHeartbeats 16000000 in
theorem goodR_c (x : Cm) (a : Option Addr) (n c : Nat) (w : World) (hI : InE w a n c x.es) (hT : TyC x) (hn : n ≤ 4611686018427387904) :
    Calls Try.prog 23 #[x.val (.slice a n c)] w fun e w' => e = .returned (.bool (decide (GoodC x))) ∧ Below w.heap.size w w' := by
  obtain ⟨z, hz⟩ : ∃ z, z = decide (GoodC x) := ⟨_, rfl⟩
  rw [← hz]
  have HZ := Lib.hid hz
  have FN : Hid (¬ GoodC x → Ending.returned (.bool false) = Ending.returned (.bool z)) := Lib.hid (fun h => by rw [HZ.out, decide_eq_false h])
  have FY : Hid (GoodC x → Ending.returned (.bool true) = Ending.returned (.bool z)) := Lib.hid (fun h => by rw [HZ.out, decide_eq_true h])
  obtain ⟨W, hW⟩ : ∃ W, W = w.alloc (x.obj (.slice a n c)) := ⟨_, rfl⟩
  have hA := cAt_new w x (.slice a n c)
  rw [← hW] at hA
  have HBW : Hid (Below w.heap.size w W) := Lib.hid (by rw [hW]; exact bl_al (Below.refl _ _) _)
  obtain ⟨q, hq⟩ : ∃ q, q = w.heap.size := ⟨_, rfl⟩
  rw [← hq] at hA
  have HW := Lib.hid (And.intro hW hq)
  have HA := Lib.hid hA
  have HI := Lib.hid hI
  have HT := Lib.hid hT
  have HLN := Lib.hid hI.len
  have CM := Lib.hid (fun W => mgrR_c x.node W)
  have CT := Lib.hid (fun m W => timeR_c m W)
  have CV := Lib.hid (vipR_c x.vip hT.vip)
  have CV2 := Lib.hid (vipR_c x.cvip hT.cvip)
  have CD := Lib.hid (fun W => machR_c x.dip W)
  have CNo := Lib.hid (fun W => noneR_c x.vip x.proto x.port a n c W)
  have HNS : Hid ((x.vip = 0 ∧ x.proto = 0 ∧ x.port = 0 ∧ n = 0) ↔ NoneS x) := Lib.hid (by
    have hl := hI.len
    unfold NoneS
    constructor
    · rintro ⟨h1, h2, h3, h4⟩; exact ⟨h1, h2, h3, List.eq_nil_of_length_eq_zero (by omega)⟩
    · rintro ⟨h1, h2, h3, h4⟩; exact ⟨h1, h2, h3, by rw [h4] at hl; exact hl.symm⟩)
  obtain ⟨k0, k1, k2, k3, k4, k5, k6, k7, k8, k9, k10, k11⟩ := hA.lit
  clear hA hW hq hz hI hT
  go_enter Try.func23, Try.ntmps23
  go_upto_region 1 with fail
  rw [show w.alloc (.cells #[.int .i64 x.node, .int .i64 x.boot, .int .i64 x.seq, .int .i64 x.time, .int .i64 x.kind, .int .u32 x.vip, .int .i64 x.proto, .int .i64 x.port, .slice a n c, .int .u32 x.dip, .int .u32 x.cvip, .bool x.up] tyC) = W from HW.out.1.symm, ← HW.out.2]
  go_wp2_with fail
  refine (CM.out _).mono ?_
  rintro e w1 ⟨rfl, rfl⟩
  by_cases hm : IsMgr x.node
  · rw [decide_eq_true hm]
    have HM := Lib.hid hm
    clear hm
    go_wp2_with fail
    refine (CT.out _ _).mono ?_
    rintro e w2 ⟨rfl, rfl⟩
    by_cases ht1 : IsTm x.boot
    · rw [decide_eq_true ht1]
      have HT1 := Lib.hid ht1
      clear ht1
      go_wp2_with fail
      refine (CT.out _ _).mono ?_
      rintro e w3 ⟨rfl, rfl⟩
      by_cases ht2 : IsTm x.seq
      · rw [decide_eq_true ht2]
        have HT2 := Lib.hid ht2
        clear ht2
        go_wp2_with fail
        refine (CT.out _ _).mono ?_
        rintro e w4 ⟨rfl, rfl⟩
        by_cases ht3 : IsTm x.time
        · rw [decide_eq_true ht3]
          have HGC : Hid (GoodC x ↔ Says x) := Lib.hid ⟨fun h => h.2.2.2.2, fun h => ⟨HM.out, HT1.out, HT2.out, ht3, h⟩⟩
          clear ht3 HM HT1 HT2 CM CT
          obtain ⟨Y, hY⟩ : ∃ Y, Y = W.alloc (.cells (svA x.vip x.proto x.port (.slice a n c)) tySv) := ⟨_, rfl⟩
          have hS := svAt_new W x.vip x.proto x.port (.slice a n c)
          rw [← hY] at hS
          obtain ⟨qs, hqs⟩ : ∃ qs, qs = W.heap.size := ⟨_, rfl⟩
          rw [← hqs] at hS
          have hbY : Below W.heap.size W Y := by rw [hY]; exact bl_al (Below.refl _ _) _
          have HBY := Lib.hid (bl_tr HBW.out hbY)
          have HAY := Lib.hid (HA.out.below hbY)
          have HY := Lib.hid (And.intro hY hqs)
          have HS := Lib.hid hS
          clear hY hqs hbY hS
          go_upto_region 4 with fail
          rw [show W.alloc (.cells #[.int .u32 x.vip, .int .i64 x.proto, .int .i64 x.port, .slice a n c] tySv) = Y from HY.out.1.symm, ← HY.out.2]
          clear k0 k1 k2 k3 k4 k5 k6 k7 k8 k9 k10 k11
          obtain ⟨k0, k1, k2, k3, k4, k5, k6, k7, k8, k9, k10, k11⟩ := HAY.out.lit
          obtain ⟨m0, m1, m2, m3⟩ := HS.out
          have HX : Hid (x.kind = 1 ∨ x.kind = 2 ∨ x.kind = 3 ∨ x.kind = 4 ∨ (x.kind ≠ 1 ∧ x.kind ≠ 2 ∧ x.kind ≠ 3 ∧ x.kind ≠ 4)) := Lib.hid (by omega)
          obtain ⟨kn, hkn⟩ : ∃ kn, kn = x.kind := ⟨_, rfl⟩
          rw [← hkn] at k4
          rcases HX.out with hk | hk | hk | hk | ⟨hk1, hk2, hk3, hk4⟩
          · have HK := Lib.hid hk
            obtain rfl : kn = 1 := by omega
            clear hk hkn
            go_wp2_with fail
            refine (CV.out _).mono ?_
            rintro e w5 ⟨rfl, rfl⟩
            by_cases hv : IsVp x.vip
            · rw [decide_eq_true hv]
              by_cases hpr : x.proto = 6 ∨ x.proto = 17
              · by_cases hp1 : 1 ≤ x.port
                · by_cases hp2 : x.port ≤ 1023
                  · obtain ⟨oe, hoe⟩ : ∃ oe, oe = decide (OkE x.es) := ⟨_, rfl⟩
                    have CE := Lib.hid (refEnds_t x.es a n c Y (HI.out.below HBY.out) hn oe (by rw [hoe]; exact decide_eq_true_iff))
                    have HOE : Hid (oe = true ↔ OkE x.es) := Lib.hid (by rw [hoe]; exact decide_eq_true_iff)
                    have HSV := Lib.hid (And.intro hv hpr)
                    have HPT := Lib.hid (And.intro hp1 hp2)
                    clear hv hoe
                    rcases hpr with hpr | hpr
                    · rw [hpr] at m1
                      clear hpr
                      go_wp2_with fail
                      refine CE.out.mono ?_
                      rintro e w6 ⟨rfl, hb6⟩
                      have HB6 := Lib.hid (bl_tr HBY.out hb6)
                      have HA6 := Lib.hid (HAY.out.below hb6)
                      clear hb6 CE k0 k1 k2 k3 k4 k5 k6 k7 k8 k9 k10 k11 m0 m1 m2 m3
                      obtain ⟨k0, k1, k2, k3, k4, k5, k6, k7, k8, k9, k10, k11⟩ := HA6.out.lit
                      cases oe with
                      | false =>
                        have N : Hid (¬ GoodC x) := Lib.hid (fun h => by have hs := HGC.out.1 h; have hk := HK.out; rcases hs with h | h | h | h <;> first | (exact Bool.noConfusion (HOE.out.2 h.2.1.2.2.2)) | (exfalso; omega))
                        go_wp2
                        go_ret
                        exact ⟨FN.out N.out, HB6.out⟩
                      | true =>
                        by_cases hd : x.dip = 0
                        · by_cases hv2 : x.cvip = 0
                          · cases hu : x.up with
                            | true =>
                              have N : Hid (¬ GoodC x) := Lib.hid (fun h => by have hs := HGC.out.1 h; have hk := HK.out; rcases hs with h | h | h | h <;> first | (exact Bool.noConfusion (hu.symm.trans h.2.2.2.2)) | (exfalso; omega))
                              rw [hd] at k9
                              rw [hv2] at k10
                              rw [hu] at k11
                              clear hd hv2 hu
                              go_wp2
                              go_ret
                              exact ⟨FN.out N.out, HB6.out⟩
                            | false =>
                              have N : Hid (GoodC x) := Lib.hid (HGC.out.2 (.inl ⟨HK.out, ⟨HSV.out.1, HSV.out.2, HPT.out, HOE.out.1 rfl⟩, hd, hv2, hu⟩))
                              rw [hd] at k9
                              rw [hv2] at k10
                              rw [hu] at k11
                              clear hd hv2 hu
                              go_wp2
                              go_ret
                              exact ⟨FY.out N.out, HB6.out⟩
                          · have N : Hid (¬ GoodC x) := Lib.hid (fun h => by have hs := HGC.out.1 h; have hk := HK.out; rcases hs with h | h | h | h <;> first | (exact hv2 h.2.2.2.1) | (exfalso; omega))
                            have g : (x.cvip == 0) = false := by simp [hv2]
                            rw [hd] at k9
                            clear hd hv2
                            go_wp2
                            go_ret
                            exact ⟨FN.out N.out, HB6.out⟩
                        · have N : Hid (¬ GoodC x) := Lib.hid (fun h => by have hs := HGC.out.1 h; have hk := HK.out; rcases hs with h | h | h | h <;> first | (exact hd h.2.2.1) | (exfalso; omega))
                          have g : (x.dip == 0) = false := by simp [hd]
                          clear hd
                          go_wp2
                          go_ret
                          exact ⟨FN.out N.out, HB6.out⟩
                    · rw [hpr] at m1
                      clear hpr
                      go_wp2_with fail
                      refine CE.out.mono ?_
                      rintro e w6 ⟨rfl, hb6⟩
                      have HB6 := Lib.hid (bl_tr HBY.out hb6)
                      have HA6 := Lib.hid (HAY.out.below hb6)
                      clear hb6 CE k0 k1 k2 k3 k4 k5 k6 k7 k8 k9 k10 k11 m0 m1 m2 m3
                      obtain ⟨k0, k1, k2, k3, k4, k5, k6, k7, k8, k9, k10, k11⟩ := HA6.out.lit
                      cases oe with
                      | false =>
                        have N : Hid (¬ GoodC x) := Lib.hid (fun h => by have hs := HGC.out.1 h; have hk := HK.out; rcases hs with h | h | h | h <;> first | (exact Bool.noConfusion (HOE.out.2 h.2.1.2.2.2)) | (exfalso; omega))
                        go_wp2
                        go_ret
                        exact ⟨FN.out N.out, HB6.out⟩
                      | true =>
                        by_cases hd : x.dip = 0
                        · by_cases hv2 : x.cvip = 0
                          · cases hu : x.up with
                            | true =>
                              have N : Hid (¬ GoodC x) := Lib.hid (fun h => by have hs := HGC.out.1 h; have hk := HK.out; rcases hs with h | h | h | h <;> first | (exact Bool.noConfusion (hu.symm.trans h.2.2.2.2)) | (exfalso; omega))
                              rw [hd] at k9
                              rw [hv2] at k10
                              rw [hu] at k11
                              clear hd hv2 hu
                              go_wp2
                              go_ret
                              exact ⟨FN.out N.out, HB6.out⟩
                            | false =>
                              have N : Hid (GoodC x) := Lib.hid (HGC.out.2 (.inl ⟨HK.out, ⟨HSV.out.1, HSV.out.2, HPT.out, HOE.out.1 rfl⟩, hd, hv2, hu⟩))
                              rw [hd] at k9
                              rw [hv2] at k10
                              rw [hu] at k11
                              clear hd hv2 hu
                              go_wp2
                              go_ret
                              exact ⟨FY.out N.out, HB6.out⟩
                          · have N : Hid (¬ GoodC x) := Lib.hid (fun h => by have hs := HGC.out.1 h; have hk := HK.out; rcases hs with h | h | h | h <;> first | (exact hv2 h.2.2.2.1) | (exfalso; omega))
                            have g : (x.cvip == 0) = false := by simp [hv2]
                            rw [hd] at k9
                            clear hd hv2
                            go_wp2
                            go_ret
                            exact ⟨FN.out N.out, HB6.out⟩
                        · have N : Hid (¬ GoodC x) := Lib.hid (fun h => by have hs := HGC.out.1 h; have hk := HK.out; rcases hs with h | h | h | h <;> first | (exact hd h.2.2.1) | (exfalso; omega))
                          have g : (x.dip == 0) = false := by simp [hd]
                          clear hd
                          go_wp2
                          go_ret
                          exact ⟨FN.out N.out, HB6.out⟩
                  · have N : Hid (¬ GoodC x) := Lib.hid (fun h => by have hs := HGC.out.1 h; have hk := HK.out; rcases hs with h | h | h | h <;> first | (exact hp2 h.2.1.2.2.1.2) | (exfalso; omega))
                    clear hv
                    rcases hpr with hpr | hpr
                    · rw [hpr] at m1
                      clear hpr
                      go_wp2
                      go_ret
                      exact ⟨FN.out N.out, HBY.out⟩
                    · rw [hpr] at m1
                      clear hpr
                      go_wp2
                      go_ret
                      exact ⟨FN.out N.out, HBY.out⟩
                · have N : Hid (¬ GoodC x) := Lib.hid (fun h => by have hs := HGC.out.1 h; have hk := HK.out; rcases hs with h | h | h | h <;> first | (exact hp1 h.2.1.2.2.1.1) | (exfalso; omega))
                  clear hv
                  rcases hpr with hpr | hpr
                  · rw [hpr] at m1
                    clear hpr
                    go_wp2
                    go_ret
                    exact ⟨FN.out N.out, HBY.out⟩
                  · rw [hpr] at m1
                    clear hpr
                    go_wp2
                    go_ret
                    exact ⟨FN.out N.out, HBY.out⟩
              · have N : Hid (¬ GoodC x) := Lib.hid (fun h => by have hs := HGC.out.1 h; have hk := HK.out; rcases hs with h | h | h | h <;> first | (exact hpr h.2.1.2.1) | (exfalso; omega))
                have g1 : (x.proto == 6) = false := by simp; omega
                have g2 : (x.proto == 17) = false := by simp; omega
                clear hv hpr
                go_wp2
                go_ret
                exact ⟨FN.out N.out, HBY.out⟩
            · rw [decide_eq_false hv]
              have N : Hid (¬ GoodC x) := Lib.hid (fun h => by have hs := HGC.out.1 h; have hk := HK.out; rcases hs with h | h | h | h <;> first | (exact hv h.2.1.1) | (exfalso; omega))
              clear hv
              go_wp2
              go_ret
              exact ⟨FN.out N.out, HBY.out⟩
          · have HK := Lib.hid hk
            obtain rfl : kn = 2 := by omega
            clear hk hkn
            go_wp2_with fail
            refine (CNo.out _).mono ?_
            rintro e w5 ⟨rfl, hb5⟩
            have HB5 := Lib.hid (bl_tr HBY.out hb5)
            have HA5 := Lib.hid (HAY.out.below hb5)
            clear hb5 CNo k0 k1 k2 k3 k4 k5 k6 k7 k8 k9 k10 k11 m0 m1 m2 m3
            obtain ⟨k0, k1, k2, k3, k4, k5, k6, k7, k8, k9, k10, k11⟩ := HA5.out.lit
            by_cases hns : x.vip = 0 ∧ x.proto = 0 ∧ x.port = 0 ∧ n = 0
            · rw [decide_eq_true hns]
              have HNN := Lib.hid (HNS.out.1 hns)
              clear hns
              go_wp2_with fail
              refine (CD.out _).mono ?_
              rintro e w6 ⟨rfl, rfl⟩
              by_cases hdp : IsDip x.dip
              · rw [decide_eq_true hdp]
                have HDP := Lib.hid hdp
                clear hdp
                cases hu : x.up with
                | true =>
                  rw [hu] at k11
                  go_wp2_with fail
                  refine (CV2.out _).mono ?_
                  rintro e w7 ⟨rfl, rfl⟩
                  by_cases hv2 : IsVp x.cvip
                  · rw [decide_eq_true hv2]
                    have N : Hid (GoodC x) := Lib.hid (HGC.out.2 (.inr (.inl ⟨HK.out, HNN.out, HDP.out, .inl ⟨hu, hv2⟩⟩)))
                    clear hv2 hu
                    go_wp2
                    go_ret
                    exact ⟨FY.out N.out, HB5.out⟩
                  · rw [decide_eq_false hv2]
                    have N : Hid (¬ GoodC x) := Lib.hid (fun h => by have hs := HGC.out.1 h; have hk := HK.out; rcases hs with h | h | h | h <;> first | (exact h.2.2.2.elim (fun h2 => hv2 h2.2) (fun h2 => Bool.noConfusion (hu.symm.trans h2.1))) | (exfalso; omega))
                    clear hv2 hu
                    go_wp2
                    go_ret
                    exact ⟨FN.out N.out, HB5.out⟩
                | false =>
                  rw [hu] at k11
                  by_cases hv2 : x.cvip = 0
                  · have N : Hid (GoodC x) := Lib.hid (HGC.out.2 (.inr (.inl ⟨HK.out, HNN.out, HDP.out, .inr ⟨hu, hv2⟩⟩)))
                    rw [hv2] at k10
                    clear hv2 hu
                    go_wp2
                    go_ret
                    exact ⟨FY.out N.out, HB5.out⟩
                  · have N : Hid (¬ GoodC x) := Lib.hid (fun h => by have hs := HGC.out.1 h; have hk := HK.out; rcases hs with h | h | h | h <;> first | (exact h.2.2.2.elim (fun h2 => Bool.noConfusion (hu.symm.trans h2.1)) (fun h2 => hv2 h2.2)) | (exfalso; omega))
                    have g : (x.cvip == 0) = false := by simp [hv2]
                    clear hv2 hu
                    go_wp2
                    go_ret
                    exact ⟨FN.out N.out, HB5.out⟩
              · rw [decide_eq_false hdp]
                have N : Hid (¬ GoodC x) := Lib.hid (fun h => by have hs := HGC.out.1 h; have hk := HK.out; rcases hs with h | h | h | h <;> first | (exact hdp h.2.2.1) | (exfalso; omega))
                clear hdp
                go_wp2
                go_ret
                exact ⟨FN.out N.out, HB5.out⟩
            · rw [decide_eq_false hns]
              have N : Hid (¬ GoodC x) := Lib.hid (fun h => by have hs := HGC.out.1 h; have hk := HK.out; rcases hs with h | h | h | h <;> first | (exact hns (HNS.out.2 h.2.1)) | (exfalso; omega))
              clear hns
              go_wp2
              go_ret
              exact ⟨FN.out N.out, HB5.out⟩
          · have HK := Lib.hid hk
            obtain rfl : kn = 3 := by omega
            clear hk hkn
            go_wp2_with fail
            refine (CNo.out _).mono ?_
            rintro e w5 ⟨rfl, hb5⟩
            have HB5 := Lib.hid (bl_tr HBY.out hb5)
            have HA5 := Lib.hid (HAY.out.below hb5)
            clear hb5 CNo k0 k1 k2 k3 k4 k5 k6 k7 k8 k9 k10 k11 m0 m1 m2 m3
            obtain ⟨k0, k1, k2, k3, k4, k5, k6, k7, k8, k9, k10, k11⟩ := HA5.out.lit
            by_cases hns : x.vip = 0 ∧ x.proto = 0 ∧ x.port = 0 ∧ n = 0
            · rw [decide_eq_true hns]
              have HNN := Lib.hid (HNS.out.1 hns)
              clear hns
              go_wp2_with fail
              refine (CD.out _).mono ?_
              rintro e w6 ⟨rfl, rfl⟩
              by_cases hdp : IsDip x.dip
              · rw [decide_eq_true hdp]
                have HDP := Lib.hid hdp
                clear hdp
                by_cases hv2 : x.cvip = 0
                · have N : Hid (GoodC x) := Lib.hid (HGC.out.2 (.inr (.inr (.inl ⟨HK.out, HNN.out, HDP.out, hv2⟩))))
                  rw [hv2] at k10
                  clear hv2
                  go_wp2
                  go_ret
                  exact ⟨FY.out N.out, HB5.out⟩
                · have N : Hid (¬ GoodC x) := Lib.hid (fun h => by have hs := HGC.out.1 h; have hk := HK.out; rcases hs with h | h | h | h <;> first | (exact hv2 h.2.2.2) | (exfalso; omega))
                  have g : (x.cvip == 0) = false := by simp [hv2]
                  go_wp2
                  go_ret
                  exact ⟨by rw [← FN.out N.out, ← g]; rfl, HB5.out⟩
              · rw [decide_eq_false hdp]
                have N : Hid (¬ GoodC x) := Lib.hid (fun h => by have hs := HGC.out.1 h; have hk := HK.out; rcases hs with h | h | h | h <;> first | (exact hdp h.2.2.1) | (exfalso; omega))
                clear hdp
                go_wp2
                go_ret
                exact ⟨FN.out N.out, HB5.out⟩
            · rw [decide_eq_false hns]
              have N : Hid (¬ GoodC x) := Lib.hid (fun h => by have hs := HGC.out.1 h; have hk := HK.out; rcases hs with h | h | h | h <;> first | (exact hns (HNS.out.2 h.2.1)) | (exfalso; omega))
              clear hns
              go_wp2
              go_ret
              exact ⟨FN.out N.out, HB5.out⟩
          · have HK := Lib.hid hk
            obtain rfl : kn = 4 := by omega
            clear hk hkn
            go_wp2_with fail
            refine (CNo.out _).mono ?_
            rintro e w5 ⟨rfl, hb5⟩
            have HB5 := Lib.hid (bl_tr HBY.out hb5)
            have HA5 := Lib.hid (HAY.out.below hb5)
            clear hb5 CNo k0 k1 k2 k3 k4 k5 k6 k7 k8 k9 k10 k11 m0 m1 m2 m3
            obtain ⟨k0, k1, k2, k3, k4, k5, k6, k7, k8, k9, k10, k11⟩ := HA5.out.lit
            by_cases hns : x.vip = 0 ∧ x.proto = 0 ∧ x.port = 0 ∧ n = 0
            · rw [decide_eq_true hns]
              have HNN := Lib.hid (HNS.out.1 hns)
              clear hns
              go_wp2_with fail
              refine (CD.out _).mono ?_
              rintro e w6 ⟨rfl, rfl⟩
              by_cases hdp : IsDip x.dip
              · rw [decide_eq_true hdp]
                have HDP := Lib.hid hdp
                clear hdp
                by_cases hv2 : x.cvip = 0
                · cases hu : x.up with
                  | true =>
                    have N : Hid (¬ GoodC x) := Lib.hid (fun h => by have hs := HGC.out.1 h; have hk := HK.out; rcases hs with h | h | h | h <;> first | (exact Bool.noConfusion (hu.symm.trans h.2.2.2.2)) | (exfalso; omega))
                    rw [hv2] at k10
                    rw [hu] at k11
                    clear hv2 hu
                    go_wp2
                    go_ret
                    exact ⟨FN.out N.out, HB5.out⟩
                  | false =>
                    have N : Hid (GoodC x) := Lib.hid (HGC.out.2 (.inr (.inr (.inr ⟨HK.out, HNN.out, HDP.out, hv2, hu⟩))))
                    rw [hv2] at k10
                    rw [hu] at k11
                    clear hv2 hu
                    go_wp2
                    go_ret
                    exact ⟨FY.out N.out, HB5.out⟩
                · have N : Hid (¬ GoodC x) := Lib.hid (fun h => by have hs := HGC.out.1 h; have hk := HK.out; rcases hs with h | h | h | h <;> first | (exact hv2 h.2.2.2.1) | (exfalso; omega))
                  have g : (x.cvip == 0) = false := by simp [hv2]
                  clear hv2
                  go_wp2
                  go_ret
                  exact ⟨FN.out N.out, HB5.out⟩
              · rw [decide_eq_false hdp]
                have N : Hid (¬ GoodC x) := Lib.hid (fun h => by have hs := HGC.out.1 h; have hk := HK.out; rcases hs with h | h | h | h <;> first | (exact hdp h.2.2.1) | (exfalso; omega))
                clear hdp
                go_wp2
                go_ret
                exact ⟨FN.out N.out, HB5.out⟩
            · rw [decide_eq_false hns]
              have N : Hid (¬ GoodC x) := Lib.hid (fun h => by have hs := HGC.out.1 h; have hk := HK.out; rcases hs with h | h | h | h <;> first | (exact hns (HNS.out.2 h.2.1)) | (exfalso; omega))
              clear hns
              go_wp2
              go_ret
              exact ⟨FN.out N.out, HB5.out⟩
          · have N : Hid (¬ GoodC x) := Lib.hid (fun h => by have hs := HGC.out.1 h; rcases hs with h | h | h | h <;> omega)
            have g1 : (kn == 1) = false := by simp; omega
            have g2 : (kn == 2) = false := by simp; omega
            have g3 : (kn == 3) = false := by simp; omega
            have g4 : (kn == 4) = false := by simp; omega
            clear hkn hk1 hk2 hk3 hk4
            go_wp2
            go_ret
            exact ⟨FN.out N.out, HBY.out⟩
        · rw [decide_eq_false ht3]
          have N : Hid (¬ GoodC x) := Lib.hid (fun h => ht3 h.2.2.2.1)
          go_wp2
          go_ret
          exact ⟨FN.out N.out, HBW.out⟩
      · rw [decide_eq_false ht2]
        have N : Hid (¬ GoodC x) := Lib.hid (fun h => ht2 h.2.2.1)
        go_wp2
        go_ret
        exact ⟨FN.out N.out, HBW.out⟩
    · rw [decide_eq_false ht1]
      have N : Hid (¬ GoodC x) := Lib.hid (fun h => ht1 h.2.1)
      go_wp2
      go_ret
      exact ⟨FN.out N.out, HBW.out⟩
  · rw [decide_eq_false hm]
    have N : Hid (¬ GoodC x) := Lib.hid (fun h => hm h.1)
    go_wp2
    go_ret
    exact ⟨FN.out N.out, HBW.out⟩
end Go.Proofs.Ytnhnpfhfcbmmlaa
namespace Go.Proofs.Ytnhnpfhfcbmmlaa
open Go Go.RowKit
set_option linter.unusedVariables false
set_option linter.unusedSimpArgs false

theorem nm_more {ls : List Cm} {i : Nat} (hi : i < ls.length) (h : ((ls.take i).map Cm.nm).Nodup) (h2 : ∀ k, k < i → (ls.getD k cm0).nm ≠ (ls.getD i cm0).nm) : ((ls.take (i + 1)).map Cm.nm).Nodup := by
  rw [take_moreC ls hi, List.map_append, List.nodup_append]
  refine ⟨h, by simp, fun a ha b hb => ?_⟩
  obtain ⟨y, hy, rfl⟩ := List.mem_map.1 ha
  simp only [List.map_cons, List.map_nil, List.mem_singleton] at hb
  rw [hb]
  obtain ⟨k, hk, rfl⟩ := List.getElem_of_mem hy
  have hk2 : k < i := by rw [List.length_take] at hk; omega
  have e : (ls.take i)[k] = ls.getD k cm0 := by
    rw [List.getElem_take, List.getD_eq_getElem?_getD, List.getElem?_eq_getElem (by omega)]
    rfl
  rw [e]
  exact h2 k hk2
theorem nm_twice {ls : List Cm} {i j : Nat} (hi : i < ls.length) (hj : j < i) (h : (ls.getD j cm0).nm = (ls.getD i cm0).nm) : ¬ (ls.map Cm.nm).Nodup := by
  intro hn
  have hp := List.pairwise_iff_getElem.1 hn j i (by rw [List.length_map]; omega) (by rw [List.length_map]; exact hi) hj
  rw [List.getElem_map, List.getElem_map] at hp
  rw [List.getD_eq_getElem?_getD, List.getD_eq_getElem?_getD, List.getElem?_eq_getElem (by omega), List.getElem?_eq_getElem hi] at h
  exact hp h
set_option maxRecDepth 100000 in
set_option maxHeartbeats 8000000 in
theorem goodLogR_c (ls : List Cm) (vs : List Value) (a : Option Addr) (n c : Nat) (w : World) (hI : InC w a n c ls vs) (hn : n ≤ 4611686018427387904) (hes : ∀ x ∈ ls, x.es.length ≤ 4611686018427387904) :
    Calls Try.prog 59 #[.slice a n c] w fun e w' => e = .returned (.bool (decide (GoodL ls))) ∧ Below w.heap.size w w' := by
  obtain ⟨z, hz⟩ : ∃ z, z = decide (GoodL ls) := ⟨_, rfl⟩
  rw [← hz]
  have HZ := Lib.hid hz
  have FN : Hid (¬ GoodL ls → Ending.returned (.bool false) = Ending.returned (.bool z)) := Lib.hid (fun h => by rw [HZ.out, decide_eq_false h])
  have FY : Hid (GoodL ls → Ending.returned (.bool true) = Ending.returned (.bool z)) := Lib.hid (fun h => by rw [HZ.out, decide_eq_true h])
  have hlen := hI.len
  have hroom := hI.room
  have HI := Lib.hid hI
  have HES := Lib.hid hes
  have HB0 := Lib.hid (Below.refl w.heap.size w)
  clear hI hz hes
  go_enter Try.func59, Try.ntmps59
  by_cases hbig : n > 256
  · have gg : (n : Int) > 256 := by omega
    have N : Hid (¬ GoodL ls) := Lib.hid (fun h => by have := h.1; omega)
    go_wp2
    go_ret
    exact ⟨FN.out N.out, HB0.out⟩
  · have gg : ¬ (n : Int) > 256 := by omega
    have S0 : Hid ((∀ k, k < 0 → GoodC (ls.getD k cm0)) ∧ ((ls.take 0).map Cm.nm).Nodup) := Lib.hid ⟨fun k hk => by omega, by simp⟩
    go_wp2
    go_loopw [3, 4] (fun iv _ wr => ∃ i : Nat, i ≤ n ∧ iv = .int .i64 i ∧ Hid ((∀ k, k < i → GoodC (ls.getD k cm0)) ∧ ((ls.take i).map Cm.nm).Nodup) ∧ Hid (Below w.heap.size w wr)) (fun iv _ _ => n - (intOf iv).toNat)
    case atStart => exact ⟨0, by omega, rfl, S0, HB0⟩
    case round =>
      obtain ⟨i, hi, rfl, HS, HB⟩ := hrel
      obtain ⟨w2, rfl⟩ : ∃ v, v = wr := ⟨_, rfl⟩
      clear S0 HB0
      by_cases hlt : i < n
      · have ii : (i : Int) < (n : Int) := by omega
        have i0 : (0 : Int) ≤ (i : Int) := by omega
        have ic : (i : Int) ≤ (c : Int) := by omega
        obtain ⟨b, off, rfl⟩ := HI.out.block (by omega)
        have hI2 := HI.out.below HB.out
        have hc := hI2.cell hlt
        obtain ⟨a2, n2, c2, hv, hE⟩ := hI2.ends i hlt
        have hty := HI.out.ty hlt
        rw [hv] at hc
        obtain ⟨x, ex⟩ : ∃ x, x = ls.getD i cm0 := ⟨_, rfl⟩
        rw [← ex] at hc hE hty
        have HX := Lib.hid ex
        have hes2 : n2 ≤ 4611686018427387904 := by
          have h1 := HES.out _ (memC (ls := ls) (i := i) (by omega))
          have h2 := hE.len
          rw [← ex] at h1
          omega
        have CG := Lib.hid (goodR_c x a2 n2 c2 w2 hE hty hes2)
        obtain ⟨k0, k1, k2, k3, k4, k5, k6, k7, k8, k9, k10, k11⟩ := hc
        clear hI2 hv hE hty ex
        go_wp2_with fail
        refine CG.out.mono ?_
        rintro e w3 ⟨rfl, hb3⟩
        have HB3 := Lib.hid (bl_tr HB.out hb3)
        clear hb3 CG k0 k1 k2 k3 k4 k5 k6 k7 k8 k9 k10 k11
        by_cases hg : GoodC x
        · rw [decide_eq_true hg]
          have HG := Lib.hid hg
          have S1 : Hid (∀ k, k < 0 → (ls.getD k cm0).nm ≠ x.nm) := Lib.hid (fun k hk => by omega)
          clear hg
          go_wp2
          go_loopw [4] (fun jv wr => ∃ j : Nat, j ≤ i ∧ jv = .int .i64 j ∧ Hid (∀ k, k < j → (ls.getD k cm0).nm ≠ x.nm) ∧ Hid (Below w.heap.size w wr)) (fun jv _ => i - (intOf jv).toNat)
          case atStart => exact ⟨0, by omega, rfl, S1, HB3⟩
          case round =>
            obtain ⟨j, hj, rfl, HJ, HBJ⟩ := hrel
            obtain ⟨w4, rfl⟩ : ∃ v, v = wr := ⟨_, rfl⟩
            clear S1 HB3
            by_cases hjl : j < i
            · have jj : (j : Int) < (i : Int) := by omega
              have j0 : (0 : Int) ≤ (j : Int) := by omega
              have jn : (j : Int) < (n : Int) := by omega
              have jc : (j : Int) ≤ (c : Int) := by omega
              have hI4 := HI.out.below HBJ.out
              have hcx := hI4.cell hlt
              have hcy := hI4.cell (j := j) (by omega)
              rw [← HX.out] at hcx
              obtain ⟨y, ey⟩ : ∃ y, y = ls.getD j cm0 := ⟨_, rfl⟩
              rw [← ey] at hcy
              have HY := Lib.hid ey
              obtain ⟨k0, k1, k2, _⟩ := hcx
              obtain ⟨d0, d1, d2, _⟩ := hcy
              have HNE : Hid (x.nm ≠ y.nm → ∀ k, k < j + 1 → (ls.getD k cm0).nm ≠ x.nm) := Lib.hid (fun h k hk => by
                rcases Nat.lt_or_eq_of_le (Nat.lt_succ_iff.1 hk) with h2 | h2
                · exact HJ.out k h2
                · rw [h2, ← HY.out]; exact fun e => h e.symm)
              have HEQ : Hid (x.nm = y.nm → ¬ GoodL ls) := Lib.hid (fun h hg => nm_twice (ls := ls) (i := i) (by omega) hjl (by rw [← HX.out, ← HY.out, h]) hg.2.2)
              clear ey hI4
              by_cases h0 : x.node = y.node
              · by_cases h1 : x.boot = y.boot
                · by_cases h2 : x.seq = y.seq
                  · have N := Lib.hid (HEQ.out (by unfold Cm.nm; rw [h0, h1, h2]))
                    rw [h0] at k0
                    rw [h1] at k1
                    rw [h2] at k2
                    clear h0 h1 h2 HNE HEQ
                    go_upto_region 11 with fail
                    go_quiet (fail)
                    all_goals
                      have HBQ := bl_dn HBJ.out nq

                      go_wp2
                      go_ret
                      exact ⟨FN.out N.out, HBQ⟩
                  · have g : (x.seq == y.seq) = false := by simp [h2]
                    have HF := Lib.hid (HNE.out (fun e => h2 (by have := e; unfold Cm.nm at this; rw [Prod.mk.injEq, Prod.mk.injEq] at this; exact this.2.2)))
                    rw [h0] at k0
                    rw [h1] at k1
                    clear h0 h1 h2 HNE HEQ
                    go_upto_region 11 with fail
                    go_quiet (fail)
                    all_goals
                      have HBQ := bl_dn HBJ.out nq

                      go_wp2
                      go_roundw
                      case rel => exact ⟨j + 1, by omega, by go_num, HF, Lib.hid HBQ⟩
                      case measure => simp [intOf]; omega
                · have g : (x.boot == y.boot) = false := by simp [h1]
                  have HF := Lib.hid (HNE.out (fun e => h1 (by have := e; unfold Cm.nm at this; rw [Prod.mk.injEq, Prod.mk.injEq] at this; exact this.2.1)))
                  rw [h0] at k0
                  clear h0 h1 HNE HEQ
                  go_upto_region 11 with fail
                  go_quiet (fail)
                  all_goals
                    have HBQ := bl_dn HBJ.out nq

                    go_wp2
                    go_roundw
                    case rel => exact ⟨j + 1, by omega, by go_num, HF, Lib.hid HBQ⟩
                    case measure => simp [intOf]; omega
              · have g : (x.node == y.node) = false := by simp [h0]
                have HF := Lib.hid (HNE.out (fun e => h0 (by have := e; unfold Cm.nm at this; rw [Prod.mk.injEq, Prod.mk.injEq] at this; exact this.1)))
                clear h0 HNE HEQ
                go_upto_region 11 with fail
                go_quiet (fail)
                all_goals
                  have HBQ := bl_dn HBJ.out nq

                  go_wp2
                  go_roundw
                  case rel => exact ⟨j + 1, by omega, by go_num, HF, Lib.hid HBQ⟩
                  case measure => simp [intOf]; omega
            · have jj : ¬ (j : Int) < (i : Int) := by omega
              have HS2 : Hid ((∀ k, k < i + 1 → GoodC (ls.getD k cm0)) ∧ ((ls.take (i + 1)).map Cm.nm).Nodup) := Lib.hid ⟨fun k hk => by
                rcases Nat.lt_or_eq_of_le (Nat.lt_succ_iff.1 hk) with h2 | h2
                · exact HS.out.1 k h2
                · rw [h2, ← HX.out]; exact HG.out, nm_more (by omega) HS.out.2 (fun k hk => by rw [← HX.out]; exact HJ.out k (by omega))⟩
              go_wp2
              go_roundw
              case rel => exact ⟨i + 1, by omega, by go_num, HS2, HBJ⟩
              case measure => simp [intOf]; omega
        · rw [decide_eq_false hg]
          have N : Hid (¬ GoodL ls) := Lib.hid (fun h => hg (by rw [HX.out]; exact h.2.1 _ (memC (by omega))))
          clear hg
          go_wp2
          go_ret
          exact ⟨FN.out N.out, HB3.out⟩
      · have ii : ¬ (i : Int) < (n : Int) := by omega
        obtain rfl : i = n := by omega
        have N : Hid (GoodL ls) := Lib.hid ⟨by omega, fun y hy => by
          obtain ⟨k, hk, rfl⟩ := List.getElem_of_mem hy
          have := HS.out.1 k (by omega)
          rw [List.getD_eq_getElem?_getD, List.getElem?_eq_getElem hk] at this
          exact this, by have := HS.out.2; rwa [List.take_of_length_le (by omega)] at this⟩
        go_wp2
        go_ret
        exact ⟨FY.out N.out, HB.out⟩
end Go.Proofs.Ytnhnpfhfcbmmlaa
namespace Go.Proofs.Ytnhnpfhfcbmmlaa
open Go Go.RowKit
set_option linter.unusedVariables false
set_option linter.unusedSimpArgs false

structure GotWR (w : World) (ls : List Cm) (e : Ending) (w' : World) : Prop where
  yes : GoodL ls → ∃ ao c, e = .returned (.tuple #[.slice ao (bytesL ls).length c, .int .i64 0]) ∧ w'.ownsRow w.heap.size 5 1 (.slice ao (bytesL ls).length c) (bytesL ls).length (u8s (bytesL ls))
  no : ¬ GoodL ls → e = .returned (.tuple #[.slice none 0 0, .int .i64 9])
  bel : Below w.heap.size w w'
set_option maxRecDepth 100000 in
set_option maxHeartbeats 4000000 in
theorem writeR_c (ls : List Cm) (vs : List Value) (a : Option Addr) (n c : Nat) (w : World) (hI : InC w a n c ls vs) (hn : n ≤ 4611686018427387904) (hes : ∀ x ∈ ls, x.es.length ≤ 4611686018427387904) :
    Calls Try.prog 18 #[.slice a n c] w (GotWR w ls) := by
  have hlen := hI.len
  have HI := Lib.hid hI
  have GL := Lib.hid (goodLogR_c ls vs a n c w hI hn hes)
  by_cases hg : GoodL ls
  · rw [decide_eq_true hg] at GL
    have HG := Lib.hid hg
    clear hI hg hes
    go_enter Try.func18, Try.ntmps18
    go_wp2_with fail
    refine GL.out.mono ?_
    rintro e w1 ⟨rfl, hb1⟩
    have BY := Lib.hid (bytesR_c ls vs a n c w1 (HI.out.below hb1) (by have := HG.out.1; omega) (fun x hx => Nat.le_trans (goodC_es (HG.out.2.1 x hx)) (by decide)))
    have HB := Lib.hid hb1
    clear hb1 GL
    go_wp2_with fail
    refine BY.out.mono ?_
    rintro e w2 ⟨⟨ao, c2, rfl, ho⟩, hb2⟩
    have R : Hid (GotWR w ls (.returned (.tuple #[.slice ao (bytesL ls).length c2, .int .i64 0])) w2) := Lib.hid ⟨fun _ => ⟨ao, c2, rfl, own_base ho HB.out.size⟩, fun h => absurd HG.out h, HB.out.trans (hb2.mono HB.out.size)⟩
    clear ho hb2 BY HB HG
    go_wp2
    go_ret2
    exact R.out
  · rw [decide_eq_false hg] at GL
    have HG := Lib.hid hg
    clear hI hg hes
    go_enter Try.func18, Try.ntmps18
    go_wp2_with fail
    refine GL.out.mono ?_
    rintro e w1 ⟨rfl, hb1⟩
    have R : Hid (GotWR w ls (.returned (.tuple #[.slice none 0 0, .int .i64 9])) w1) := Lib.hid ⟨fun h => absurd h HG.out, fun _ => rfl, hb1⟩
    clear hb1 GL HG
    go_wp2
    go_ret2
    exact R.out
end Go.Proofs.Ytnhnpfhfcbmmlaa
