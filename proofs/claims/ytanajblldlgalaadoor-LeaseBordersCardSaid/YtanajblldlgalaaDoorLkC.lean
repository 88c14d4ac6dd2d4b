/- The statement LeaseBorders' walk. Conditions: the numbers fit their kinds; the library's table lies as its text lays it. -/
import Derived.Test.YtanajblldlgalaaDoorLkB
namespace Go.Proofs.YtanajblldlgalaaDoor
open Go Go.RowKit
set_option linter.unusedVariables false
set_option linter.unusedSimpArgs false

theorem free0 (vip now : Int) : freeL vip now [] = some 0 := by
  unfold freeL
  rw [List.find?_range_eq_some]
  exact ⟨rfl, by simp, fun j hj => absurd hj (Nat.not_lt_zero _)⟩
theorem grant_nil {vip dip now : Int} (h : OkTm now ∧ IsVipA vip ∧ IsDip dip) : grantL [] vip dip now = ([⟨vip, 1024, dip, now + 64⟩], ⟨vip, 1024, dip, now + 64⟩, 0) := by
  unfold grantL
  rw [if_pos ⟨h.1, h.2.1, h.2.2, okL_nil⟩, if_neg (by simp [ofL]), free0]
  rfl
theorem grant_nil_no {vip dip now : Int} (h : ¬ (OkTm now ∧ IsVipA vip ∧ IsDip dip)) : grantL [] vip dip now = ([], ls0, 9) := by
  unfold grantL
  rw [if_neg (fun e => h ⟨e.1, e.2.1, e.2.2.1⟩)]
theorem one_find (vip dip T p t : Int) (h : 1024 ≤ p ∧ p < 1032 ∧ t ≤ T) : findL vip p t [⟨vip, 1024, dip, T⟩] = some ⟨vip, 1024, dip, T⟩ := by
  unfold findL
  rw [List.find?_cons_of_pos]
  unfold isF livL hasP
  rw [decide_eq_true rfl, decide_eq_true (by simp only; omega), decide_eq_true (by simp only; omega)]
  rfl
theorem one_miss (vip dip T p t : Int) (h : ¬ (1024 ≤ p ∧ p < 1032 ∧ t ≤ T)) : findL vip p t [⟨vip, 1024, dip, T⟩] = none := by
  unfold findL
  rw [List.find?_eq_none]
  intro x hx
  rw [List.mem_singleton] at hx
  subst hx
  unfold isF livL hasP
  simp
  omega
theorem one_prune (vip dip T t : Int) (h : t ≤ T) : (([⟨vip, 1024, dip, T⟩] : List Ls).filter (livL t)).length = 1 ∧ (([⟨vip, 1024, dip, T⟩] : List Ls).filter (isO dip t)).length = 1 := by
  constructor
  · rw [List.filter_cons_of_pos (by unfold livL; exact decide_eq_true h)]
    rfl
  · rw [List.filter_cons_of_pos (by unfold isO livL; rw [decide_eq_true rfl, decide_eq_true h]; rfl)]
    rfl
theorem one_gone (vip dip T t : Int) (h : ¬ t ≤ T) : (([⟨vip, 1024, dip, T⟩] : List Ls).filter (livL t)).length = 0 := by
  rw [List.filter_cons_of_neg (by unfold livL; rw [decide_eq_false h]; exact Bool.false_ne_true)]
  rfl
theorem err_same9 (w : World) : (binOp .eql 32 (errnoL 9) (errnoL 9)).run Tryd.prog w = .ok (.bool true) w := by kernel_rfl
set_option maxRecDepth 100000 in
set_option maxHeartbeats 8000000 in
theorem leaseBorders_t (vip dip now : Int) (w : World) (hv : 0 ≤ vip ∧ vip < 4294967296) (hd : 0 ≤ dip ∧ dip < 4294967296) (hn : i64b now) (hg : Good w) :
    Calls Tryd.prog 7 #[.int .u32 vip, .int .u32 dip, .int .i64 now] w fun e w' => e = .returned (.bool true) ∧ Below w.heap.size w w' := by
  have CA := Lib.hid (alive_c w hg)
  have CG := Lib.hid (fun (W : World) (hb : Below w.heap.size w W) => grant_c [] vip dip now none 0 0 W (inL_nil W) (by omega) hv hd (hg.later hb))
  clear hg
  by_cases h : OkTm now ∧ IsVipA vip ∧ IsDip dip
  · rw [grant_nil h] at CG
    have hnow : 0 ≤ now ∧ now ≤ 1099511627776 := h.1
    have HT : Hid (TyL ⟨vip, 1024, dip, now + 64⟩) := Lib.hid ⟨hv, by show i64b 1024; unfold i64b; omega, hd, by show i64b (now + 64); unfold i64b; omega⟩
    obtain ⟨T, hT⟩ : ∃ T, T = now + 64 := ⟨_, rfl⟩
    rw [← hT] at CG HT
    have CF1 := Lib.hid (fun (W : World) {ao : Option Addr} {c : Nat} (hI : InL W ao 1 c [⟨vip, 1024, dip, T⟩]) => find_c _ vip 1031 T ao 1 c W hI (by omega) (by unfold i64b; omega))
    rw [one_find vip dip T 1031 T (by omega)] at CF1
    have CF2 := Lib.hid (fun (W : World) {ao : Option Addr} {c : Nat} (hI : InL W ao 1 c [⟨vip, 1024, dip, T⟩]) => find_c _ vip 1032 T ao 1 c W hI (by omega) (by unfold i64b; omega))
    rw [one_miss vip dip T 1032 T (by omega)] at CF2
    have CF3 := Lib.hid (fun (W : World) {ao : Option Addr} {c : Nat} (hI : InL W ao 1 c [⟨vip, 1024, dip, T⟩]) => find_c _ vip 1024 (T + 1) ao 1 c W hI (by omega) (by unfold i64b; omega))
    rw [one_miss vip dip T 1024 (T + 1) (by omega)] at CF3
    have CF4 := Lib.hid (fun (W : World) {ao : Option Addr} {c : Nat} (hI : InL W ao 1 c [⟨vip, 1024, dip, T⟩]) => find_c _ vip 1023 now ao 1 c W hI (by omega) (by unfold i64b; omega))
    rw [one_miss vip dip T 1023 now (by omega)] at CF4
    have CP1 := Lib.hid (fun (W : World) {ao : Option Addr} {c : Nat} (hI : InL W ao 1 c [⟨vip, 1024, dip, T⟩]) => prune_c _ T ao 1 c W hI (by omega))
    have CP2 := Lib.hid (fun (W : World) {ao : Option Addr} {c : Nat} (hI : InL W ao 1 c [⟨vip, 1024, dip, T⟩]) => prune_c _ (T + 1) ao 1 c W hI (by omega))
    have CO := Lib.hid (fun (W : World) {ao : Option Addr} {c : Nat} (hI : InL W ao 1 c [⟨vip, 1024, dip, T⟩]) => of_c _ dip T ao 1 c W hI (by omega))
    have l1 : (prL T [⟨vip, 1024, dip, T⟩]).length = 1 := (one_prune vip dip T T (by omega)).1
    have l2 : (prL (T + 1) [⟨vip, 1024, dip, T⟩]).length = 0 := one_gone vip dip T (T + 1) (by omega)
    have l3 : (ofL dip T [⟨vip, 1024, dip, T⟩]).length = 1 := (one_prune vip dip T T (by omega)).2
    have HTT := Lib.hid hT
    have hT1 : 64 ≤ T := by omega
    have hT2 : T ≤ 1099511627840 := by omega
    have hTn : now + 64 = T := hT.symm
    clear h hT hv hd hn
    go_enter Tryd.func7, Tryd.ntmps7
    go_wp2_with fail
    refine CA.out.mono ?_
    rintro e w0 ⟨rfl, hb0⟩
    have HB0 := Lib.hid hb0
    clear hb0 CA
    go_wp2_with fail
    refine (CG.out w0 HB0.out).mono ?_
    intro e w1 hO
    obtain ⟨ao, c, he, hI1, _, hb1⟩ := hO.get (fun x hx => by rw [List.mem_singleton] at hx; rw [hx]; exact HT.out)
    have he : e = .returned (.tuple #[.slice ao 1 c, .agg #[.int .u32 vip, .int .i64 1024, .int .u32 dip, .int .i64 T], .nilIface]) := he
    subst he
    obtain ⟨w2, q, hw2, hq2, hA2, hb2, _⟩ := boxed w1 ⟨vip, 1024, dip, T⟩
    have HXw2 : Hid (BxL w2 q ⟨vip, 1024, dip, T⟩) := Lib.hid (by rw [hw2, hq2]; exact bxL_new w1 _)
    have HIw2 := Lib.hid (hI1.below hb2)
    have HBw2 := Lib.hid (bl_tr HB0.out (bl_tr hb1 hb2))
    have HW2 := Lib.hid (And.intro hw2 hq2)
    clear hO hI1 hb1 hw2 hq2 hA2 hb2 CG
    go_upto_region 4 with fail
    rw [show w1.alloc (.cells #[.int .u32 vip, .int .i64 1024, .int .u32 dip, .int .i64 T] tyL) = w2 from HW2.out.1.symm, ← HW2.out.2]
    obtain ⟨k0, k1, k2, k3⟩ := HXw2.out.at
    go_wp2_with fail
    refine (CF1.out w2 HIw2.out).mono ?_
    rintro e u1 ⟨rfl, hb⟩
    rw [show fndR (some ⟨vip, 1024, dip, T⟩) = Value.tuple #[.agg #[.int .u32 vip, .int .i64 1024, .int .u32 dip, .int .i64 T], .bool true] from rfl]
    obtain ⟨w4, q1, hw, hq, hA, hb2, _⟩ := boxed u1 ⟨vip, 1024, dip, T⟩
    have HIw4 := Lib.hid ((HIw2.out.below hb).below hb2)
    have HBw4 := Lib.hid (bl_tr HBw2.out (bl_tr hb hb2))
    have HWw4 := Lib.hid (And.intro hw hq)
    have HXw4 := Lib.hid (HXw2.out.later (bl_tr hb hb2))
    obtain ⟨k0, k1, k2, k3⟩ := HXw4.out.at
    go_upto_region 7 with fail
    rw [show u1.alloc (.cells #[.int .u32 vip, .int .i64 1024, .int .u32 dip, .int .i64 T] tyL) = w4 from HWw4.out.1.symm, ← HWw4.out.2]
    clear hw hq hA hb2 hb CF1 k0 k1 k2 k3
    obtain ⟨k0, k1, k2, k3⟩ := HXw4.out.at
    go_wp2_with fail
    refine (CF2.out w4 HIw4.out).mono ?_
    rintro e u2 ⟨rfl, hb⟩
    rw [show fndR none = Value.tuple #[.agg #[.int .u32 0, .int .i64 0, .int .u32 0, .int .i64 0], .bool false] from rfl]
    obtain ⟨w6, q2, hw, hq, hA, hb2, _⟩ := boxed u2 ls0
    have HIw6 := Lib.hid ((HIw4.out.below hb).below hb2)
    have HBw6 := Lib.hid (bl_tr HBw4.out (bl_tr hb hb2))
    have HWw6 := Lib.hid (And.intro hw hq)
    have HXw6 := Lib.hid (HXw4.out.later (bl_tr hb hb2))
    obtain ⟨k0, k1, k2, k3⟩ := HXw6.out.at
    go_upto_region 8 with fail
    rw [show u2.alloc (.cells #[.int .u32 0, .int .i64 0, .int .u32 0, .int .i64 0] tyL) = w6 from HWw6.out.1.symm, ← HWw6.out.2]
    clear hw hq hA hb2 hb CF2 k0 k1 k2 k3
    obtain ⟨k0, k1, k2, k3⟩ := HXw6.out.at
    go_wp2_with fail
    refine (CF3.out w6 HIw6.out).mono ?_
    rintro e u3 ⟨rfl, hb⟩
    rw [show fndR none = Value.tuple #[.agg #[.int .u32 0, .int .i64 0, .int .u32 0, .int .i64 0], .bool false] from rfl]
    obtain ⟨w8, q3, hw, hq, hA, hb2, _⟩ := boxed u3 ls0
    have HIw8 := Lib.hid ((HIw6.out.below hb).below hb2)
    have HBw8 := Lib.hid (bl_tr HBw6.out (bl_tr hb hb2))
    have HWw8 := Lib.hid (And.intro hw hq)
    have HXw8 := Lib.hid (HXw6.out.later (bl_tr hb hb2))
    obtain ⟨k0, k1, k2, k3⟩ := HXw8.out.at
    go_upto_region 9 with fail
    rw [show u3.alloc (.cells #[.int .u32 0, .int .i64 0, .int .u32 0, .int .i64 0] tyL) = w8 from HWw8.out.1.symm, ← HWw8.out.2]
    clear hw hq hA hb2 hb CF3 k0 k1 k2 k3
    obtain ⟨k0, k1, k2, k3⟩ := HXw8.out.at
    go_wp2_with fail
    refine (CF4.out w8 HIw8.out).mono ?_
    rintro e u4 ⟨rfl, hb⟩
    rw [show fndR none = Value.tuple #[.agg #[.int .u32 0, .int .i64 0, .int .u32 0, .int .i64 0], .bool false] from rfl]
    obtain ⟨wa, q4, hw, hq, hA, hb2, _⟩ := boxed u4 ls0
    have HIwa := Lib.hid ((HIw8.out.below hb).below hb2)
    have HBwa := Lib.hid (bl_tr HBw8.out (bl_tr hb hb2))
    have HWwa := Lib.hid (And.intro hw hq)
    have HXwa := Lib.hid (HXw8.out.later (bl_tr hb hb2))
    obtain ⟨k0, k1, k2, k3⟩ := HXwa.out.at
    go_upto_region 10 with fail
    rw [show u4.alloc (.cells #[.int .u32 0, .int .i64 0, .int .u32 0, .int .i64 0] tyL) = wa from HWwa.out.1.symm, ← HWwa.out.2]
    clear hw hq hA hb2 hb CF4 k0 k1 k2 k3
    obtain ⟨k0, k1, k2, k3⟩ := HXwa.out.at
    go_wp2_with fail
    refine (CP1.out wa HIwa.out).mono ?_
    rintro e wb ⟨⟨v, rfl, hK⟩, hb⟩
    obtain ⟨ao1, cc1, rfl⟩ := own_form hK
    have HIwb := Lib.hid (HIwa.out.below hb)
    have HBwb := Lib.hid (bl_tr HBwa.out hb)
    have HXwb := Lib.hid (HXwa.out.later hb)
    clear hK hb k0 k1 k2 k3 CP1
    obtain ⟨k0, k1, k2, k3⟩ := HXwb.out.at
    go_wp2_with fail
    refine (CP2.out wb HIwb.out).mono ?_
    rintro e wc ⟨⟨v, rfl, hK⟩, hb⟩
    obtain ⟨ao2, cc2, rfl⟩ := own_form hK
    have HIwc := Lib.hid (HIwb.out.below hb)
    have HBwc := Lib.hid (bl_tr HBwb.out hb)
    have HXwc := Lib.hid (HXwb.out.later hb)
    clear hK hb k0 k1 k2 k3 CP2
    obtain ⟨k0, k1, k2, k3⟩ := HXwc.out.at
    go_wp2_with fail
    refine (CO.out wc HIwc.out).mono ?_
    rintro e wd ⟨⟨v, rfl, hK⟩, hb⟩
    obtain ⟨ao3, cc3, rfl⟩ := own_form hK
    have HIwd := Lib.hid (HIwc.out.below hb)
    have HBwd := Lib.hid (bl_tr HBwc.out hb)
    have HXwd := Lib.hid (HXwc.out.later hb)
    clear hK hb k0 k1 k2 k3 CO
    obtain ⟨k0, k1, k2, k3⟩ := HXwd.out.at
    go_wp2
    go_ret
    exact ⟨rfl, HBwd.out⟩
  · rw [grant_nil_no h] at CG
    have hq := lease_eql ls0 ls0
    rw [eqL_is, decide_eq_true rfl] at hq
    have hq0 : ∀ w, (binOp .eql tyL (.agg #[.int .u32 0, .int .i64 0, .int .u32 0, .int .i64 0]) (.agg #[.int .u32 0, .int .i64 0, .int .u32 0, .int .i64 0])).run Tryd.prog w = .ok (.bool true) w := hq
    have he9 := err_same9
    clear h hq
    go_enter Tryd.func7, Tryd.ntmps7
    go_wp2_with fail
    refine CA.out.mono ?_
    rintro e w0 ⟨rfl, hb0⟩
    have HB0 := Lib.hid hb0
    clear hb0 CA
    go_wp2_with fail
    refine (CG.out w0 HB0.out).mono ?_
    intro e w1 hO
    obtain ⟨ao, c, he, hI1, _, hb1⟩ := hO.get (fun x hx => by simp at hx)
    have he : e = .returned (.tuple #[.slice ao 0 c, .agg #[.int .u32 0, .int .i64 0, .int .u32 0, .int .i64 0], errnoL 9]) := he
    subst he
    obtain ⟨w2, q, hw2, hq2, hA2, hb2, _⟩ := boxed w1 ls0
    have HX2 : Hid (BxL w2 q ls0) := Lib.hid (by rw [hw2, hq2]; exact bxL_new w1 _)
    have HB2 := Lib.hid (bl_tr HB0.out (bl_tr hb1 hb2))
    have HW2 := Lib.hid (And.intro hw2 hq2)
    clear hO hI1 hb1 hw2 hq2 hA2 hb2 CG
    go_upto_region 4 with fail
    rw [show w1.alloc (.cells #[.int .u32 0, .int .i64 0, .int .u32 0, .int .i64 0] tyL) = w2 from HW2.out.1.symm, ← HW2.out.2]
    obtain ⟨k0, k1, k2, k3⟩ := HX2.out.at
    go_wp2
    go_ret
    exact ⟨rfl, HB2.out⟩
end Go.Proofs.YtanajblldlgalaaDoor
