/- The statements' fixed fact alive. Condition: the library's table lies as its text lays it. -/
import Derived.Test.YtanajblldlgalaaDoorLkA
namespace Go.Proofs.YtanajblldlgalaaDoor
open Go Go.RowKit
set_option linter.unusedVariables false
set_option linter.unusedSimpArgs false

theorem eq_okL (x : Ls) (w : World) : (binOp .eql tyL (.agg #[.int .u32 x.vip, .int .i64 x.first, .int .u32 x.dip, .int .i64 x.exp]) (.agg #[.int .u32 x.vip, .int .i64 x.first, .int .u32 x.dip, .int .i64 x.exp])).run Tryd.prog w = .ok (.bool true) w := by
  have h := lease_eql x x w
  rwa [eqL_is, decide_eq_true rfl] at h
set_option maxRecDepth 100000 in
set_option maxHeartbeats 4000000 in
theorem alive_c (w : World) (hg : Good w) : Calls Tryd.prog 9 #[] w fun e w' => e = .returned (.bool true) ∧ Below w.heap.size w w' := by
  have C1 := Lib.hid (grant_c [] 16843009 167837697 5 none 0 0 w (inL_nil w) (by omega) (by omega) (by omega) hg)
  rw [al1] at C1
  have C2 := Lib.hid (fun (W : World) (ao : Option Addr) (c : Nat) (hI : InL W ao 1 c [⟨16843009, 1024, 167837697, 69⟩]) (hb : Below w.heap.size w W) => grant_c _ 16843009 167837698 6 ao 1 c W hI (by omega) (by omega) (by omega) (hg.later hb))
  rw [al2] at C2
  have C3 := Lib.hid (fun (W : World) (ao : Option Addr) (c : Nat) (hI : InL W ao 2 c [⟨16843009, 1024, 167837697, 69⟩, ⟨16843009, 1032, 167837698, 70⟩]) => find_c _ 16843009 1033 70 ao 2 c W hI (by omega) (by unfold i64b; omega))
  rw [al3] at C3
  have HE := Lib.hid (eq_okL ⟨16843009, 1032, 167837698, 70⟩)
  have T1 : Hid (TyL ⟨16843009, 1024, 167837697, 69⟩ ∧ TyL ⟨16843009, 1032, 167837698, 70⟩) := Lib.hid (by
    constructor
    · exact ⟨by decide, by show _ ∧ _; decide, by decide, by show _ ∧ _; decide⟩
    · exact ⟨by decide, by show _ ∧ _; decide, by decide, by show _ ∧ _; decide⟩)
  clear hg
  go_enter Tryd.func9, Tryd.ntmps9
  go_wp2_with fail
  refine C1.out.mono ?_
  intro e w1 hO
  obtain ⟨a1, c1, he, hI1, _, hb1⟩ := hO.get (fun x hx => by rw [List.mem_singleton] at hx; rw [hx]; exact T1.out.1)
  have he : e = .returned (.tuple #[.slice a1 1 c1, .agg #[.int .u32 16843009, .int .i64 1024, .int .u32 167837697, .int .i64 69], .nilIface]) := he
  subst he
  obtain ⟨w2, q2, hw2, hq2, hA2, hb2, hl2⟩ := boxed w1 ⟨16843009, 1024, 167837697, 69⟩
  have HI2 := Lib.hid (hI1.below hb2)
  have HB2 := Lib.hid (bl_tr hb1 hb2)
  have HW2 := Lib.hid (And.intro hw2 hq2)
  have HA2 := Lib.hid hA2
  clear hO hI1 hb1 hw2 hq2 hA2 hb2 hl2 C1
  go_upto_region 2 with fail
  rw [show w1.alloc (.cells #[.int .u32 16843009, .int .i64 1024, .int .u32 167837697, .int .i64 69] tyL) = w2 from HW2.out.1.symm, ← HW2.out.2]
  go_wp2_with fail
  refine (C2.out _ _ _ HI2.out HB2.out).mono ?_
  intro e w3 hO
  obtain ⟨a3, c3, he, hI3, _, hb3⟩ := hO.get (fun x hx => by
    rw [List.mem_cons, List.mem_singleton] at hx
    rcases hx with hx | hx
    · rw [hx]; exact T1.out.1
    · rw [hx]; exact T1.out.2)
  have he : e = .returned (.tuple #[.slice a3 2 c3, .agg #[.int .u32 16843009, .int .i64 1032, .int .u32 167837698, .int .i64 70], .nilIface]) := he
  subst he
  obtain ⟨w4, q4, hw4, hq4, hA4, hb4, hl4⟩ := boxed w3 ⟨16843009, 1032, 167837698, 70⟩
  have HI4 := Lib.hid (hI3.below hb4)
  have HB4 := Lib.hid (bl_tr HB2.out (bl_tr hb3 hb4))
  have HW4 := Lib.hid (And.intro hw4 hq4)
  have HA4 := Lib.hid hA4
  have HA24 := Lib.hid (HA2.out.below (bl_tr hb3 hb4) HA2.out.lt)
  clear hO hI3 hb3 hw4 hq4 hA4 hb4 hl4 C2 HA2 HI2 HW2
  go_upto_region 3 with fail
  rw [show w3.alloc (.cells #[.int .u32 16843009, .int .i64 1032, .int .u32 167837698, .int .i64 70] tyL) = w4 from HW4.out.1.symm, ← HW4.out.2]
  go_wp2_with fail
  refine (C3.out _ _ _ HI4.out).mono ?_
  rintro e w5 ⟨rfl, hb5⟩
  rw [show fndR (some ⟨16843009, 1032, 167837698, 70⟩) = Value.tuple #[.agg #[.int .u32 16843009, .int .i64 1032, .int .u32 167837698, .int .i64 70], .bool true] from rfl]
  obtain ⟨w6, q6, hw6, hq6, hA6, hb6, hl6⟩ := boxed w5 ⟨16843009, 1032, 167837698, 70⟩
  have HB6 := Lib.hid (bl_tr HB4.out (bl_tr hb5 hb6))
  have HW6 := Lib.hid (And.intro hw6 hq6)
  obtain ⟨b0, b1, b2, b3⟩ := hA6
  obtain ⟨d0, d1, d2, d3⟩ := HA4.out.below (bl_tr hb5 hb6) HA4.out.lt
  obtain ⟨f0, f1, f2, f3⟩ := HA24.out.below (bl_tr hb5 hb6) HA24.out.lt
  have hq := HE.out
  clear hb5 hw6 hq6 hb6 hl6 C3 HA4 HA24 HI4 HW4
  go_upto_region 4 with fail
  rw [show w5.alloc (.cells #[.int .u32 16843009, .int .i64 1032, .int .u32 167837698, .int .i64 70] tyL) = w6 from HW6.out.1.symm, ← HW6.out.2]
  go_wp2
  go_ret
  exact ⟨rfl, HB6.out⟩
end Go.Proofs.YtanajblldlgalaaDoor
