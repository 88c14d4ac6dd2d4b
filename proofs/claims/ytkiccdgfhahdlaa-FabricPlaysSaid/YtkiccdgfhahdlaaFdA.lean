/- The letters as they are held, Len, whether a fabric is full. -/
import Derived.Test.YtkiccdgfhahdlaaFbS
import Derived.Test.YtkiccdgfhahdlaaNdK
namespace Go.Proofs.Ytkiccdgfhahdlaa
open Go Go.RowKit
set_option linter.unusedVariables false
set_option linter.unusedSimpArgs false

set_option maxRecDepth 100000 in
theorem fund_c (f n c : Nat) (ao : Option Addr) (w : World) (h0 : w.cell? ⟨f, 0, none⟩ = some (.slice ao n c)) :
    Calls Try.prog 43 #[.pointer (some ⟨f, 0, none⟩)] w fun e w' => e = .returned (.slice ao n c) ∧ w = w' := by
  go_enter Try.func43, Try.ntmps43
  go_wp2
  go_ret
  exact ⟨rfl, rfl⟩
set_option maxRecDepth 100000 in
theorem fundN_c (w : World) : Calls Try.prog 43 #[.pointer none] w fun e w' => e = .returned (.slice none 0 0) ∧ w = w' := by
  go_enter Try.func43, Try.ntmps43
  go_wp2
  go_ret
  exact ⟨rfl, rfl⟩
set_option maxRecDepth 100000 in
theorem flen_c (B f last : Nat) (F : Nat → Prop) (ls : List Lt) (w : World) (hL : FSt w B F f ls last) :
    Calls Try.prog 29 #[.pointer (some ⟨f, 0, none⟩)] w fun e w' => e = .returned (.int .i64 ls.length) ∧ w = w' := by
  obtain ⟨ao, n, c, vs, hM, hF⟩ := hL
  have CU := Lib.hid (fund_c f n c ao w hM.c0)
  have hl := hM.len
  clear hM hF
  subst hl
  go_enter Try.func29, Try.ntmps29
  go_wp2_with fail
  refine CU.out.mono ?_
  rintro e w1 ⟨rfl, rfl⟩
  clear CU
  go_wp2
  go_ret
  exact ⟨rfl, rfl⟩
set_option maxRecDepth 100000 in
theorem flenN_c (w : World) : Calls Try.prog 29 #[.pointer none] w fun e w' => e = .returned (.int .i64 0) ∧ w = w' := by
  have CU := Lib.hid (fundN_c w)
  go_enter Try.func29, Try.ntmps29
  go_wp2_with fail
  refine CU.out.mono ?_
  rintro e w1 ⟨rfl, rfl⟩
  clear CU
  go_wp2
  go_ret
  exact ⟨rfl, rfl⟩
set_option maxRecDepth 100000 in
theorem ffullN_c (w : World) : Calls Try.prog 34 #[.pointer none] w fun e w' => e = .returned (.bool true) ∧ w = w' := by
  go_enter Try.func34, Try.ntmps34
  go_wp2
  go_ret
  exact ⟨rfl, rfl⟩
set_option maxRecDepth 100000 in
theorem ffull_yes (B f last : Nat) (F : Nat → Prop) (ls : List Lt) (w : World) (hL : FSt w B F f ls last) (h4 : 4096 ≤ ls.length) :
    Calls Try.prog 34 #[.pointer (some ⟨f, 0, none⟩)] w fun e w' => e = .returned (.bool true) ∧ w = w' := by
  obtain ⟨ao, n, c, vs, hM, hF⟩ := hL
  have h0 := hM.c0
  have i4 : (4096 : Int) ≤ (n : Int) := by have := hM.len; omega
  clear hM hF h4
  go_enter Try.func34, Try.ntmps34
  go_wp2
  go_ret
  exact ⟨rfl, rfl⟩
set_option maxRecDepth 100000 in
theorem ffull_no (B f last : Nat) (F : Nat → Prop) (ls : List Lt) (w : World) (hL : FSt w B F f ls last) (h4 : ls.length < 4096) :
    Calls Try.prog 34 #[.pointer (some ⟨f, 0, none⟩)] w fun e w' => e = .returned (.bool false) ∧ w = w' := by
  obtain ⟨ao, n, c, vs, hM, hF⟩ := hL
  have h0 := hM.c0
  have i4 : ¬ (4096 : Int) ≤ (n : Int) := by have := hM.len; omega
  clear hM hF h4
  go_enter Try.func34, Try.ntmps34
  go_wp2
  go_ret
  exact ⟨rfl, rfl⟩
end Go.Proofs.Ytkiccdgfhahdlaa
