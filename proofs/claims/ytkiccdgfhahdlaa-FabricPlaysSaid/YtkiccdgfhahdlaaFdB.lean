/- place: where the n-th letter stands. -/
import Derived.Test.YtkiccdgfhahdlaaFdA
import Derived.Test.YtkiccdgfhahdlaaRfN
namespace Go.Proofs.Ytkiccdgfhahdlaa
open Go Go.RowKit
set_option linter.unusedVariables false
set_option linter.unusedSimpArgs false

set_option maxRecDepth 100000 in
theorem placeN_c (n : Int) (w : World) : Calls Try.prog 39 #[.pointer none, .int .i64 n] w fun e w' => e = .returned (.tuple #[.int .i64 0, errnoF 6]) ∧ w = w' := by
  have CL := Lib.hid (flenN_c w)
  go_enter Try.func39, Try.ntmps39
  go_wp2_with fail
  refine CL.out.mono ?_
  rintro e w1 ⟨rfl, rfl⟩
  clear CL
  go_wp2
  go_ret2
  exact ⟨rfl, rfl⟩
set_option maxRecDepth 100000 in
theorem place0_c (B f last : Nat) (F : Nat → Prop) (n : Int) (w : World) (hL : FSt w B F f [] last) : Calls Try.prog 39 #[.pointer (some ⟨f, 0, none⟩), .int .i64 n] w fun e w' => e = .returned (.tuple #[.int .i64 0, errnoF 6]) ∧ w = w' := by
  have CL := Lib.hid (flen_c B f last F [] w hL)
  clear hL
  go_enter Try.func39, Try.ntmps39
  go_wp2_with fail
  refine CL.out.mono ?_
  rintro e w1 ⟨rfl, rfl⟩
  clear CL
  go_wp2
  go_ret2
  exact ⟨rfl, rfl⟩
set_option maxRecDepth 100000 in
theorem place_c (B f last : Nat) (F : Nat → Prop) (ls : List Lt) (n : Int) (w : World) (hL : FSt w B F f ls last) (h0 : 0 < ls.length) (h4 : ls.length ≤ 4096) :
    Calls Try.prog 39 #[.pointer (some ⟨f, 0, none⟩), .int .i64 n] w fun e w' => e = .returned (.tuple #[.int .i64 (plc n ls.length), .nilIface]) ∧ w = w' := by
  have CL := Lib.hid (flen_c B f last F ls w hL)
  obtain ⟨c, hc⟩ : ∃ c, c = ls.length := ⟨_, rfl⟩
  rw [← hc] at h0 h4 CL ⊢
  have hp := plc_tm n h0
  have h1 := Int.tmod_lt_of_pos n (show (0 : Int) < (c : Int) by omega)
  have h2 := Int.lt_tmod_of_pos n (show (0 : Int) < (c : Int) by omega)
  have hz : ((c : Int) == 0) = false := by rw [beq_eq_false_iff_ne]; omega
  have hz2 : ¬ (c : Int) = 0 := by omega
  have hz3 : ¬ c = 0 := by omega
  obtain ⟨P, hP⟩ : ∃ P, P = plc n c := ⟨_, rfl⟩
  rw [← hP] at hp
  rw [← hP]
  clear hL hc
  by_cases hl : n.tmod c < 0
  · have e := hp.1 hl
    have v : ∀ [Inhabited Nat], IntKind.i64.wrap (n.tmod c + (c : Int)) = (P : Int) := by intro _; rw [IntWalk.i64_in _ (by omega)]; omega
    have HE := Lib.hid e
    clear hp hP e
    go_enter Try.func39, Try.ntmps39
    go_wp2_with fail
    refine CL.out.mono ?_
    rintro e w1 ⟨rfl, rfl⟩
    clear CL
    go_wp2
    go_ret2
    exact ⟨by first | rfl | (rw [HE.out]; rfl), rfl⟩
  · have HE := Lib.hid (hp.2 hl)
    clear hp hP
    go_enter Try.func39, Try.ntmps39
    go_wp2_with fail
    refine CL.out.mono ?_
    rintro e w1 ⟨rfl, rfl⟩
    clear CL
    go_wp2
    go_ret2
    exact ⟨by rw [HE.out]; rfl, rfl⟩
end Go.Proofs.Ytkiccdgfhahdlaa
