/- Contract of WholePaths: true. Conditions: the Data came in, the numbers are of their types. -/
import Derived.Test.YtfbmeoiaedlgoaaTPathA
import Derived.Test.YtfbmeoiaedlgoaaOpen5
namespace Go.Proofs.Ytfbmeoiaedlgoaa
open Go Go.RowKit
set_option linter.unusedVariables false
set_option linter.unusedSimpArgs false

set_option maxRecDepth 100000 in
set_option maxHeartbeats 1000000 in
theorem paths_no (p : Pk) (a : Option Addr) (n c : Nat) (V vp D dp A B : Int) (w : World) (hI : In w a n c p.data) (ht : Typed p) (hV : 0 ≤ V ∧ V < 4294967296) (hD : 0 ≤ D ∧ D < 4294967296) (hA : 0 ≤ A ∧ A < 4294967296) (hB : 0 ≤ B ∧ B < 4294967296) (hn : n ≤ 4611686018427387904) (hok : ¬ Ok p) :
    Calls Try.prog 8 #[pathval p a n c V vp D dp A B] w fun e w' => e = .returned (.bool true) ∧ Below w.heap.size w w' := by
  obtain ⟨W, hW, hX⟩ := QBox.start w p a n c V vp D dp A B
  have HW := Lib.hid hW
  have HX := Lib.hid hX
  have HI := Lib.hid hI
  have CB := Lib.hid (fun W => refBuild_no p a n c HI.out.len hn hok W)
  clear hW hX hI ht hV hD hA hB hok hn
  go_enter Try.func8, Try.ntmps8
  go_wp2_with fail
  rw [HW.out]
  refine (pathsT_any W).mono ?_
  rintro e w1 ⟨rfl, hb⟩
  have HX1 := Lib.hid (HX.out.next hb)
  obtain ⟨e0, e1, e2, e3, e4, e5, e6, e7, e8, e9, e10, e11, e12, e13, e14, e15, e16, e17, e18⟩ := HX1.out.here
  clear hb HX HW
  go_wp2_with fail
  refine (CB.out w1).mono ?_
  rintro e w2 ⟨rfl, hb⟩
  have HB2 := Lib.hid (bl_tr HX1.out.below hb)
  clear hb HX1 CB e0 e1 e2 e3 e4 e5 e6 e7 e8 e9 e10 e11 e12 e13 e14 e15 e16 e17 e18
  go_wp2
  go_ret
  exact ⟨rfl, HB2.out⟩

set_option maxRecDepth 100000 in
set_option maxHeartbeats 1000000 in
theorem paths_out (p : Pk) (a : Option Addr) (n c : Nat) (V vp D dp A B : Int) (w : World) (hI : In w a n c p.data) (ht : Typed p) (hV : 0 ≤ V ∧ V < 4294967296) (hD : 0 ≤ D ∧ D < 4294967296) (hA : 0 ≤ A ∧ A < 4294967296) (hB : 0 ≤ B ∧ B < 4294967296) (hn : n ≤ 4611686018427387904) (hok : Ok p) (hbad : 1460 < segLen p ∨ ¬ portOk vp ∨ ¬ portOk dp) :
    Calls Try.prog 8 #[pathval p a n c V vp D dp A B] w fun e w' => e = .returned (.bool true) ∧ Below w.heap.size w w' := by
  obtain ⟨W, hW, hX⟩ := QBox.start w p a n c V vp D dp A B
  have HW := Lib.hid hW
  have HX := Lib.hid hX
  have HI := Lib.hid hI
  have CB := Lib.hid (fun W (h : In W a n c p.data) => refBuild_ok p a n c hok ht W h)
  unfold RBuilt at CB
  obtain ⟨N, hN⟩ : ∃ N, N = 20 + segLen p := ⟨_, rfl⟩
  rw [← hN] at CB
  have hcase : (1480 : Int) < (N : Int) ∨ ¬ ((1480 : Int) < (N : Int)) ∧ vp < 0 ∨ ¬ ((1480 : Int) < (N : Int)) ∧ ¬ (vp < 0) ∧ 65535 < vp ∨ ¬ ((1480 : Int) < (N : Int)) ∧ ¬ (vp < 0) ∧ ¬ (65535 < vp) ∧ dp < 0 ∨ ¬ ((1480 : Int) < (N : Int)) ∧ ¬ (vp < 0) ∧ ¬ (65535 < vp) ∧ ¬ (dp < 0) ∧ 65535 < dp := by
    unfold portOk at hbad
    omega
  clear hW hX hI ht hV hD hA hB hok hn hbad hN
  rcases hcase with q1 | ⟨q1, q2⟩ | ⟨q1, q2, q3⟩ | ⟨q1, q2, q3, q4⟩ | ⟨q1, q2, q3, q4, q5⟩
  · go_enter Try.func8, Try.ntmps8
    go_wp2_with fail
    rw [HW.out]
    refine (pathsT_any W).mono ?_
    rintro e w1 ⟨rfl, hb⟩
    have HX1 := Lib.hid (HX.out.next hb)
    obtain ⟨e0, e1, e2, e3, e4, e5, e6, e7, e8, e9, e10, e11, e12, e13, e14, e15, e16, e17, e18⟩ := HX1.out.here
    clear hb HX HW
    go_wp2_with fail
    refine (CB.out w1 (HI.out.below HX1.out.below)).mono ?_
    rintro e w2 ⟨a2, c2, rfl, hin, hb⟩
    have HX2 := Lib.hid (HX1.out.next hb)
    have HI2 := Lib.hid hin
    clear hb hin HX1 CB HI e0 e1 e2 e3 e4 e5 e6 e7 e8 e9 e10 e11 e12 e13 e14 e15 e16 e17 e18
    obtain ⟨e0, e1, e2, e3, e4, e5, e6, e7, e8, e9, e10, e11, e12, e13, e14, e15, e16, e17, e18⟩ := HX2.out.here
    go_wp2
    go_ret
    exact ⟨rfl, HX2.out.below⟩
  · go_enter Try.func8, Try.ntmps8
    go_wp2_with fail
    rw [HW.out]
    refine (pathsT_any W).mono ?_
    rintro e w1 ⟨rfl, hb⟩
    have HX1 := Lib.hid (HX.out.next hb)
    obtain ⟨e0, e1, e2, e3, e4, e5, e6, e7, e8, e9, e10, e11, e12, e13, e14, e15, e16, e17, e18⟩ := HX1.out.here
    clear hb HX HW
    go_wp2_with fail
    refine (CB.out w1 (HI.out.below HX1.out.below)).mono ?_
    rintro e w2 ⟨a2, c2, rfl, hin, hb⟩
    have HX2 := Lib.hid (HX1.out.next hb)
    have HI2 := Lib.hid hin
    clear hb hin HX1 CB HI e0 e1 e2 e3 e4 e5 e6 e7 e8 e9 e10 e11 e12 e13 e14 e15 e16 e17 e18
    obtain ⟨e0, e1, e2, e3, e4, e5, e6, e7, e8, e9, e10, e11, e12, e13, e14, e15, e16, e17, e18⟩ := HX2.out.here
    go_wp2
    go_ret
    exact ⟨rfl, HX2.out.below⟩
  · go_enter Try.func8, Try.ntmps8
    go_wp2_with fail
    rw [HW.out]
    refine (pathsT_any W).mono ?_
    rintro e w1 ⟨rfl, hb⟩
    have HX1 := Lib.hid (HX.out.next hb)
    obtain ⟨e0, e1, e2, e3, e4, e5, e6, e7, e8, e9, e10, e11, e12, e13, e14, e15, e16, e17, e18⟩ := HX1.out.here
    clear hb HX HW
    go_wp2_with fail
    refine (CB.out w1 (HI.out.below HX1.out.below)).mono ?_
    rintro e w2 ⟨a2, c2, rfl, hin, hb⟩
    have HX2 := Lib.hid (HX1.out.next hb)
    have HI2 := Lib.hid hin
    clear hb hin HX1 CB HI e0 e1 e2 e3 e4 e5 e6 e7 e8 e9 e10 e11 e12 e13 e14 e15 e16 e17 e18
    obtain ⟨e0, e1, e2, e3, e4, e5, e6, e7, e8, e9, e10, e11, e12, e13, e14, e15, e16, e17, e18⟩ := HX2.out.here
    go_wp2
    go_ret
    exact ⟨rfl, HX2.out.below⟩
  · go_enter Try.func8, Try.ntmps8
    go_wp2_with fail
    rw [HW.out]
    refine (pathsT_any W).mono ?_
    rintro e w1 ⟨rfl, hb⟩
    have HX1 := Lib.hid (HX.out.next hb)
    obtain ⟨e0, e1, e2, e3, e4, e5, e6, e7, e8, e9, e10, e11, e12, e13, e14, e15, e16, e17, e18⟩ := HX1.out.here
    clear hb HX HW
    go_wp2_with fail
    refine (CB.out w1 (HI.out.below HX1.out.below)).mono ?_
    rintro e w2 ⟨a2, c2, rfl, hin, hb⟩
    have HX2 := Lib.hid (HX1.out.next hb)
    have HI2 := Lib.hid hin
    clear hb hin HX1 CB HI e0 e1 e2 e3 e4 e5 e6 e7 e8 e9 e10 e11 e12 e13 e14 e15 e16 e17 e18
    obtain ⟨e0, e1, e2, e3, e4, e5, e6, e7, e8, e9, e10, e11, e12, e13, e14, e15, e16, e17, e18⟩ := HX2.out.here
    go_wp2
    go_ret
    exact ⟨rfl, HX2.out.below⟩
  · go_enter Try.func8, Try.ntmps8
    go_wp2_with fail
    rw [HW.out]
    refine (pathsT_any W).mono ?_
    rintro e w1 ⟨rfl, hb⟩
    have HX1 := Lib.hid (HX.out.next hb)
    obtain ⟨e0, e1, e2, e3, e4, e5, e6, e7, e8, e9, e10, e11, e12, e13, e14, e15, e16, e17, e18⟩ := HX1.out.here
    clear hb HX HW
    go_wp2_with fail
    refine (CB.out w1 (HI.out.below HX1.out.below)).mono ?_
    rintro e w2 ⟨a2, c2, rfl, hin, hb⟩
    have HX2 := Lib.hid (HX1.out.next hb)
    have HI2 := Lib.hid hin
    clear hb hin HX1 CB HI e0 e1 e2 e3 e4 e5 e6 e7 e8 e9 e10 e11 e12 e13 e14 e15 e16 e17 e18
    obtain ⟨e0, e1, e2, e3, e4, e5, e6, e7, e8, e9, e10, e11, e12, e13, e14, e15, e16, e17, e18⟩ := HX2.out.here
    go_wp2
    go_ret
    exact ⟨rfl, HX2.out.below⟩
end Go.Proofs.Ytfbmeoiaedlgoaa
