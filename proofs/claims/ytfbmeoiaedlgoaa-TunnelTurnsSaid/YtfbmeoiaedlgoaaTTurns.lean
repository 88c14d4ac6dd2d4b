/- Contract of TunnelTurns: true. Conditions: the Data came in, the numbers are of their types. -/
import Derived.Test.YtfbmeoiaedlgoaaTCuts
import Derived.Test.YtfbmeoiaedlgoaaOpen5
namespace Go.Proofs.Ytfbmeoiaedlgoaa
open Go Go.RowKit
set_option linter.unusedVariables false
set_option linter.unusedSimpArgs false

set_option maxRecDepth 100000 in
set_option maxHeartbeats 1000000 in
theorem turns_any (s d : Int) (p : Pk) (a : Option Addr) (n c : Nat) (i : Int) (w : World) (hI : In w a n c p.data) (ht : Typed p) (hs : 0 ≤ s ∧ s < 4294967296) (hd : 0 ≤ d ∧ d < 4294967296) (_ : True) (hn : n ≤ 4611686018427387904) :
    Calls Try.prog 6 #[slipval s d p a n c i] w fun e w' => e = .returned (.bool true) ∧ Below w.heap.size w w' := by
  have HB := Lib.hid (bl_al (Below.refl w.heap.size w) (.cells (slipcs s d p a n c i) 51))
  have HI := Lib.hid (hI.below HB.out)
  have CS := Lib.hid (slipsW_any s d p a n c i _ HI.out ht hs hd hn)
  clear hI ht hs hd hn
  go_enter Try.func6, Try.ntmps6
  go_wp2_with fail
  refine CS.out.mono ?_
  rintro e w1 ⟨rfl, hb⟩
  have HB1 := Lib.hid (bl_tr HB.out hb)
  clear hb HB HI CS
  go_wp2
  go_ret
  exact ⟨rfl, HB1.out⟩
end Go.Proofs.Ytfbmeoiaedlgoaa
