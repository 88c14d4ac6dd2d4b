/- QueueOrders answers true. Conditions: the arguments came in. -/
import Derived.Test.YtdjeacmonlgdhaaQOs
namespace Go.Proofs.Ytdjeacmonlgdhaa
open Go Go.RowKit
set_option linter.unusedVariables false
set_option linter.unusedSimpArgs false

set_option maxRecDepth 100000 in
set_option maxHeartbeats 1000000 in
theorem orders_no (size : Int) (ao : Option Addr) (n c : Nat) (bo : Option Addr) (bn bc : Nat) (w : World) (h : size < 0 ∨ 300 < size ∨ 2000 < n) :
    Calls Try.prog 5 #[.int .i64 size, .slice ao n c, .slice bo bn bc] w fun e w' => e = .returned (.bool true) ∧ Below w.heap.size w w' := by
  have CA := Lib.hid (alive7_any w)
  by_cases h1 : size < 0
  · clear h
    go_enter Try.func5, Try.ntmps5
    go_wp2_with fail
    refine CA.out.mono ?_
    rintro e w1 ⟨rfl, hb1⟩
    have HB := Lib.hid hb1
    clear hb1 CA
    go_wp2
    go_ret
    exact ⟨rfl, HB.out⟩
  · by_cases h2 : 300 < size
    · clear h
      go_enter Try.func5, Try.ntmps5
      go_wp2_with fail
      refine CA.out.mono ?_
      rintro e w1 ⟨rfl, hb1⟩
      have HB := Lib.hid hb1
      clear hb1 CA
      go_wp2
      go_ret
      exact ⟨rfl, HB.out⟩
    · have h3 : (2000 : Int) < (n : Int) := by omega
      clear h
      go_enter Try.func5, Try.ntmps5
      go_wp2_with fail
      refine CA.out.mono ?_
      rintro e w1 ⟨rfl, hb1⟩
      have HB := Lib.hid hb1
      clear hb1 CA
      go_wp2
      go_ret
      exact ⟨rfl, HB.out⟩
theorem orders_t (size : Int) (ao : Option Addr) (n c : Nat) (us : List Value) (qs : List (List Int)) (bo : Option Addr) (bn bc : Nat) (bs : List Bool) (w : World) (hI : RsIn w ao n c us qs) (hJ : BsIn w bo bn bs) (hl : ∀ p ∈ qs, p.length ≤ 4611686018427387904) (hbn : bn ≤ 4611686018427387904) :
    Calls Try.prog 5 #[.int .i64 size, .slice ao n c, .slice bo bn bc] w fun e w' => e = .returned (.bool true) ∧ Below w.heap.size w w' := by
  by_cases h : size < 0 ∨ 300 < size ∨ 2000 < n
  · exact orders_no size ao n c bo bn bc w h
  · obtain ⟨k, rfl⟩ : ∃ k : Nat, size = (k : Int) := ⟨size.toNat, by omega⟩
    exact orders_main k (by omega) ao n c us qs bo bn bc bs w hI hJ (by omega) hl hbn
end Go.Proofs.Ytdjeacmonlgdhaa
