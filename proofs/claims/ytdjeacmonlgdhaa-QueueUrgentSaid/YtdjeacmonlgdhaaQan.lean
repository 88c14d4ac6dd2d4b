/- QueueUrgent, QueueLanes, QueuePlays answer true. Conditions: the arguments came in. -/
import Derived.Test.YtdjeacmonlgdhaaQUr
namespace Go.Proofs.Ytdjeacmonlgdhaa
open Go Go.RowKit
set_option linter.unusedVariables false
set_option linter.unusedSimpArgs false

set_option maxRecDepth 100000 in
set_option maxHeartbeats 1000000 in
theorem urgent_no (ao : Option Addr) (n c : Nat) (bo : Option Addr) (k d : Nat) (tq : Option Addr) (tn tc : Nat) (w : World) (h : 500 < n ∨ 500 < k ∨ 100 < tn) :
    Calls Try.prog 6 #[.slice ao n c, .slice bo k d, .slice tq tn tc] w fun e w' => e = .returned (.bool true) ∧ Below w.heap.size w w' := by
  have CA := Lib.hid (alive7_any w)
  by_cases h1 : (500 : Int) < (n : Int)
  · clear h
    go_enter Try.func6, Try.ntmps6
    go_wp2_with fail
    refine CA.out.mono ?_
    rintro e w1 ⟨rfl, hb1⟩
    have HB := Lib.hid hb1
    clear hb1 CA
    go_wp2
    go_ret
    exact ⟨rfl, HB.out⟩
  · by_cases h2 : (500 : Int) < (k : Int)
    · clear h
      go_enter Try.func6, Try.ntmps6
      go_wp2_with fail
      refine CA.out.mono ?_
      rintro e w1 ⟨rfl, hb1⟩
      have HB := Lib.hid hb1
      clear hb1 CA
      go_wp2
      go_ret
      exact ⟨rfl, HB.out⟩
    · have h3 : (100 : Int) < (tn : Int) := by omega
      clear h
      go_enter Try.func6, Try.ntmps6
      go_wp2_with fail
      refine CA.out.mono ?_
      rintro e w1 ⟨rfl, hb1⟩
      have HB := Lib.hid hb1
      clear hb1 CA
      go_wp2
      go_ret
      exact ⟨rfl, HB.out⟩
theorem urgent_any (ao : Option Addr) (n c : Nat) (us : List Value) (qs : List (List Int)) (bo : Option Addr) (k d : Nat) (vs : List Value) (rs : List (List Int)) (tq : Option Addr) (tn tc : Nat) (is : List Int) (w : World) (hI : RsIn w ao n c us qs) (hJ : RsIn w bo k d vs rs) (hT : IsIn w tq tn is) (hlq : ∀ p ∈ qs, p.length ≤ 4611686018427387904) (hlr : ∀ p ∈ rs, p.length ≤ 4611686018427387904) :
    Calls Try.prog 6 #[.slice ao n c, .slice bo k d, .slice tq tn tc] w fun e w' => e = .returned (.bool true) ∧ Below w.heap.size w w' := by
  by_cases h : 500 < n ∨ 500 < k ∨ 100 < tn
  · exact urgent_no ao n c bo k d tq tn tc w h
  · exact urgent_main ao n c us qs bo k d vs rs tq tn tc is w hI hJ hT (by omega) (by omega) (by omega) hlq hlr
theorem plays_any (size : Int) (ao : Option Addr) (n c : Nat) (os : List Opv) (w : World) (hI : ScrIn w ao n os) (hn : n ≤ 1152921504606846976) (hl : ∀ j, j < n → (os.getD j op0).n ≤ 1152921504606846976 ∧ ∀ p ∈ (os.getD j op0).ps, p.length ≤ 4611686018427387904) :
    Calls Try.prog 3 #[.int .i64 size, .slice ao n c] w fun e w' => e = .returned (.bool true) ∧ Below w.heap.size w w' := by
  by_cases h : size < 0 ∨ 4096 < size
  · exact plays_no size h ao n c w
  · obtain ⟨k, rfl⟩ : ∃ k : Nat, size = (k : Int) := ⟨size.toNat, by omega⟩
    exact plays_yes k (by omega) ao n c os w hI hn hl
theorem lanes_any (size : Int) (ao : Option Addr) (n c : Nat) (os : List Opv) (w : World) (hI : ScrIn w ao n os) (hn : n ≤ 1152921504606846976) (hl : ∀ j, j < n → (os.getD j op0).n ≤ 1152921504606846976 ∧ ∀ p ∈ (os.getD j op0).ps, p.length ≤ 4611686018427387904) (hnum : ∀ j, j < n → -9223372036854775808 ≤ (os.getD j op0).num ∧ (os.getD j op0).num ≤ 9223372036854775807) :
    Calls Try.prog 4 #[.int .i64 size, .slice ao n c] w fun e w' => e = .returned (.bool true) ∧ Below w.heap.size w w' := by
  by_cases h : size < 0 ∨ 4096 < size
  · exact lanes_no size h ao n c w
  · obtain ⟨k, rfl⟩ : ∃ k : Nat, size = (k : Int) := ⟨size.toNat, by omega⟩
    exact lanes_yes k (by omega) ao n c os w hI hn hl hnum
end Go.Proofs.Ytdjeacmonlgdhaa
