/- Contract of the document's packet Parse, its parts: two bytes as a number; what is no packet by its length or its protocol. Conditions: the row came in, of at most 2^62 bytes. -/
import Derived.Test.YtfbmeoiaedlgoaaRefG
import Derived.Test.YtfbmeoiaedlgoaaRdC
import Derived.Deep.QuietTactic
import Derived.BigQuiet
namespace Go.Proofs.Ytfbmeoiaedlgoaa
open Go Go.RowKit
set_option linter.unusedVariables false
set_option linter.unusedSimpArgs false

set_option maxRecDepth 100000 in
theorem at_any (l : List Int) (b off n c i : Nat) (I : Int) (hI : I = (i : Int)) (w : World) (hin : In w (some ⟨b, off, none⟩) n c l) (hn : n ≤ 4611686018427387904) (hi : i + 1 < n) :
    Calls Try.prog 46 #[.slice (some ⟨b, off, none⟩) n c, .int .i64 I] w fun e w' => e = .returned (.int .i64 (n2 l i)) ∧ w' = w.drew := by
  subst hI
  have c0 := in_cell hin i (by omega)
  have c1 := in_cell hin (i + 1) hi
  have f0 := getD_fit hin.fit i
  have f1 := getD_fit hin.fit (i + 1)
  have HV : Hid (n2 l i = 256 * l.getD i 0 + l.getD (i + 1) 0) := Lib.hid rfl
  obtain ⟨x, hx⟩ : ∃ x, x = l.getD i 0 := ⟨_, rfl⟩
  obtain ⟨y, hy⟩ : ∃ y, y = l.getD (i + 1) 0 := ⟨_, rfl⟩
  rw [← hx] at c0 f0 HV
  rw [← hy] at c1 f1 HV
  obtain ⟨z, hz⟩ : ∃ z, z = n2 l i := ⟨_, rfl⟩
  rw [← hz] at HV
  rw [← hz]
  obtain ⟨a0, a1⟩ := f0
  obtain ⟨b0, b1⟩ := f1
  have v0 : IntKind.i64.wrap x = x := IntWalk.i64_in _ (by omega)
  have v1 : IntKind.i64.wrap y = y := IntWalk.i64_in _ (by omega)
  have v2 : IntKind.i64.wrap (256 * x) = 256 * x := IntWalk.i64_in _ (by omega)
  have v3 : IntKind.i64.wrap (256 * x + y) = 256 * x + y := IntWalk.i64_in _ (by omega)
  have v4 : IntKind.i64.wrap ((i : Int) + 1) = ((i + 1 : Nat) : Int) := by rw [IntWalk.i64_in _ (by omega)]; omega
  have i0 : (i : Int) < (n : Int) := by omega
  have i1 : ((i + 1 : Nat) : Int) < (n : Int) := by omega
  clear hx hy hz hin
  go_enter Try.func46, Try.ntmps46
  go_wp2
  go_region_with (fail)
  all_goals
    go_wp2
    go_ret
    exact ⟨by rw [HV.out]; rfl, rfl⟩
end Go.Proofs.Ytfbmeoiaedlgoaa
