/- Contract of towpathnum.Over. Conditions: the row is the call's own, of at most 2^62 bytes. -/
import Derived.Test.YtpbgccidhpfmgaaGenB
import Derived.LoopTactic
namespace Go.Proofs.Ytpbgccidhpfmgaa
open Go Go.RowKit
set_option linter.unusedVariables false
set_option linter.unusedSimpArgs false

theorem own_putU {w : World} {B g cap N : Nat} {l : List Int} (h : Own w B g cap N l) (j : Nat) (x : Int) : Own (w.setCell ⟨g, j, none⟩ (.int .u8 x)) B g cap N (l.set j x) := by
  have h1 := (h.1.stored j (.int .u8 x)).1
  rw [u8s_set] at h1
  exact ⟨h1, by rw [List.length_set]; exact h.2.1, h.2.2⟩
theorem grown_putU (w : World) (g j : Nat) (v : Value) : w.grownBy (w.setCell ⟨g, j, none⟩ v) (some g) :=
  ⟨rfl, rfl, rfl, by simp, fun k _ hne => Below.heap_setCell w ⟨g, j, none⟩ v k (fun e => hne (by rw [e]))⟩
set_option maxRecDepth 100000 in
set_option maxHeartbeats 400000 in
theorem over_any (B g cap n N : Nat) (L : List Int) (w : World) (hO : Own w B g cap N L) (hn : n ≤ N) (hb : n ≤ 4611686018427387904) (c : Nat) :
    Calls Try.prog 38 #[.slice (some ⟨g, 0, none⟩) n c] w fun e w' => e = .returned (.tuple #[]) ∧ w.grownBy w' (some g) := by
  have HO := Lib.hid hO
  have HN := Lib.hid hn
  clear hO hn
  go_enter Try.func38, Try.ntmps38
  go_wp2
  go_loopw [5] (fun i wr => ∃ (j : Nat) (M : List Int), j ≤ n ∧ i = .int .i64 j ∧ Hid (Own wr B g cap N M) ∧ Hid (w.grownBy wr (some g))) (fun i _ => n - (intOf i).toNat)
  case atStart => exact ⟨0, L, by omega, rfl, HO, Lib.hid (World.grownBy.refl _ _)⟩
  case round =>
    obtain ⟨j, M, hj, rfl, hM, hG⟩ := hrel
    by_cases hlt : j < n
    · have hjM : j < M.length := by rw [hM.out.2.1]; have := HN.out; omega
      have hcell := (hM.out.1.cellAt j (by have := HN.out; omega)).trans (u8s_at hjM)
      have hfr := hM.out.1.frozenAt j
      obtain ⟨x, hx⟩ : ∃ x, x = M.getD j 0 := ⟨_, rfl⟩
      rw [← hx] at hcell
      clear hx hjM
      go_wp2
      go_roundw
      case rel => exact ⟨j + 1, _, by omega, by go_num, Lib.hid (own_putU hM.out j _), Lib.hid (hG.out.trans (grown_putU wr g j _))⟩
      case measure => simp [intOf]; omega
    · go_wp2
      go_end0
      exact ⟨rfl, hG.out⟩
end Go.Proofs.Ytpbgccidhpfmgaa
