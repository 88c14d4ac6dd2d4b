/- The program's rings, as the statements' walks take them: forms of the contracts. No conditions but those stated. -/
import Derived.Test.YtkacbeighaccjaaRgM
namespace Go.Proofs.Ytkacbeighaccjaa
open Go Go.RowKit
set_option linter.unusedVariables false
set_option linter.unusedSimpArgs false

theorem Chosen.one {f : Fl} {es : List En} {k k' : Int} (h : Chosen f es k) (h2 : Chosen f es k') : k = k' := by
  obtain ⟨t, h⟩ := h
  obtain ⟨t', h2⟩ := h2
  rcases h with ⟨e, h0⟩ | ⟨h0, h1, hl⟩
  · rcases h2 with ⟨_, h0'⟩ | ⟨_, h1', _⟩
    · rw [h0, h0']
    · rw [e] at h1'; simp at h1'
  · rcases h2 with ⟨e, _⟩ | ⟨_, h1', hl'⟩
    · rw [e] at h1; simp at h1
    · exact congrArg Prod.snd (leW_anti (hl _ h1') (hl' _ h1))
/-- What New and With leave: an error's number z, a ring of these members. -/
def RNw (R : World → Nat → Nat → List Int → Prop) (w : World) (P : Nat) (ms : List Int) (z : Int) (e : Ending) (w' : World) : Prop :=
  ((z = 0 ∧ ∃ r, e = .returned (.tuple #[.pointer (some ⟨r, 0, none⟩), .nilIface]) ∧ R w' r P ms) ∨ (z ≠ 0 ∧ e = .returned (.tuple #[.pointer none, errR z]))) ∧ Below w.heap.size w w'
def eOf (es : List En) (k : Int) : En := if k < 0 then en0 else es.getD k.toNat en0
/-- What Choose leaves. -/
def RCh (w : World) (f : Fl) (es : List En) (e : Ending) (w' : World) : Prop :=
  ∃ k, Chosen f es k ∧ e = .returned (.tuple #[(eOf es k).val, .bool (decide (0 ≤ k))]) ∧ Below w.heap.size w w'
def CkZ (es : List En) (z : Int) : Prop := (OkE es → z = 0) ∧ (¬ OkE es → z = 9)
theorem goodP_z {P : Int} {ms : List Int} {z : Int} (h : GoodP P ms z) : z = 0 ∨ z = 4 ∨ z = 9 := by
  by_cases h1 : OkP P
  · by_cases h2 : OkMs ms
    · exact .inl (h.2.2 h1 h2)
    · exact .inr (.inr (h.2.1 h1 h2))
  · exact .inr (.inl (h.1 h1))
theorem goodP_is (P : Int) (ms : List Int) : ∃ z, GoodP P ms z := by
  by_cases h1 : OkP P
  · by_cases h2 : OkMs ms
    · exact ⟨0, fun h => absurd h1 h, fun _ h => absurd h2 h, fun _ _ => rfl⟩
    · exact ⟨9, fun h => absurd h1 h, fun _ _ => rfl, fun _ h => absurd h h2⟩
  · exact ⟨4, fun _ => rfl, fun h => absurd h h1, fun h => absurd h h1⟩
theorem goodP_zero {P : Int} {ms : List Int} (h : GoodP P ms 0) : OkP P ∧ OkMs ms := by
  by_cases h1 : OkP P
  · by_cases h2 : OkMs ms
    · exact ⟨h1, h2⟩
    · have := h.2.1 h1 h2; simp at this
  · have := h.1 h1; simp at this
theorem OkMs.less {ms : List Int} (h : OkMs ms) (g : List Int) : OkMs (lessI ms g) :=
  ⟨Nat.le_trans (List.length_filter_le _ _) h.1, h.2.1.filter _, fun m hm => h.2.2 m (List.mem_filter.1 hm).1⟩
end Go.Proofs.Ytkacbeighaccjaa
