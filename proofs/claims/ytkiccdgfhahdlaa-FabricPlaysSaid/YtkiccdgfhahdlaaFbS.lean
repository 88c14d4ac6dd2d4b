/- The program's fabric, as the statements' walks take it. No conditions but those stated. -/
import Derived.Test.YtkiccdgfhahdlaaLkB
import Derived.Test.YtkiccdgfhahdlaaRfB
import Derived.Test.YtkiccdgfhahdlaaFsM
namespace Go.Proofs.Ytkiccdgfhahdlaa
open Go Go.RowKit
set_option linter.unusedVariables false
set_option linter.unusedSimpArgs false

abbrev errnoF (n : Int) : Value := .iface 59 (.int .i64 n)
def errF (n : Nat) : Value := if n = 0 then .nilIface else errnoF n
abbrev FTo (w : World) (B : Nat) (F : Nat → Prop) (f : Nat) (ls : List Lt) (last : Nat) (F2 : Nat → Prop) (w' : World) : Prop := FSt w' B F2 f ls last ∧ (∀ k, F2 k → F k ∨ w.heap.size ≤ k) ∧ Tch F w w'
/-- What Send and Copy leave. -/
def FSnt (w : World) (B : Nat) (F : Nat → Prop) (f : Nat) (r : Nat × Nat × List Lt × Nat) (e : Ending) (w' : World) : Prop :=
  e = .returned (.tuple #[.int .i64 r.1, errF r.2.1]) ∧ ∃ F2, FTo w B F f r.2.2.1 r.2.2.2 F2 w'
/-- The letter that Nth and Take answer, an error's number, what is left behind Take. -/
def nthR (ls : List Lt) (n : Int) : Lt × Nat := if ls = [] then (lt0, 6) else (ls.getD (plc n ls.length) lt0, 0)
def leftR (ls : List Lt) (n : Int) : List Lt := ls.eraseIdx (plc n ls.length)
/-- What Nth leaves. -/
def FNth (w : World) (r : Lt × Nat) (e : Ending) (w' : World) : Prop :=
  ∃ v, e = .returned (.tuple #[r.1.val v, errF r.2]) ∧ w'.ownsRow w.heap.size 5 1 v r.1.bs.length (u8s r.1.bs) ∧ Below w.heap.size w w'
/-- What Take leaves. -/
def FTke (w : World) (B : Nat) (F : Nat → Prop) (f : Nat) (r : Lt × Nat) (ls : List Lt) (last : Nat) (e : Ending) (w' : World) : Prop :=
  ∃ v F2, e = .returned (.tuple #[r.1.val v, errF r.2]) ∧ w'.ownsRow B 5 1 v r.1.bs.length (u8s r.1.bs) ∧ (∀ k, v.ownBlock = some k → ¬ F2 k ∧ (F k ∨ w.heap.size ≤ k)) ∧ FTo w B F f ls last F2 w'
/-- What Waiting leaves. -/
def FWtg (w : World) (ls : List Lt) (e : Ending) (w' : World) : Prop :=
  ∃ a c vs, e = .returned (.slice a ls.length c) ∧ w'.ownsRow w.heap.size tyL 5 (.slice a ls.length c) ls.length (cellsL ls vs) ∧ Rws w' w.heap.size vs (ls.map (·.bs)) ∧ vs.Pairwise Aprt ∧ Below w.heap.size w w'
/-- Numbers of nodes are ints. -/
def I64 (n : Int) : Prop := -9223372036854775808 ≤ n ∧ n ≤ 9223372036854775807
theorem putR_len {ls : List Lt} {last : Nat} {l : Lt} (h : ls.length ≤ 4096) : (putR ls last l).2.2.1.length ≤ 4096 ∧ (putR ls last l).2.2.2 ≤ last + 1 := by
  unfold putR
  split
  · exact ⟨h, Nat.le_succ _⟩
  · simp
    omega
theorem sendR_len {ls : List Lt} {last : Nat} {frm dst : Int} {ctl : Bool} {bs : List Int} (h : ls.length ≤ 4096) : (sendR ls last frm dst ctl bs).2.2.1.length ≤ 4096 ∧ (sendR ls last frm dst ctl bs).2.2.2 ≤ last + 1 := by
  unfold sendR
  split
  · exact putR_len h
  · exact ⟨h, Nat.le_succ _⟩
theorem copyR_len {ls : List Lt} {last : Nat} {n : Int} (h : ls.length ≤ 4096) : (copyR ls last n).2.2.1.length ≤ 4096 ∧ (copyR ls last n).2.2.2 ≤ last + 1 := by
  unfold copyR
  split
  · exact ⟨h, Nat.le_succ _⟩
  · exact putR_len h
theorem leftR_len {ls : List Lt} {n : Int} (h : ls.length ≤ 4096) : (leftR ls n).length ≤ 4096 := by
  unfold leftR
  have := List.length_eraseIdx_le ls (plc n ls.length)
  omega
end Go.Proofs.Ytkiccdgfhahdlaa
