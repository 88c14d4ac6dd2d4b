/- The program's wheels, as the statements' walks take them: forms of the contracts. No conditions but those stated. -/
import Derived.Test.YthoegmcdohppoaaWrD
import Derived.Laws.Pointers
import Derived.Lib.SmallJoins
namespace Go.Proofs.Ythoegmcdohppoaa
open Go Go.RowKit
set_option linter.unusedVariables false
set_option linter.unusedSimpArgs false

abbrev errnoT (n : Int) : Value := .iface 29 (.int .i64 n)
def I64 (n : Int) : Prop := -9223372036854775808 ≤ n ∧ n ≤ 9223372036854775807
/-- A time that a key may have. -/
def OkA (a : Int) : Prop := 0 ≤ a ∧ a ≤ 1099511627776
instance (a : Int) : Decidable (OkA a) := by unfold OkA; infer_instance
def OkS (s : Int) : Prop := 1 ≤ s ∧ s ≤ 1024
instance (s : Int) : Decidable (OkS s) := by unfold OkS; infer_instance
def setR (a : Int) (ks : List Int) (ts : List Wy) : Int × List Wy := if OkA a then (0, putsT a ks ts) else (4, ts)
def errT (n : Int) : Value := if n = 0 then .nilIface else errnoT n
/-- What wheels of the program's answer to: each is a state S of its memory. -/
abbrev WhS := World → Nat → (Nat → Prop) → Nat → List Wy → Prop
def WTo (S : WhS) (w : World) (B : Nat) (F : Nat → Prop) (p : Nat) (ts : List Wy) (w' : World) : Prop :=
  ∃ F2, S w' B F2 p ts ∧ (∀ k, F2 k → F k ∨ w.heap.size ≤ k) ∧ Tch F w w'
def WNew (S : WhS) (w : World) (s : Int) (e : Ending) (w' : World) : Prop :=
  ((OkS s ∧ ∃ p F, e = .returned (.tuple #[.pointer (some ⟨p, 0, none⟩), .nilIface]) ∧ S w' w.heap.size F p []) ∨ (¬ OkS s ∧ e = .returned (.tuple #[.pointer none, errnoT 4]))) ∧ Below w.heap.size w w'
def WSet (S : WhS) (w : World) (B : Nat) (F : Nat → Prop) (p : Nat) (r : Int × List Wy) (e : Ending) (w' : World) : Prop := e = .returned (errT r.1) ∧ WTo S w B F p r.2 w'
def WDue (S : WhS) (w : World) (B : Nat) (F : Nat → Prop) (p : Nat) (now : Int) (ts : List Wy) (e : Ending) (w' : World) : Prop :=
  ∃ F2 a c, e = .returned (.slice a (dueT now ts).length c) ∧ w'.ownsRow w.heap.size 3 1 (.slice a (dueT now ts).length c) (dueT now ts).length (i64s (dueT now ts)) ∧ (∀ k, (Value.slice a (dueT now ts).length c).ownBlock = some k → ¬ F2 k) ∧
    S w' B F2 p (leftT now ts) ∧ (∀ k, F2 k → F k ∨ w.heap.size ≤ k) ∧ Tch F w w'
/-- Keys that came in, apart from what is touched. -/
structure KsIn (w : World) (F : Nat → Prop) (a : Option Addr) (n c : Nat) (ks : List Int) : Prop where
  row : InI w a n c ks
  far : ∀ b off, a = some ⟨b, off, none⟩ → 0 < n → ¬ F b
theorem KsIn.new {w w' : World} {F : Nat → Prop} {a : Option Addr} {n c : Nat} {ks : List Int} (h : InI w a n c ks) (hb : Below w.heap.size w w') (hF : ∀ k, F k → w.heap.size ≤ k) : KsIn w' F a n c ks :=
  ⟨h.below hb, fun b off e hn hf => by
    subst e
    have := hF b hf
    have := block_lt_of_cell (in_cellI h 0 hn)
    simp only at this
    omega⟩
theorem dueT_len (now : Int) (ts : List Wy) : (dueT now ts).length ≤ ts.length := by
  unfold dueT
  rw [List.length_map]
  exact Nat.le_trans (List.length_filter_le _ _) (Nat.le_of_eq (srtW_perm ts).length_eq)
theorem leftT_len (now : Int) (ts : List Wy) : (leftT now ts).length ≤ ts.length := List.length_filter_le _ _
theorem num10_t (k : Int) (hk : k = 0 ∨ k = 4) (w : World) : Calls Try.prog 12 #[errT k] w fun e w' => e = .returned (.int .i64 k) ∧ w = w' := by
  rcases hk with rfl | rfl
  · rw [show errT 0 = Value.nilIface from rfl]
    go_enter Try.func12, Try.ntmps12
    go_wp2
    go_ret
    exact ⟨rfl, rfl⟩
  · have ta : ∀ w : World, (Instr.typeAssert (errnoT 4) 26 29 true).run Try.prog w = .ok (.tuple #[.int .i64 4, .bool true]) w := fun _ => by kernel_rfl
    rw [show errT 4 = errnoT 4 from rfl]
    go_enter Try.func12, Try.ntmps12
    go_wp2
    go_ret
    exact ⟨rfl, rfl⟩
end Go.Proofs.Ythoegmcdohppoaa
