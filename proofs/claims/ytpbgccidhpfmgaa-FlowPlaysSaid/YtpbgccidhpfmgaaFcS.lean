/- The program's tables, as the statements' walks take them: forms of the contracts. No conditions but those stated. -/
import Derived.Test.YtpbgccidhpfmgaaFwY
import Derived.Laws.Pointers
import Derived.Lib.SmallJoins
namespace Go.Proofs.Ytpbgccidhpfmgaa
open Go Go.RowKit
set_option linter.unusedVariables false
set_option linter.unusedSimpArgs false

abbrev errnoF (n : Int) : Value := .iface 29 (.int .i64 n)
def errF (n : Int) : Value := if n = 0 then .nilIface else errnoF n
/-- A quota that may be. -/
def OkQ (n : Int) : Prop := 0 ≤ n ∧ n ≤ 4096
instance (n : Int) : Decidable (OkQ n) := by unfold OkQ; infer_instance
/-- What tables of the program's answer to: each is a state S of its memory. -/
abbrev TbS := World → Nat → (Nat → Prop) → Nat → Int → Int → List En → Prop
def TTo (S : TbS) (w : World) (B : Nat) (F : Nat → Prop) (p : Nat) (qt qu : Int) (l : List En) (w' : World) : Prop :=
  ∃ F2, S w' B F2 p qt qu l ∧ (∀ k, F2 k → F k ∨ w.heap.size ≤ k) ∧ Tch F w w'
def TNew (S : TbS) (w : World) (qt qu : Int) (e : Ending) (w' : World) : Prop :=
  (((OkQ qt ∧ OkQ qu) ∧ ∃ p F, e = .returned (.tuple #[.pointer (some ⟨p, 0, none⟩), .nilIface]) ∧ S w' w.heap.size F p qt qu []) ∨ (¬ (OkQ qt ∧ OkQ qu) ∧ e = .returned (.tuple #[.pointer none, errnoF 4]))) ∧ Below w.heap.size w w'
def putV (r : Option En × Int × List En) : Value := .tuple #[(r.1.getD en0).val, .bool r.1.isSome, errF r.2.1]
def TPut (S : TbS) (w : World) (B : Nat) (F : Nat → Prop) (p : Nat) (qt qu : Int) (r : Option En × Int × List En) (e : Ending) (w' : World) : Prop :=
  e = .returned (putV r) ∧ TTo S w B F p qt qu r.2.2 w'
def TTch (S : TbS) (w : World) (B : Nat) (F : Nat → Prop) (p : Nat) (qt qu : Int) (r : Bool × List En) (e : Ending) (w' : World) : Prop :=
  e = .returned (.bool r.1) ∧ TTo S w B F p qt qu r.2 w'
def TRem (S : TbS) (w : World) (B : Nat) (F : Nat → Prop) (p : Nat) (qt qu : Int) (r : Nat × List En) (e : Ending) (w' : World) : Prop :=
  e = .returned (.int .i64 (r.1 : Nat)) ∧ TTo S w B F p qt qu r.2 w'
def TExp (S : TbS) (w : World) (B : Nat) (F : Nat → Prop) (p : Nat) (qt qu : Int) (r : List Fl × List En) (e : Ending) (w' : World) : Prop :=
  ∃ F2 a c, e = .returned (.slice a r.1.length c) ∧ w'.ownsRow w.heap.size tyF 5 (.slice a r.1.length c) r.1.length (cellsF r.1) ∧ (∀ k, (Value.slice a r.1.length c).ownBlock = some k → ¬ F2 k) ∧
    S w' B F2 p qt qu r.2 ∧ (∀ k, F2 k → F k ∨ w.heap.size ≤ k) ∧ Tch F w w'
def TAll (S : TbS) (w : World) (B : Nat) (F : Nat → Prop) (p : Nat) (qt qu : Int) (l : List En) (e : Ending) (w' : World) : Prop :=
  ∃ F2 a c, e = .returned (.slice a l.length c) ∧ w'.ownsRow w.heap.size tyE 10 (.slice a l.length c) l.length (cellsE l) ∧ (∀ k, (Value.slice a l.length c).ownBlock = some k → ¬ F2 k) ∧
    S w' B F2 p qt qu l ∧ (∀ k, F2 k → F k ∨ w.heap.size ≤ k) ∧ Tch F w w'
/-- Flows that came in, apart from what is touched. -/
structure FsIn (w : World) (F : Nat → Prop) (a : Option Addr) (n : Nat) (fs : List Fl) : Prop where
  row : InF w a n fs
  far : ∀ b off, a = some ⟨b, off, none⟩ → 0 < n → ¬ F b
  fit : ∀ f ∈ fs, FitF f
def codeN (f : Fl) (now : Int) : Int := if ¬ GoodF f then 9 else if ¬ OkN now then 4 else 5
theorem num11_t (k : Int) (hk : k = 0 ∨ k = 4 ∨ k = 5 ∨ k = 9) (w : World) : Calls Try.prog 16 #[errF k] w fun e w' => e = .returned (.int .i64 k) ∧ w = w' := by
  rcases hk with rfl | rfl | rfl | rfl
  · rw [show errF 0 = Value.nilIface from rfl]
    go_enter Try.func16, Try.ntmps16
    go_wp2
    go_ret
    exact ⟨rfl, rfl⟩
  · have ta : ∀ w : World, (Instr.typeAssert (errnoF 4) 26 29 true).run Try.prog w = .ok (.tuple #[.int .i64 4, .bool true]) w := fun _ => by kernel_rfl
    rw [show errF 4 = errnoF 4 from rfl]
    go_enter Try.func16, Try.ntmps16
    go_wp2
    go_ret
    exact ⟨rfl, rfl⟩
  · have ta : ∀ w : World, (Instr.typeAssert (errnoF 5) 26 29 true).run Try.prog w = .ok (.tuple #[.int .i64 5, .bool true]) w := fun _ => by kernel_rfl
    rw [show errF 5 = errnoF 5 from rfl]
    go_enter Try.func16, Try.ntmps16
    go_wp2
    go_ret
    exact ⟨rfl, rfl⟩
  · have ta : ∀ w : World, (Instr.typeAssert (errnoF 9) 26 29 true).run Try.prog w = .ok (.tuple #[.int .i64 9, .bool true]) w := fun _ => by kernel_rfl
    rw [show errF 9 = errnoF 9 from rfl]
    go_enter Try.func16, Try.ntmps16
    go_wp2
    go_ret
    exact ⟨rfl, rfl⟩
theorem put_code (qu : Int) (f : Fl) (dip ep now : Int) (l : List En) : (putE qu f dip ep now l).2.1 = 0 ∨ (putE qu f dip ep now l).2.1 = 4 ∨ (putE qu f dip ep now l).2.1 = 5 ∨ (putE qu f dip ep now l).2.1 = 9 := by
  unfold putE
  repeat' split
  all_goals simp
end Go.Proofs.Ytpbgccidhpfmgaa
