/- What Make, Flow and TakeFlow answer; the contracts of the document's Flow and of towpathlaw06.large. Conditions: those stated. -/
import Derived.Test.YtbfcgnggcgodhaaMgD
namespace Go.Proofs.Ytbfcgnggcgodhaa
open Go Go.RowKit
set_option linter.unusedVariables false
set_option linter.unusedSimpArgs false

/-- A message in new memory. -/
def GotV (w : World) (m : Mg) (e : Ending) (w' : World) : Prop :=
  ∃ a n c b k d, e = .returned (mval m.kind a n c b k d) ∧ n = m.nums.length ∧ k = m.data.length ∧ w'.ownsRow w.heap.size 3 1 (.slice a n c) n (i64s m.nums) ∧ w'.ownsRow w.heap.size 5 1 (.slice b k d) k (u8s m.data) ∧ Below w.heap.size w w'
/-- Numbers in new memory. -/
def GotI (w : World) (l : List Int) (e : Ending) (w' : World) : Prop :=
  ∃ a n c, e = .returned (.slice a n c) ∧ n = l.length ∧ w'.ownsRow w.heap.size 3 1 (.slice a n c) n (i64s l) ∧ Below w.heap.size w w'
abbrev fv (pr s sp d dp : Int) : Value := .agg #[.int .i64 pr, .int .u32 s, .int .i64 sp, .int .u32 d, .int .i64 dp]
/-- Numbers are a flow's. -/
def TOk (l : List Int) : Prop := 5 ≤ l.length ∧ (0 ≤ l.getD 1 0 ∧ l.getD 1 0 ≤ 4294967295) ∧ (0 ≤ l.getD 3 0 ∧ l.getD 3 0 ≤ 4294967295) ∧ (l.getD 0 0 = 6 ∨ l.getD 0 0 = 17) ∧ (0 ≤ l.getD 2 0 ∧ l.getD 2 0 ≤ 65535) ∧ (0 ≤ l.getD 4 0 ∧ l.getD 4 0 ≤ 65535)
def TOut (l : List Int) (F : Value) (r : List Int) (E : Value) (f : Int) : Prop :=
  (TOk l ∧ F = fv (l.getD 0 0) (l.getD 1 0) (l.getD 2 0) (l.getD 3 0) (l.getD 4 0) ∧ r = l.drop 5 ∧ E = .nilIface ∧ f = 0) ∨ (¬ TOk l ∧ F = fv 0 0 0 0 0 ∧ r = [] ∧ E = errnoM 3 ∧ f = 3)
theorem TOut.some (l : List Int) : ∃ F r E f, TOut l F r E f := by
  by_cases h : TOk l
  · exact ⟨_, _, _, _, .inl ⟨h, rfl, rfl, rfl, rfl⟩⟩
  · exact ⟨_, _, _, _, .inr ⟨h, rfl, rfl, rfl, rfl⟩⟩
/-- A flow, numbers in new memory, an error. -/
def GotT (w : World) (F : Value) (r : List Int) (E : Value) (e : Ending) (w' : World) : Prop :=
  ∃ a n c, e = .returned (.tuple #[F, .slice a n c, E]) ∧ n = r.length ∧ w'.ownsRow w.heap.size 3 1 (.slice a n c) n (i64s r) ∧ Below w.heap.size w w'
theorem large_no (n : Nat) (h : n ≤ 131072) (w : World) : Calls Try.prog 11 #[.int .i64 n] w fun e w' => e = .returned (.bool false) ∧ w = w' := by
  have hd : decide ((131072 : Int) < (n : Int)) = false := decide_eq_false (by omega)
  go_enter Try.func11, Try.ntmps11
  go_wp2
  go_ret
  exact ⟨by simp [hd], rfl⟩
theorem large_yes (n : Nat) (h : 131072 < n) (w : World) : Calls Try.prog 11 #[.int .i64 n] w fun e w' => e = .returned (.bool true) ∧ w = w' := by
  have hd : decide ((131072 : Int) < (n : Int)) = true := decide_eq_true (by omega)
  go_enter Try.func11, Try.ntmps11
  go_wp2
  go_ret
  exact ⟨by simp [hd], rfl⟩
set_option maxRecDepth 100000 in
theorem numM_nil (w : World) : Calls Try.prog 15 #[.nilIface] w fun e w' => e = .returned (.int .i64 0) ∧ w = w' := by
  go_enter Try.func15, Try.ntmps15
  go_wp2
  go_ret
  exact ⟨rfl, rfl⟩
set_option maxRecDepth 100000 in
theorem numM_nine (w : World) : Calls Try.prog 15 #[errnoM 9] w fun e w' => e = .returned (.int .i64 9) ∧ w = w' := by
  have ta : ∀ w : World, (Instr.typeAssert (errnoM 9) 30 48 true).run Try.prog w = .ok (.tuple #[.int .i64 9, .bool true]) w := fun _ => by kernel_rfl
  go_enter Try.func15, Try.ntmps15
  go_wp2
  go_ret
  exact ⟨rfl, rfl⟩
set_option maxRecDepth 100000 in
theorem numM_three (w : World) : Calls Try.prog 15 #[errnoM 3] w fun e w' => e = .returned (.int .i64 3) ∧ w = w' := by
  have ta : ∀ w : World, (Instr.typeAssert (errnoM 3) 30 48 true).run Try.prog w = .ok (.tuple #[.int .i64 3, .bool true]) w := fun _ => by kernel_rfl
  go_enter Try.func15, Try.ntmps15
  go_wp2
  go_ret
  exact ⟨rfl, rfl⟩
theorem num_fout {m : Mg} {R : List Int} {E : Value} {f : Int} (h : FOut m R E f) (w : World) : Calls Try.prog 15 #[E] w fun e w' => e = .returned (.int .i64 f) ∧ w = w' := by
  rcases h with ⟨_, _, rfl, rfl⟩ | ⟨_, _, rfl, rfl⟩
  · exact numM_nil w
  · exact numM_nine w
theorem num_pout {l : List Int} {m : Mg} {E : Value} {f : Int} (h : POut l m E f) (w : World) : Calls Try.prog 15 #[E] w fun e w' => e = .returned (.int .i64 f) ∧ w = w' := by
  rcases h with ⟨_, _, rfl, rfl⟩ | ⟨_, _, rfl, rfl⟩
  · exact numM_nil w
  · exact numM_three w
theorem num_tout {l : List Int} {F : Value} {r : List Int} {E : Value} {f : Int} (h : TOut l F r E f) (w : World) : Calls Try.prog 15 #[E] w fun e w' => e = .returned (.int .i64 f) ∧ w = w' := by
  rcases h with ⟨_, _, _, rfl, rfl⟩ | ⟨_, _, _, rfl, rfl⟩
  · exact numM_nil w
  · exact numM_three w
set_option maxRecDepth 100000 in
theorem refFlow_any (pr s sp d dp : Int) (w : World) (hs : 0 ≤ s ∧ s < 4294967296) (hd : 0 ≤ d ∧ d < 4294967296) :
    Calls Try.prog 29 #[fv pr s sp d dp] w (GotI w [pr, s, sp, d, dp]) := by
  have v1 : ∀ [Inhabited Nat], IntKind.i64.wrap s = s := by intro _; exact IntWalk.i64_in _ (by omega)
  have v2 : ∀ [Inhabited Nat], IntKind.i64.wrap d = d := by intro _; exact IntWalk.i64_in _ (by omega)
  obtain ⟨W, hW⟩ : ∃ W, W = w.alloc (.cells #[.int .i64 pr, .int .u32 s, .int .i64 sp, .int .u32 d, .int .i64 dp] 55) := ⟨_, rfl⟩
  have HB := Lib.hid (show Below w.heap.size w W by rw [hW]; exact bl_al (Below.refl _ _) _)
  have HS : Hid (W.heap.size = w.heap.size + 1) := Lib.hid (by rw [hW]; simp)
  have O := Lib.hid (own_litI W [pr, s, sp, d, dp] #[.int .i64 pr, .int .i64 s, .int .i64 sp, .int .i64 d, .int .i64 dp] rfl 5 w.heap.size rfl HB.out.size (by unfold maxLen; omega))
  have HB2 := Lib.hid (bl_al HB.out (.cells #[.int .i64 pr, .int .i64 s, .int .i64 sp, .int .i64 d, .int .i64 dp] 3))
  rw [HS.out] at O
  rw [hW] at O HB2
  clear hs hd hW HB HS
  go_enter Try.func29, Try.ntmps29
  go_wp2
  go_ret
  exact ⟨_, 5, 5, rfl, rfl, O.out, HB2.out⟩
end Go.Proofs.Ytbfcgnggcgodhaa
