/- Contracts of packet's Flow and of the document's Parse in one form. Conditions: the row came in, of at most 2^62 bytes. -/
import Derived.Test.YtfbmeoiaedlgoaaRdD
import Derived.Test.YtfbmeoiaedlgoaaGenA
import Derived.Test.YtfbmeoiaedlgoaaRefJ
import Derived.Test.YtfbmeoiaedlgoaaUpA
namespace Go.Proofs.Ytfbmeoiaedlgoaa
open Go Go.RowKit
set_option linter.unusedVariables false
set_option linter.unusedSimpArgs false

set_option linter.unusedVariables false
set_option linter.unusedSimpArgs false

def zeroP : Pk := ⟨0, 0, 0, 0, 0, 0, 0, 0, 0, 0, 0, 0, []⟩
/-- What bytes say: a packet, or the zero packet and an error. -/
def Says (l : List Int) (p : Pk) (E : Value) (f : Int) (bb : Bool) : Prop :=
  (Is l ∧ p = dec l ∧ E = .nilIface ∧ f = 0 ∧ bb = true) ∨ (¬ Is l ∧ p = zeroP ∧ E = errno 2 ∧ f = 2 ∧ bb = false)
theorem Says.some (l : List Int) : ∃ p E f bb, Says l p E f bb := by
  by_cases h : Is l
  · exact ⟨_, _, _, _, .inl ⟨h, rfl, rfl, rfl, rfl⟩⟩
  · exact ⟨_, _, _, _, .inr ⟨h, rfl, rfl, rfl, rfl⟩⟩
theorem Says.typed {l : List Int} {p : Pk} {E : Value} {f : Int} {bb : Bool} (h : Says l p E f bb) (hf : fit l) : Typed p := by
  rcases h with ⟨_, rfl, _⟩ | ⟨_, rfl, _⟩
  · exact dec_typed hf
  · exact ⟨by decide, by decide, by decide, by decide, by intro b hb; cases hb⟩
theorem Says.short {l : List Int} {p : Pk} {E : Value} {f : Int} {bb : Bool} (h : Says l p E f bb) : p.data.length ≤ 1480 := by
  rcases h with ⟨h, rfl, _⟩ | ⟨_, rfl, _⟩
  · exact is_short h
  · decide
theorem Says.ok {l : List Int} {p : Pk} {E : Value} {f : Int} {bb : Bool} (h : Says l p E f bb) : (f == 0) = bb := by
  rcases h with ⟨_, _, _, rfl, rfl⟩ | ⟨_, _, _, rfl, rfl⟩ <;> decide
/-- A packet and an error, its Data in new memory. -/
def Got (w : World) (p : Pk) (E : Value) (e : Ending) (w' : World) : Prop :=
  ∃ ao k cp, e = .returned (.tuple #[p.val ao k cp, E]) ∧ k = p.data.length ∧ w'.ownsRow w.heap.size 5 1 (.slice ao k cp) k (u8s p.data) ∧ Below w.heap.size w w'
theorem refParse_t {l : List Int} {p : Pk} {E : Value} {f : Int} {bb : Bool} (h : Says l p E f bb) (a : Option Addr) (n c : Nat) (w : World) (hI : In w a n c l) (hn : n ≤ 4611686018427387904) :
    Calls Try.prog 30 #[.slice a n c] w (Got w p (.int .i64 f)) := by
  refine (refParse_any l a n c w hI hn).mono ?_
  rintro e w' ⟨res, rfl, hr, hb⟩
  rcases h with ⟨hi, rfl, rfl, rfl, rfl⟩ | ⟨hi, rfl, rfl, rfl, rfl⟩
  · rcases hr with ⟨h0, _⟩ | ⟨_, ao, k, cp, rfl, hk, ho⟩
    · exact absurd hi h0
    · exact ⟨ao, k, cp, rfl, hk, ho, hb⟩
  · rcases hr with ⟨_, rfl⟩ | ⟨h0, _⟩
    · exact ⟨none, 0, 0, rfl, rfl, World.ownsRow_nil _ _ _ _, hb⟩
    · exact absurd h0 hi
theorem num_t {l : List Int} {p : Pk} {E : Value} {f : Int} {bb : Bool} (h : Says l p E f bb) (w : World) : Calls Try.prog 13 #[E] w fun e w' => e = .returned (.int .i64 f) ∧ w = w' := by
  rcases h with ⟨hi, rfl, rfl, rfl, rfl⟩ | ⟨hi, rfl, rfl, rfl, rfl⟩
  · exact num_nil w
  · exact num_two w
abbrev zeroFs : Array Value := #[.int .i64 0, .int .u32 0, .int .i64 0, .int .u32 0, .int .i64 0]
theorem read_t {l : List Int} {p : Pk} {E : Value} {f : Int} {bb : Bool} (h : Says l p E f bb) (a : Option Addr) (n c : Nat) (w : World) (hI : In w a n c l) (hn : n ≤ 4611686018427387904) :
    Calls Try.prog 36 #[.slice a n c] w fun e w' => ∃ ao k cp, e = .returned (.tuple #[p.val ao k cp, .bool bb]) ∧ Below w.heap.size w w' := by
  refine (read_any l a n c w hI hn).mono ?_
  rintro e w' ⟨res, rfl, hr, hb⟩
  rcases h with ⟨hi, rfl, rfl, rfl, rfl⟩ | ⟨hi, rfl, rfl, rfl, rfl⟩
  · rcases hr with ⟨h0, _⟩ | ⟨_, ad, k, cp, rfl, _⟩
    · exact absurd hi h0
    · exact ⟨_, k, cp, rfl, hb⟩
  · rcases hr with ⟨_, rfl⟩ | ⟨h0, _⟩
    · exact ⟨none, 0, 0, rfl, hb⟩
    · exact absurd h0 hi
set_option maxRecDepth 100000 in
set_option maxHeartbeats 1000000 in
theorem flow_t {l : List Int} {p : Pk} {E : Value} {f : Int} {bb : Bool} (h : Says l p E f bb) (a : Option Addr) (n c : Nat) (w : World) (hI : In w a n c l) (hn : n ≤ 4611686018427387904) :
    Calls Try.prog 19 #[.slice a n c] w fun e w' => e = .returned (.tuple #[p.flow, .bool bb]) ∧ Below w.heap.size w w' := by
  obtain ⟨R, hR⟩ : ∃ R, w.alloc (.cells zeroFs 44) = R := ⟨_, rfl⟩
  have hB : Below w.heap.size w R := by rw [← hR]; exact bl_al (Below.refl _ _) _
  have hz : R.heap[w.heap.size]? = some (.cells zeroFs 44 (0, 0)) := by rw [← hR]; exact heap_alloc_new _ _
  have HR := Lib.hid hR
  have HB := Lib.hid hB
  have HZ := Lib.hid hz
  have C := Lib.hid (read_t h a n c R (hI.below hB) hn)
  clear hI hn h hR hB hz
  go_enter Try.func19, Try.ntmps19
  go_wp2_with fail
  rw [HR.out]
  refine C.out.mono ?_
  rintro e w1 ⟨ao, k, cp, rfl, hb⟩
  have hz1 : w1.heap[w.heap.size]? = some (.cells zeroFs 44 (0, 0)) := (hb.block _ (lt_of_block HZ.out)).trans HZ.out
  have hzw : (w1.alloc (p.obj ao k cp)).heap[w.heap.size]? = some (.cells zeroFs 44 (0, 0)) := by rw [heap_alloc_old _ _ (lt_of_block hz1)]; exact hz1
  have HB1 := Lib.hid (bl_al (bl_tr HB.out hb) (p.obj ao k cp))
  have hlt := lt_of_block hz1
  obtain ⟨q, hq⟩ : ∃ q, q = w1.heap.size := ⟨_, rfl⟩
  have hpk : PkAt (w1.alloc (p.obj ao k cp)) q p ao k cp := by rw [hq]; exact PkAt.new _ _ _ _ _
  have hne : ¬ w.heap.size = q := by omega
  have hne2 : ¬ q = w.heap.size := by omega
  have HQ := Lib.hid hq
  obtain ⟨X, hX⟩ : ∃ X, X = w1.alloc (p.obj ao k cp) := ⟨_, rfl⟩
  rw [← hX] at hzw HB1 hpk
  have HX := Lib.hid hX
  obtain ⟨x0, x1, x2, x3, x4, x5, x6, x7, x8, x9, x10, x11, x12⟩ := hpk
  have z0 : X.cell? ⟨w.heap.size, 0, none⟩ = some (.int .i64 0) := by rw [cell_of_row X _ _ _ _ _ hzw]; rfl
  have z1 : X.cell? ⟨w.heap.size, 1, none⟩ = some (.int .u32 0) := by rw [cell_of_row X _ _ _ _ _ hzw]; rfl
  have z2 : X.cell? ⟨w.heap.size, 2, none⟩ = some (.int .i64 0) := by rw [cell_of_row X _ _ _ _ _ hzw]; rfl
  have z3 : X.cell? ⟨w.heap.size, 3, none⟩ = some (.int .u32 0) := by rw [cell_of_row X _ _ _ _ _ hzw]; rfl
  have z4 : X.cell? ⟨w.heap.size, 4, none⟩ = some (.int .i64 0) := by rw [cell_of_row X _ _ _ _ _ hzw]; rfl
  have zf := fun o => frozen_of_row X w.heap.size o _ _ hzw
  clear hX hz1 hzw hb hlt hq HZ HB HR
  go_upto_region 2 with fail
  rw [← HX.out, ← HQ.out]
  go_wp2
  refine bodyPost_ret (v := .tuple #[p.flow, .bool bb]) (by simp [results, Try.results19, go_sem, z0, z1, z2, z3, z4]) rfl ⟨rfl, ?_⟩
  iterate 5 (refine Below.setCell ?_ (by first | exact Nat.le_refl _ | simp) _)
  exact HB1.out
theorem own_putU {w : World} {B g cap N : Nat} {l : List Int} (h : Own w B g cap N l) (j : Nat) (x : Int) : Own (w.setCell ⟨g, j, none⟩ (.int .u8 x)) B g cap N (l.set j x) := by
  have h1 := (h.1.stored j (.int .u8 x)).1
  rw [u8s_set] at h1
  exact ⟨h1, by rw [List.length_set]; exact h.2.1, h.2.2⟩
theorem grown_putU (w : World) (g j : Nat) (v : Value) : w.grownBy (w.setCell ⟨g, j, none⟩ v) (some g) :=
  ⟨rfl, rfl, rfl, by simp, fun k _ hne => Below.heap_setCell w ⟨g, j, none⟩ v k (fun e => hne (by rw [e]))⟩
end Go.Proofs.Ytfbmeoiaedlgoaa
