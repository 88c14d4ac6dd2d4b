/- A flow, its bytes and its number, plainly. No conditions. -/
import Derived.Test.YtpbgccidhpfmgaaGenB
namespace Go.Proofs.Ytpbgccidhpfmgaa
open Go Go.RowKit
set_option linter.unusedVariables false
set_option linter.unusedSimpArgs false

/-- A flow's five numbers. -/
structure Fl where
  p : Int
  s : Int
  sp : Int
  d : Int
  dp : Int
abbrev Fl.val (f : Fl) : Value := .agg #[.int .i64 f.p, .int .u32 f.s, .int .i64 f.sp, .int .u32 f.d, .int .i64 f.dp]

/-- A flow lies in a block. -/
def FlAt (w : World) (b : Nat) (f : Fl) : Prop :=
  w.cell? ⟨b, 0, none⟩ = some (.int .i64 f.p) ∧ w.cell? ⟨b, 1, none⟩ = some (.int .u32 f.s) ∧ w.cell? ⟨b, 2, none⟩ = some (.int .i64 f.sp) ∧ w.cell? ⟨b, 3, none⟩ = some (.int .u32 f.d) ∧ w.cell? ⟨b, 4, none⟩ = some (.int .i64 f.dp)
abbrev Fl.obj (f : Fl) : Obj := .cells #[.int .i64 f.p, .int .u32 f.s, .int .i64 f.sp, .int .u32 f.d, .int .i64 f.dp] 38
theorem flAt_new (w : World) (f : Fl) : FlAt (w.alloc f.obj) w.heap.size f := by simp [FlAt, go_sem]
theorem flAt_below {w w' : World} {b : Nat} {f : Fl} (h : FlAt w b f) (hB : Below w.heap.size w w') (hb : b < w.heap.size) : FlAt w' b f := by
  unfold FlAt at *
  rw [hB.cell (p := ⟨b, 0, none⟩) hb, hB.cell (p := ⟨b, 1, none⟩) hb, hB.cell (p := ⟨b, 2, none⟩) hb, hB.cell (p := ⟨b, 3, none⟩) hb, hB.cell (p := ⟨b, 4, none⟩) hb]
  exact h
/-- A byte of an address. -/
def byteAt (a : Int) (k : Nat) : Int := if k = 0 then a / 16777216 else if k = 1 then a / 65536 % 256 else if k = 2 then a / 256 % 256 else a % 256
theorem byteAt_fits {a : Int} (a0 : 0 ≤ a) (a1 : a < 4294967296) (k : Nat) : 0 ≤ byteAt a k ∧ byteAt a k < 256 := by
  unfold byteAt
  repeat' split
  all_goals omega
def four (a : Int) (k : Nat) : List Int := (List.range k).map (byteAt a)
theorem four_succ (a : Int) (k : Nat) : four a (k + 1) = four a k ++ [byteAt a k] := by simp [four, List.range_succ]
/-- A flow's bytes. -/
def bytesF (f : Fl) : List Int := [f.p % 256] ++ four f.s 4 ++ four f.d 4 ++ [f.sp / 256 % 256, f.sp % 256, f.dp / 256 % 256, f.dp % 256]
def stepH (h b : Int) : Int := IntKind.u64.wrap (bits .xor .u64 h b * 1099511628211)
def startH (s : Int) : Int := bits .xor .u64 s 14695981039346656037
def finH (h : Int) : Int := bits .xor .u64 (IntKind.u64.wrap (bits .xor .u64 h (h / 4294967296) * 11400714819323198485)) (IntKind.u64.wrap (bits .xor .u64 h (h / 4294967296) * 11400714819323198485) / 536870912)
/-- A flow's number. -/
def hashF (s : Int) (f : Fl) : Int := finH ((bytesF f).foldl stepH (startH s))
theorem bytes_len (f : Fl) : (bytesF f).length = 13 := rfl
theorem bytes_fit (f : Fl) (f1 : 0 ≤ f.s ∧ f.s < 4294967296) (f3 : 0 ≤ f.d ∧ f.d < 4294967296) : ∀ b ∈ bytesF f, 0 ≤ b ∧ b < 256 := by
  intro b hb
  unfold bytesF four at hb
  simp only [List.mem_append, List.mem_map, List.mem_range, List.mem_cons, List.not_mem_nil, or_false] at hb
  rcases hb with ((rfl | ⟨k, _, rfl⟩) | ⟨k, _, rfl⟩) | rfl | rfl | rfl | rfl
  · omega
  · exact byteAt_fits f1.1 f1.2 k
  · exact byteAt_fits f3.1 f3.2 k
  all_goals omega
theorem ret_int {k : IntKind} {a b : Int} (h : a = b) : Ending.returned (.int k a) = .returned (.int k b) := by rw [h]

end Go.Proofs.Ytpbgccidhpfmgaa
