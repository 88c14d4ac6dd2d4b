/- Contract of towpathlaw09.RingHolds: it returns true. Conditions: the ends came in; the flow's addresses fit their kinds. -/
import Derived.Test.YtkacbeighaccjaaRgZ
namespace Go.Proofs.Ytkacbeighaccjaa
open Go Go.RowKit
set_option linter.unusedVariables false
set_option linter.unusedSimpArgs false

abbrev yvS (f : Fl) (a : Option Addr) (n c : Nat) (out grow : Int) : Value := .agg #[.int .i64 f.p, .int .u32 f.s, .int .i64 f.sp, .int .u32 f.d, .int .i64 f.dp, .slice a n c, .int .i64 out, .int .i64 grow]
abbrev yoS (f : Fl) (a : Option Addr) (n c : Nat) (out grow : Int) : Obj := .cells #[.int .i64 f.p, .int .u32 f.s, .int .i64 f.sp, .int .u32 f.d, .int .i64 f.dp, .slice a n c, .int .i64 out, .int .i64 grow] 59
theorem yoS_at (w : World) (f : Fl) (a : Option Addr) (n c : Nat) (out grow : Int) : ∀ j, j < 8 → (w.alloc (yoS f a n c out grow)).cell? ⟨w.heap.size, j, none⟩ = #[Value.int .i64 f.p, .int .u32 f.s, .int .i64 f.sp, .int .u32 f.d, .int .i64 f.dp, .slice a n c, .int .i64 out, .int .i64 grow][j]? := fun j _ =>
  cell_of_row _ _ j _ _ _ (heap_alloc_new w (yoS f a n c out grow))
set_option maxRecDepth 100000 in
theorem ringHolds_t (f : Fl) (es : List En) (out grow : Int) (a : Option Addr) (n c : Nat) (w : World) (hI : InE w a n c es) (hn : n ≤ 4611686018427387904) (hf : TyF f) (ho : I64 out) (hg : I64 grow) :
    Calls Try.prog 7 #[yvS f a n c out grow] w fun e w' => e = .returned (.bool true) ∧ Below w.heap.size w w' := by
  have hA := yoS_at w f a n c out grow
  obtain ⟨W, hW⟩ : ∃ W, W = w.alloc (yoS f a n c out grow) := ⟨_, rfl⟩
  rw [← hW] at hA
  have hb : Below w.heap.size w W := by rw [hW]; exact bl_al (Below.refl _ _) _
  have CO := Lib.hid (stays_t f es out grow a n c W (hI.below hb) hn hf ho hg)
  unfold Fl.val at CO
  obtain ⟨q, hq⟩ : ∃ q, q = w.heap.size := ⟨_, rfl⟩
  rw [← hq] at hA
  have x0 := hA 0 (by omega)
  have x1 := hA 1 (by omega)
  have x2 := hA 2 (by omega)
  have x3 := hA 3 (by omega)
  have x4 := hA 4 (by omega)
  have x5 := hA 5 (by omega)
  have x6 := hA 6 (by omega)
  have x7 := hA 7 (by omega)
  simp only [List.getElem?_toArray, List.getElem?_cons_zero, List.getElem?_cons_succ] at x0 x1 x2 x3 x4 x5 x6 x7
  have HB := Lib.hid hb
  have HW := Lib.hid (And.intro hW hq)
  clear hI hb hW hq hn hf ho hg hA
  go_enter Try.func7, Try.ntmps7
  go_upto_region 1 with fail
  rw [← HW.out.1, ← HW.out.2]
  go_wp2_with fail
  refine CO.out.mono ?_
  rintro e w1 ⟨rfl, hb⟩
  have HB1 := Lib.hid (bl_tr HB.out hb)
  clear hb CO
  go_wp2
  go_ret
  exact ⟨rfl, HB1.out⟩
end Go.Proofs.Ytkacbeighaccjaa
