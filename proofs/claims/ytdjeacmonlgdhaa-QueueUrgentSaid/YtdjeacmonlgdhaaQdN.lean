/- Contracts of queue's isSize, empty, New. -/
import Derived.Test.YtdjeacmonlgdhaaQdA
import Derived.Conc.SmallLaws
namespace Go.Proofs.Ytdjeacmonlgdhaa
open Go Go.Conc Go.RowKit
set_option linter.unusedVariables false
set_option linter.unusedSimpArgs false

theorem size_yes (size : Nat) (h : size ≤ 4096) (w : World) : Calls Try.prog 34 #[.int .i64 size] w fun e w' => e = .returned (.bool true) ∧ w = w' := by
  have i0 : (0 : Int) ≤ (size : Int) := by omega
  have i1 : (size : Int) ≤ 4096 := by omega
  go_enter Try.func34, Try.ntmps34
  go_wp2
  go_ret
  exact ⟨rfl, rfl⟩
theorem size_no (size : Int) (h : size < 0 ∨ 4096 < size) (w : World) : Calls Try.prog 34 #[.int .i64 size] w fun e w' => e = .returned (.bool false) ∧ w = w' := by
  by_cases h1 : size < 0
  · clear h
    have i0 : ¬ (0 : Int) ≤ size := by omega
    go_enter Try.func34, Try.ntmps34
    go_wp2
    go_ret
    exact ⟨rfl, rfl⟩
  · have h2 : 4096 < size := by omega
    have i0 : (0 : Int) ≤ size := by omega
    have i1 : ¬ size ≤ 4096 := by omega
    clear h
    go_enter Try.func34, Try.ntmps34
    go_wp2
    go_ret
    exact ⟨rfl, rfl⟩
set_option maxRecDepth 100000 in
theorem empty_t (size : Nat) (h : size ≤ 4096) (w : World) : Calls Try.prog 35 #[.int .i64 size] w fun e w' => ∃ q F, e = .returned (.pointer (some ⟨q, 0, none⟩)) ∧ QSt w' w.heap.size F q size [] [] ∧ Below w.heap.size w w' := by
  obtain ⟨j0', hj0', hy0, hy1, hy2⟩ := info_parts info26
  have hmk := run_makeChan (P := Try.prog) (w := w) (t := 67) Try.underlying67 hj0' .i64 size (by omega) (by rw [hy2]; omega)
  go_enter Try.func35, Try.ntmps35
  go_wp2
  go_ret
  have hb := bl_al (bl_al (Below.refl w.heap.size w) (.chan size #[] false 0 0 false)) (.cells #[.chan (some w.heap.size)] 75)
  refine ⟨w.heap.size + 1, _, rfl, ⟨⟨w.heap.size, 0, 0, fun k => Iff.rfl, ?_, ?_⟩, trivial, List.Pairwise.nil, (fun v hv => by cases hv), fun k hk => ?_, Nat.zero_le _⟩, hb⟩
  · have h9 := cells_new (w.alloc (.chan size #[] false 0 0 false)) [.chan (some w.heap.size)] 75 (0, 0) 0 _ rfl
    rw [show (w.alloc (.chan size #[] false 0 0 false)).heap.size = w.heap.size + 1 by simp] at h9
    exact h9
  · exact ((bl_al (Below.refl (w.alloc (.chan size #[] false 0 0 false)).heap.size _) (.cells #[.chan (some w.heap.size)] 75)).block _ (by simp)).trans (heap_alloc_new w _)
  · simp
    omega
theorem new_q (size : Nat) (h : size ≤ 4096) (w : World) : Calls Try.prog 9 #[.int .i64 size] w fun e w' => ∃ q F, e = .returned (.tuple #[.pointer (some ⟨q, 0, none⟩), .nilIface]) ∧ QSt w' w.heap.size F q size [] [] ∧ Below w.heap.size w w' := by
  have CS := Lib.hid (size_yes size h w)
  have CE := Lib.hid (empty_t size h w)
  clear h
  go_enter Try.func9, Try.ntmps9
  go_wp2_with fail
  refine CS.out.mono ?_
  rintro e w0 ⟨rfl, rfl⟩
  clear CS
  go_wp2_with fail
  refine CE.out.mono ?_
  rintro e w1 ⟨q, F, rfl, h1, b1⟩
  have H1 := Lib.hid h1
  have B1 := Lib.hid b1
  clear h1 b1 CE
  go_wp2
  go_ret2
  exact ⟨q, F, rfl, H1.out, B1.out⟩
theorem new_q_no (size : Int) (h : size < 0 ∨ 4096 < size) (w : World) : Calls Try.prog 9 #[.int .i64 size] w fun e w' => e = .returned (.tuple #[.pointer none, errnoQ 4]) ∧ Below w.heap.size w w' := by
  have CS := Lib.hid (size_no size h w)
  clear h
  go_enter Try.func9, Try.ntmps9
  go_wp2_with fail
  refine CS.out.mono ?_
  rintro e w0 ⟨rfl, rfl⟩
  clear CS
  go_wp2
  go_ret2
  exact ⟨rfl, Below.refl _ _⟩
end Go.Proofs.Ytdjeacmonlgdhaa
