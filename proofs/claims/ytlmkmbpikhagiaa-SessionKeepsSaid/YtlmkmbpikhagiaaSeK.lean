/- The body of SessionKeeps, and what came in.
 Conditions: those stated. -/
import Derived.Test.YtlmkmbpikhagiaaHoB
import Derived.Test.YtlmkmbpikhagiaaO18
namespace Go.Proofs.Ytlmkmbpikhagiaa
open Go Go.RowKit Go.Lib Go.ChangeShapes Go.WideShapes
set_option linter.unusedVariables false
set_option linter.unusedSimpArgs false

theorem cellsKe : Try.prog.cellsOf 68 = 5 := by kernel_rfl
theorem cells23 : Try.prog.cellsOf 44 = 1 := by kernel_rfl
theorem u32_wf {n : Int} (h : (Lit.int .u32 n).wf = true) : 0 ≤ n ∧ n < 4294967296 := by
  have e : 0 ≤ n ∧ n ≤ 4294967295 := by simpa [Lit.wf, IntKind.min, IntKind.max, IntKind.signed, IntKind.bits] using h
  omega
set_option maxRecDepth 100000 in
theorem open_keep {H : Type} {enc : TypeId × Value → H} {W : World} {r : Reach} {b0 : Nat} {v : Value} {d : DataW H} {ps : List MemPlace}
    (hv : Value.okWide Try.prog W r b0 68 v) (h : DataW.Trod enc Try.prog W 0 (fun _ => true) true 68 v d ps) :
    ∃ x0 x1 x2 x3 x4 : Int, v = .agg #[.int .i64 x0, .int .i64 x1, .int .i64 x2, .int .i64 x3, .int .u32 x4] ∧ i64c x0 ∧ i64c x1 ∧ i64c x2 ∧ i64c x3 ∧ 0 ≤ x4 ∧ x4 < 4294967296 := by
  obtain ⟨⟨l⟩, rfl, hsz⟩ := okWide_struct Try.underlying68 hv
  rw [cellsKe] at hsz
  obtain ⟨fuel, hf⟩ := h
  obtain ⟨xs, n, _, hx, _, hlen, hg⟩ := DataW.trod_struct Try.underlying68 hf
  match l, hsz with
  | [c0, c1, c2, c3, c4], _ =>
    match xs, hlen with
    | [y0, y1, y2, y3, y4], _ =>
      have g0 : DataW.trod enc Try.prog W 0 (fun _ => true) true n 3 [c0] = some y0 := by simpa [Value.cells, cells3, cells23] using hg 0 _ rfl
      have g1 : DataW.trod enc Try.prog W 0 (fun _ => true) true n 3 [c1] = some y1 := by simpa [Value.cells, cells3, cells23] using hg 1 _ rfl
      have g2 : DataW.trod enc Try.prog W 0 (fun _ => true) true n 3 [c2] = some y2 := by simpa [Value.cells, cells3, cells23] using hg 2 _ rfl
      have g3 : DataW.trod enc Try.prog W 0 (fun _ => true) true n 3 [c3] = some y3 := by simpa [Value.cells, cells3, cells23] using hg 3 _ rfl
      have g4 : DataW.trod enc Try.prog W 0 (fun _ => true) true n 44 [c4] = some y4 := by simpa [Value.cells, cells3, cells23] using hg 4 _ rfl
      obtain ⟨z0, e0, _, w0⟩ := DataW.trod_int Try.underlying3 g0
      obtain ⟨z1, e1, _, w1⟩ := DataW.trod_int Try.underlying3 g1
      obtain ⟨z2, e2, _, w2⟩ := DataW.trod_int Try.underlying3 g2
      obtain ⟨z3, e3, _, w3⟩ := DataW.trod_int Try.underlying3 g3
      obtain ⟨z4, e4, _, w4⟩ := DataW.trod_int Try.underlying44 g4
      simp only [List.cons.injEq, and_true] at e0 e1 e2 e3 e4
      subst e0 e1 e2 e3 e4
      exact ⟨z0, z1, z2, z3, z4, rfl, i64c_wf w0, i64c_wf w1, i64c_wf w2, i64c_wf w3, (u32_wf w4).1, (u32_wf w4).2⟩
set_option maxRecDepth 100000 in
set_option maxHeartbeats 2000000 in
theorem sessionKeeps_t (x0 x1 x2 x3 x4 : Int) (w : World) (h0 : i64c x0) (h1 : i64c x1) (h2 : i64c x2) (h3 : i64c x3) (h4 : 0 ≤ x4 ∧ x4 < 4294967296) :
    Calls Try.prog 5 #[.agg #[.int .i64 x0, .int .i64 x1, .int .i64 x2, .int .i64 x3, .int .u32 x4]] w fun e w' => e = .returned (.bool true) ∧ Below w.heap.size w w' := by
  obtain ⟨W, hW⟩ : ∃ W, W = w.alloc (.cells #[.int .i64 x0, .int .i64 x1, .int .i64 x2, .int .i64 x3, .int .u32 x4] 68) := ⟨_, rfl⟩
  have hb : Below w.heap.size w W := by rw [hW]; exact bl_al (Below.refl _ _) _
  have hp : W.heap[w.heap.size]? = some (.cells #[.int .i64 x0, .int .i64 x1, .int .i64 x2, .int .i64 x3, .int .u32 x4] 68 (0, 0)) := by rw [hW]; exact heap_alloc_new _ _
  obtain ⟨p, hpe⟩ : ∃ p, p = w.heap.size := ⟨_, rfl⟩
  rw [← hpe] at hp
  have CH := Lib.hid (holds_t x0 x1 x2 x3 x4 W h0 h1 h2 h3 h4)
  have r0 : W.cell? ⟨p, 0, none⟩ = some (.int .i64 x0) := by rw [cell_of_row W p _ _ _ _ hp]; rfl
  have r1 : W.cell? ⟨p, 1, none⟩ = some (.int .i64 x1) := by rw [cell_of_row W p _ _ _ _ hp]; rfl
  have r2 : W.cell? ⟨p, 2, none⟩ = some (.int .i64 x2) := by rw [cell_of_row W p _ _ _ _ hp]; rfl
  have r3 : W.cell? ⟨p, 3, none⟩ = some (.int .i64 x3) := by rw [cell_of_row W p _ _ _ _ hp]; rfl
  have r4 : W.cell? ⟨p, 4, none⟩ = some (.int .u32 x4) := by rw [cell_of_row W p _ _ _ _ hp]; rfl
  have HW := Lib.hid hW
  have HB := Lib.hid hb
  have HPE := Lib.hid hpe
  clear hW hb hp hpe h0 h1 h2 h3 h4
  go_enter Try.func5, Try.ntmps5
  go_upto_region 1 with fail
  rw [← HPE.out, ← HW.out]
  go_wp2_with fail
  refine CH.out.mono ?_
  rintro e w1 ⟨rfl, hb1⟩
  have HE := Lib.hid (bl_tr HB.out hb1)
  clear hb1
  go_wp2_with fail
  exact bodyPost_ret (v := .bool true) (by simp [results, Try.results5, go_sem]) rfl ⟨rfl, HE.out⟩
end Go.Proofs.Ytlmkmbpikhagiaa
