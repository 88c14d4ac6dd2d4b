/- The program's isEnd. Condition: the end's numbers fit their kinds. -/
import Derived.Test.YtkacbeighaccjaaEnM
import Derived.Test.YtkacbeighaccjaaHmA
import Derived.Deep.CutRange
namespace Go.Proofs.Ytkacbeighaccjaa
open Go Go.RowKit
set_option linter.unusedVariables false
set_option linter.unusedSimpArgs false

def En.obj (e : En) : Obj := .cells #[.int .u32 e.dip, .int .i64 e.port, .int .i64 e.wt] tyE
theorem enAt_new (w : World) (e : En) : (w.alloc e.obj).cell? ⟨w.heap.size, 0, none⟩ = some (.int .u32 e.dip) ∧ (w.alloc e.obj).cell? ⟨w.heap.size, 1, none⟩ = some (.int .i64 e.port) ∧ (w.alloc e.obj).cell? ⟨w.heap.size, 2, none⟩ = some (.int .i64 e.wt) := by
  simp [En.obj, go_sem]
set_option maxRecDepth 100000 in
theorem isEnd_c (e : En) (w : World) (ht : TyEn e) (z : Bool) (hz : z = true ↔ GoodE e) :
    Calls Try.prog 46 #[e.val] w fun r w' => r = .returned (.bool z) ∧ Below w.heap.size w w' := by
  obtain ⟨W, hW⟩ : ∃ W, W = w.alloc e.obj := ⟨_, rfl⟩
  have hA := enAt_new w e
  rw [← hW] at hA
  have HBW : Hid (Below w.heap.size w W) := Lib.hid (by rw [hW]; exact bl_al (Below.refl _ _) _)
  have HLW : Hid (w.heap.size < W.heap.size) := Lib.hid (by rw [hW]; simp)
  obtain ⟨q, hq⟩ : ∃ q, q = w.heap.size := ⟨_, rfl⟩
  rw [← hq] at hA HLW
  have HW := Lib.hid (And.intro hW hq)
  obtain ⟨d, p, t⟩ := e
  obtain ⟨c0, c1, c2⟩ := hA
  have HT := Lib.hid ht.1
  have HG := Lib.hid (And.intro hz.1 hz.2)
  clear hW hq ht hz
  have HOK := Lib.hid (fun h => home_ok d h W)
  have HNO := Lib.hid (fun h => home_no d HT.out.1 HT.out.2 h W)
  by_cases qd : IsDip d
  · have CH := Lib.hid (HOK.out qd)
    have HQ := Lib.hid qd
    clear qd HOK HNO
    go_enter Try.func46, Try.ntmps46
    go_upto_region 1 with fail
    rw [show w.alloc (.cells #[.int .u32 d, .int .i64 p, .int .i64 t] tyE) = W from HW.out.1.symm, ← HW.out.2]
    go_wp2_with fail
    refine CH.out.mono ?_
    rintro r w1 ⟨rfl, hb⟩
    have HB := Lib.hid (HBW.out.trans (hb.mono HBW.out.size))
    have d1 := (hb.cell (p := ⟨q, 1, none⟩) (block_lt_of_cell c1)).trans c1
    have d2 := (hb.cell (p := ⟨q, 2, none⟩) (block_lt_of_cell c2)).trans c2
    clear hb CH c0 c1 c2
    by_cases q1 : p < 0
    · have HZ : Hid (z = false) := Lib.hid (Bool.eq_false_iff.2 (fun h => by have := (HG.out.1 h).2.1; simp only at this; omega))
      go_wp2
      go_ret
      exact ⟨by rw [HZ.out]; rfl, HB.out⟩
    by_cases q2 : 65535 < p
    · have HZ : Hid (z = false) := Lib.hid (Bool.eq_false_iff.2 (fun h => by have := (HG.out.1 h).2.1; simp only at this; omega))
      go_wp2
      go_ret
      exact ⟨by rw [HZ.out]; rfl, HB.out⟩
    by_cases q3 : t < 1
    · have HZ : Hid (z = false) := Lib.hid (Bool.eq_false_iff.2 (fun h => by have := (HG.out.1 h).2.2; simp only at this; omega))
      go_wp2
      go_ret
      exact ⟨by rw [HZ.out]; rfl, HB.out⟩
    by_cases q4 : 16 < t
    · have HZ : Hid (z = false) := Lib.hid (Bool.eq_false_iff.2 (fun h => by have := (HG.out.1 h).2.2; simp only at this; omega))
      go_wp2
      go_ret
      exact ⟨by rw [HZ.out, show decide (t ≤ 16) = false from decide_eq_false (by omega)]; rfl, HB.out⟩
    have HZ : Hid (z = true) := Lib.hid (HG.out.2 ⟨HQ.out, ⟨by simp only; omega, by simp only; omega⟩, by simp only; omega, by simp only; omega⟩)
    go_wp2
    go_ret
    exact ⟨by rw [HZ.out]; rfl, HB.out⟩
  · have CH := Lib.hid (HNO.out qd)
    have HZ : Hid (z = false) := Lib.hid (Bool.eq_false_iff.2 (fun h => qd (HG.out.1 h).1))
    clear qd HOK HNO
    go_enter Try.func46, Try.ntmps46
    go_upto_region 1 with fail
    rw [show w.alloc (.cells #[.int .u32 d, .int .i64 p, .int .i64 t] tyE) = W from HW.out.1.symm, ← HW.out.2]
    go_wp2_with fail
    refine CH.out.mono ?_
    rintro r w1 ⟨rfl, hb⟩
    have HB := Lib.hid (HBW.out.trans (hb.mono HBW.out.size))
    clear hb CH c0 c1 c2
    go_wp2
    go_ret
    exact ⟨by rw [HZ.out]; rfl, HB.out⟩
/-- The closure of Check: an end with this one's machine. -/
theorem twin_c (e : En) (d : Int) (g : Nat) (w : World) (hc : w.cell? ⟨g, 0, none⟩ = some (.int .u32 d)) :
    Calls Try.prog 45 #[e.val, .pointer (some ⟨g, 0, none⟩)] w fun r w' => r = .returned (.bool (e.dip == d)) ∧ Below w.heap.size w w' := by
  have hl := block_lt_of_cell hc
  have hA := (enAt_new w e).1
  have hc2 : (w.alloc e.obj).cell? ⟨g, 0, none⟩ = some (.int .u32 d) := ((bl_al (Below.refl _ _) _).cell (p := ⟨g, 0, none⟩) hl).trans hc
  obtain ⟨W, hW⟩ : ∃ W, W = w.alloc e.obj := ⟨_, rfl⟩
  have HBW : Hid (Below w.heap.size w W) := Lib.hid (by rw [hW]; exact bl_al (Below.refl _ _) _)
  rw [← hW] at hA hc2
  obtain ⟨q, hq⟩ : ∃ q, q = w.heap.size := ⟨_, rfl⟩
  rw [← hq] at hA
  have HW := Lib.hid (And.intro hW hq)
  obtain ⟨x, p, t⟩ := e
  clear hW hq hc hl
  go_enter Try.func45, Try.ntmps45
  go_upto_region 1 with fail
  rw [show w.alloc (.cells #[.int .u32 x, .int .i64 p, .int .i64 t] tyE) = W from HW.out.1.symm, ← HW.out.2]
  go_wp2
  go_ret
  exact ⟨rfl, HBW.out⟩
end Go.Proofs.Ytkacbeighaccjaa
