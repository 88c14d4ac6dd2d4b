/- clone: a letter with bytes of its own. -/
import Derived.Test.YtkiccdgfhahdlaaBCl
import Derived.Test.YtkiccdgfhahdlaaRfS
namespace Go.Proofs.Ytkiccdgfhahdlaa
open Go Go.RowKit
set_option linter.unusedVariables false
set_option linter.unusedSimpArgs false

set_option maxRecDepth 100000 in
set_option maxHeartbeats 1000000 in
theorem lclone_c (l : Lt) (a : Option Addr) (n cap : Nat) (w : World) (hA : In w a n cap l.bs) (hn : n ≤ 140737488351232) :
    Calls Try.prog 40 #[l.val (.slice a n cap)] w fun e w' => ∃ ao cp, e = .returned (l.val (.slice ao n cp)) ∧ w'.ownsRow w.heap.size 5 1 (.slice ao n cp) n (u8s l.bs) ∧ Below w.heap.size w w' := by
  obtain ⟨W, hW⟩ : ∃ W, W = w.alloc (.cells #[.int .i64 l.id, .int .i64 l.frm, .int .i64 l.dst, .bool l.ctl, .slice a n cap] tyL) := ⟨_, rfl⟩
  obtain ⟨W2, hW2⟩ : ∃ W2, W2 = W.alloc (.cells zeroL tyL) := ⟨_, rfl⟩
  have hb1 : Below w.heap.size w W := by rw [hW]; exact bl_al (Below.refl _ _) _
  have hb2 : Below w.heap.size w W2 := by rw [hW2]; exact bl_al hb1 _
  have hs1 : W.heap.size = w.heap.size + 1 := by rw [hW]; simp
  have hs2 : W2.heap.size = w.heap.size + 2 := by rw [hW2]; simp [hs1]
  have x1 : Bx W w.heap.size l (.slice a n cap) := by rw [hW]; exact Bx.new w l _
  have x1' : Bx W2 w.heap.size l (.slice a n cap) := x1.keep (by rw [hW2]; exact tch_alloc W _) (fun h => h)
  have x2 : Bx W2 W.heap.size lt0 (.slice none 0 0) := by rw [hW2]; exact Bx.new W lt0 _
  have CC := Lib.hid (bclone_t l.bs a n cap W2 (hA.below hb2) hn)
  obtain ⟨p, hp⟩ : ∃ p, p = w.heap.size := ⟨_, rfl⟩
  obtain ⟨q, hq⟩ : ∃ q, q = W.heap.size := ⟨_, rfl⟩
  have hpq : q = p + 1 := by omega
  rw [← hp] at x1' x1
  rw [← hq] at x2
  obtain ⟨b0, b1, b2, b3, b4⟩ := x1'.cell
  have bf := x1'.free
  have HX := Lib.hid (And.intro x1' x2)
  have HB := Lib.hid (And.intro hb2 (And.intro hs2 hpq))
  have HW := Lib.hid (And.intro hW (And.intro hW2 (And.intro hp hq)))
  clear hA hW hW2 hb1 hb2 hs1 hs2 x1 x1' x2 hp hq
  unfold Lt.val
  go_enter Try.func40, Try.ntmps40
  go_upto_region 1 with fail
  rw [← HW.out.1, ← HW.out.2.1, ← HW.out.2.2.1, ← HB.out.2.2]
  go_wp2_with fail
  refine CC.out.mono ?_
  rintro e w3 ⟨ao, cp, rfl, ho, hb⟩
  have x3 := HX.out.1.keep (tch_new hb) (fun h => h)
  have x4 := HX.out.2.keep (tch_new hb) (fun h => h)
  clear b0 b1 b2 b3 b4 bf CC
  obtain ⟨X4, hX4⟩ : ∃ X, X = w3.setCell ⟨p, 4, none⟩ (.slice ao n cp) := ⟨_, rfl⟩
  have y1 : Bx X4 p l (.slice ao n cp) := by rw [hX4]; exact x3.bytes _
  have y2 : Bx X4 q lt0 (.slice none 0 0) := by rw [hX4]; exact x4.keep (tch_set w3 ⟨p, 4, none⟩ _) (fun (e : q = p) => by have := HB.out.2.2; omega)
  have f3 := x3.free
  have c34 := x3.cell.2.2.2.2
  obtain ⟨b0, b1, b2, b3, b4⟩ := y1.cell
  obtain ⟨d0, d1, d2, d3, d4⟩ := y2.cell
  have bf := y1.free
  have df := y2.free
  rw [HB.out.2.2] at d0 d1 d2 d3 d4 df y2
  obtain ⟨z0, z1, z2, z3, z4⟩ := (Bx.stored (show Bx X4 (p + 1) lt0 (.slice none 0 0) from y2) l (.slice ao n cp)).cell
  have HO := Lib.hid (And.intro ho hb)
  have H4 := Lib.hid hX4
  clear x3 x4 y1 y2 ho hb hX4
  go_upto_region 2 with fail
  rw [← H4.out]
  go_wp2
  refine bodyPost_ret (v := l.val (.slice ao n cp)) (by simp [results, Try.results40, go_sem, z0, z1, z2, z3, z4, Lt.val]) rfl ?_
  have hB3 : Below w.heap.size w w3 := bl_tr HB.out.1 HO.out.2
  have hp := HW.out.2.2.1
  have hB4 : Below w.heap.size w X4 := by rw [H4.out]; exact hB3.setCell (p := ⟨p, 4, none⟩) (show w.heap.size ≤ p by omega) _
  have g1 : w.heap.size ≤ p + 1 := by omega
  have hB9 := ((((hB4.setCell (p := ⟨p + 1, 0, none⟩) g1 (.int .i64 l.id)).setCell (p := ⟨p + 1, 1, none⟩) g1 (.int .i64 l.frm)).setCell (p := ⟨p + 1, 2, none⟩) g1 (.int .i64 l.dst)).setCell (p := ⟨p + 1, 3, none⟩) g1 (.bool l.ctl)).setCell (p := ⟨p + 1, 4, none⟩) g1 (.slice ao n cp)
  have T4 : Tch (fun k => k < W2.heap.size) w3 X4 := by rw [H4.out]; exact (tch_set w3 ⟨p, 4, none⟩ _).mono (fun k (e : k = p) => by have := HB.out.2.1; omega)
  have T9 := fun (Y : World) (o : Nat) (u : Value) => (tch_set Y ⟨p + 1, o, none⟩ u).mono (U := fun k => k < W2.heap.size) (fun k (e : k = p + 1) => by have := HB.out.2.1; omega)
  have hw := (((((T4.trans (T9 _ 0 (.int .i64 l.id))).trans (T9 _ 1 (.int .i64 l.frm))).trans (T9 _ 2 (.int .i64 l.dst))).trans (T9 _ 3 (.bool l.ctl))).trans (T9 _ 4 (.slice ao n cp))).own HO.out.1 (fun g hg (h : g < W2.heap.size) => by have := (HO.out.1.lt g hg).1; omega)
  exact ⟨ao, cp, rfl, own_base hw (by have := HB.out.2.1; omega), hB9⟩
end Go.Proofs.Ytkiccdgfhahdlaa
