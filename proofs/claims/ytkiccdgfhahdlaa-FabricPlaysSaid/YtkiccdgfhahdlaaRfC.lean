/- The document's fabric: Copy. Conditions: those stated. -/
import Derived.Test.YtkiccdgfhahdlaaRfT
namespace Go.Proofs.Ytkiccdgfhahdlaa
open Go Go.RowKit
set_option linter.unusedVariables false
set_option linter.unusedSimpArgs false

theorem LTo.from {w w1 w' : World} {B m last : Nat} {F F2 : Nat → Prop} {ls : List Lt} (ht : Tch Non w w1) (h : LTo w1 B F m ls last F2 w') : LTo w B F m ls last F2 w' :=
  ⟨h.1, fun k hk => (h.2.1 k hk).imp id (fun e => Nat.le_trans ht.size e), (ht.mono (fun _ h => h.elim)).trans h.2.2⟩
set_option maxRecDepth 100000 in
set_option maxHeartbeats 2000000 in
theorem refCopy_none (B m last : Nat) (F : Nat → Prop) (n : Int) (w : World) (hL : LSt w B F m [] last) :
    Calls Try.prog 22 #[.pointer (some ⟨m, 0, none⟩), .int .i64 n] w (RSnt w B F m (0, 6, [], last)) := by
  have CN := Lib.hid (refNth_none B m last F n w hL)
  have HL := Lib.hid hL
  clear hL
  go_enter Try.func22, Try.ntmps22
  go_wp2_with fail
  refine CN.out.mono ?_
  rintro e w1 ⟨v, rfl, ho, hv, ht⟩
  obtain ⟨av, cv, rfl⟩ := own_form ho
  have HE : Hid (∀ o, LTo w B F m [] last F (w1.alloc o)) := Lib.hid (fun o => LTo.same (T := Non) HL.out (ht.trans (tch_alloc _ _)))
  clear ho hv ht CN
  unfold Lt.val
  go_wp2
  go_ret2
  exact ⟨rfl, F, HE.out _⟩
set_option maxRecDepth 100000 in
set_option maxHeartbeats 2000000 in
theorem refCopy_some (B m last : Nat) (F : Nat → Prop) (ls : List Lt) (n : Int) (w : World) (hL : LSt w B F m ls last) (hB : B ≤ w.heap.size) (h0 : 0 < ls.length) (h4 : ls.length ≤ 4096) (hl : last ≤ 1000000) (hp : ∀ l ∈ ls, l.bs.length ≤ 1048576) :
    Calls Try.prog 22 #[.pointer (some ⟨m, 0, none⟩), .int .i64 n] w (RSnt w B F m (putR ls last (ls.getD (plc n ls.length) lt0))) := by
  have CN := Lib.hid (refNth_some B m last F ls n w hL h0 h4)
  obtain ⟨l, hld⟩ : ∃ l, l = ls.getD (plc n ls.length) lt0 := ⟨_, rfl⟩
  have hlm : l ∈ ls := by
    have := plc_lt n h0
    rw [hld, List.getD_eq_getElem?_getD, List.getElem?_eq_getElem this]
    exact List.getElem_mem this
  rw [← hld] at CN
  rw [← hld]
  have HFT := Lib.hid (hL.fits l hlm)
  have hlb := hp l hlm
  have HB := Lib.hid hB
  have HL := Lib.hid hL
  have hll := hl
  clear hL hB hlm hp hld
  go_enter Try.func22, Try.ntmps22
  go_wp2_with fail
  refine CN.out.mono ?_
  rintro e w1 ⟨v, rfl, ho, hv, ht⟩
  obtain ⟨av, cv, rfl⟩ := own_form ho
  obtain ⟨nb, hnb⟩ : ∃ k, k = l.bs.length := ⟨_, rfl⟩
  rw [← hnb] at ho hv hlb
  rw [← hnb]
  obtain ⟨Y, hY⟩ : ∃ Y, Y = w1.alloc (.cells #[.int .i64 l.id, .int .i64 l.frm, .int .i64 l.dst, .bool l.ctl, .slice av nb cv] tyL) := ⟨_, rfl⟩
  have hTY : Tch Non w Y := by rw [hY]; exact ht.trans (tch_alloc _ _)
  have hT1 : Tch Non w1 Y := by rw [hY]; exact tch_alloc _ _
  have hY1 : Bx Y w1.heap.size l (.slice av nb cv) := by rw [hY]; exact Bx.new w1 l _
  obtain ⟨y0, y1, y2, y3, y4⟩ := hY1.cell
  have CP := Lib.hid (refPut_any B m last F ls l av nb cv Y (HL.out.keep hTY (fun _ _ h => h)) (Nat.le_trans HB.out hTY.size) hl (fun U hU => own_in (hU.own (hT1.own ho (fun _ _ h => h)) (fun k hk e => (hv k hk).2 e)) hnb.symm HFT.out) hlb)
  have HTY := Lib.hid hTY
  have HY := Lib.hid hY
  obtain ⟨p, hp⟩ : ∃ p, p = w1.heap.size := ⟨_, rfl⟩
  rw [← hp] at y0 y1 y2 y3 y4
  have HP := Lib.hid hp
  unfold Lt.val at CP
  clear ho hv ht CN hTY hT1 hY1 hY hp hnb
  unfold Lt.val
  go_upto_region 2 with fail
  rw [← HY.out, ← HP.out]
  clear HY HP
  go_wp2_with fail
  refine CP.out.mono ?_
  rintro e w2 ⟨rfl, F2, h2⟩
  have H2 := Lib.hid (LTo.from HTY.out h2)
  clear h2 CP y0 y1 y2 y3 y4
  go_wp2
  go_ret2
  exact ⟨rfl, F2, H2.out⟩
theorem refCopy_t (B m last : Nat) (F : Nat → Prop) (ls : List Lt) (n : Int) (w : World) (hL : LSt w B F m ls last) (hB : B ≤ w.heap.size) (h4 : ls.length ≤ 4096) (hl : last ≤ 1000000) (hp : ∀ l ∈ ls, l.bs.length ≤ 1048576) :
    Calls Try.prog 22 #[.pointer (some ⟨m, 0, none⟩), .int .i64 n] w (RSnt w B F m (copyR ls last n)) := by
  unfold copyR
  split
  · rename_i h
    subst h
    exact refCopy_none B m last F n w hL
  · rename_i h
    exact refCopy_some B m last F ls n w hL hB (List.length_pos_iff.2 h) h4 hl hp
end Go.Proofs.Ytkiccdgfhahdlaa
