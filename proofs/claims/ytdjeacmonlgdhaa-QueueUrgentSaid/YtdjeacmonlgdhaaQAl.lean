/- Contract of towpathlaw07.alive: it returns true. No conditions. -/
import Derived.Test.YtdjeacmonlgdhaaQdc
import Derived.Deep.CutRange
import Derived.Laws.Pointers
import Derived.Lib.SmallJoins
namespace Go.Proofs.Ytdjeacmonlgdhaa
open Go Go.RowKit
set_option linter.unusedVariables false
set_option linter.unusedSimpArgs false

theorem errNe (w : World) : (binOp .neq 26 .nilIface .nilIface).run Try.prog w = .ok (.bool false) w := by kernel_rfl
theorem one_in {w : World} {g : Nat} {x : Int} {fr : Nat × Nat} (h : w.heap[g]? = some (.cells #[.int .u8 x] 5 fr)) (hx : 0 ≤ x ∧ x < 256) : In w (some ⟨g, 0, none⟩) 1 1 [x] := by
  refine ⟨rfl, Nat.le_refl _, (fun e => by cases e), ⟨_, 1, rfl, .inr ⟨g, 0, rfl, fun j hj => ?_⟩⟩, fit_cons hx fit_nil⟩
  have : j = 0 := by simp at hj; omega
  subst this
  rw [cell_of_row w g 0 _ _ _ h]
  rfl
/-- Three rows of one constant byte, and the row of them. -/
def W3 (w : World) (x y z : Int) : World := ((w.alloc (.cells #[.int .u8 x] 5 (1, 2))).alloc (.cells #[.int .u8 y] 5 (1, 2))).alloc (.cells #[.int .u8 z] 5 (1, 2))
def r3 (g : Nat) : Array Value := #[.slice (some ⟨g, 0, none⟩) 1 1, .slice (some ⟨g + 1, 0, none⟩) 1 1, .slice (some ⟨g + 2, 0, none⟩) 1 1]
def W4 (w : World) (x y z : Int) : World := (W3 w x y z).alloc (.cells (r3 w.heap.size) 42)
theorem w4_size (w : World) (x y z : Int) : (W4 w x y z).heap.size = w.heap.size + 4 := by simp [W4, W3]
theorem w4_bel (w : World) (x y z : Int) : Below w.heap.size w (W4 w x y z) := bl_al (bl_al (bl_al (bl_al (Below.refl _ _) _) _) _) _
theorem at_new {w w' : World} {o : Obj} {g : Nat} (hg : g = w.heap.size) (hb : Below (w.alloc o).heap.size (w.alloc o) w') : w'.heap[g]? = some o := by
  subst hg
  exact (hb.block _ (by simp)).trans (heap_alloc_new w o)
theorem rsp_three {w U : World} {F : Nat → Prop} {x y z : Int} (hx : 0 ≤ x ∧ x < 256) (hy : 0 ≤ y ∧ y < 256) (hz : 0 ≤ z ∧ z < 256) (hF : ∀ k, F k → k < w.heap.size) (hU : Tch F (W4 w x y z) U) : RsP U (some ⟨w.heap.size + 3, 0, none⟩) 3 (r3 w.heap.size).toList [[x], [y], [z]] := by
  have hn : ∀ k, w.heap.size ≤ k → ¬ F k := fun k hk h => by have := hF k h; omega
  have b0 : U.heap[w.heap.size]? = some (.cells #[.int .u8 x] 5 (1, 2)) := hU.at (at_new (w := w) (rfl) (bl_al (bl_al (bl_al (Below.refl _ _) _) _) _)) (hn _ (by omega))
  have b1 : U.heap[w.heap.size + 1]? = some (.cells #[.int .u8 y] 5 (1, 2)) := hU.at (at_new (w := w.alloc (.cells #[.int .u8 x] 5 (1, 2))) (by simp) (bl_al (bl_al (Below.refl _ _) _) _)) (hn _ (by omega))
  have b2 : U.heap[w.heap.size + 2]? = some (.cells #[.int .u8 z] 5 (1, 2)) := hU.at (at_new (w := (w.alloc (.cells #[.int .u8 x] 5 (1, 2))).alloc (.cells #[.int .u8 y] 5 (1, 2))) (by simp) (bl_al (Below.refl _ _) _)) (hn _ (by omega))
  have b3 : U.heap[w.heap.size + 3]? = some (.cells (r3 w.heap.size) 42 (0, 0)) := hU.at (at_new (w := W3 w x y z) (by simp [W3]) (Below.refl _ _)) (hn _ (by omega))
  refine ⟨rfl, .inr ⟨w.heap.size + 3, 0, rfl, fun j hj => ?_⟩, fun j hj => ?_⟩
  · rw [cell_of_row U (w.heap.size + 3) (0 + j) _ _ _ b3]
    obtain rfl | rfl | rfl : j = 0 ∨ j = 1 ∨ j = 2 := by omega
    · rfl
    · rfl
    · rfl
  · obtain rfl | rfl | rfl : j = 0 ∨ j = 1 ∨ j = 2 := by omega
    · exact ⟨_, _, _, rfl, one_in b0 hx⟩
    · exact ⟨_, _, _, rfl, one_in b1 hy⟩
    · exact ⟨_, _, _, rfl, one_in b2 hz⟩
set_option maxRecDepth 100000 in
set_option maxHeartbeats 1000000 in
theorem alive7_any (w : World) : Calls Try.prog 8 #[] w fun e w' => e = .returned (.bool true) ∧ Below w.heap.size w w' := by
  have CN := Lib.hid (fun w => new_yes 2 (by omega) w)
  have en := errNe
  go_enter Try.func8, Try.ntmps8
  go_wp2_with fail
  refine (CN.out w).mono ?_
  rintro e w2 ⟨q, F, rfl, hq, hb⟩
  have HB := Lib.hid (hb.trans ((w4_bel w2 97 98 99).mono hb.size))
  have hF := hq.base
  have hT : Tch Non w2 (W4 w2 97 98 99) := tch_new (w4_bel w2 97 98 99)
  have CP := Lib.hid (put_t w.heap.size F q 2 [] (r3 w2.heap.size).toList [] [[97], [98], [99]] (some ⟨w2.heap.size + 3, 0, none⟩) 3 3 (W4 w2 97 98 99) (hq.keep hT (fun _ _ h => h) (fun _ _ _ _ h => h)) (Nat.le_trans hb.size hT.size) (fun U hU => rsp_three (by omega) (by omega) (by omega) (fun k hk => (hF k hk).2) hU) (by omega) (fun p hp => by
    simp at hp
    rcases hp with rfl | rfl | rfl <;> simp))
  have kc0 : (convert 42 42 (.slice (some ⟨w2.heap.size, 0, none⟩) 1 1)).run Try.prog (w2.alloc (.cells #[.int .u8 97] 5)) = .ok (.slice (some ⟨w2.heap.size, 0, none⟩) 1 1) (w2.alloc (.cells #[.int .u8 97] 5 (1, 2))) := Lib.run_convert_bytes_const (P := Try.prog) w2 42 5 #[.int .u8 97] 1 1 Try.underlying42 Try.underlying5
  have kc1 : (convert 42 42 (.slice (some ⟨w2.heap.size + 1, 0, none⟩) 1 1)).run Try.prog ((w2.alloc (.cells #[.int .u8 97] 5 (1, 2))).alloc (.cells #[.int .u8 98] 5)) = .ok (.slice (some ⟨w2.heap.size + 1, 0, none⟩) 1 1) ((w2.alloc (.cells #[.int .u8 97] 5 (1, 2))).alloc (.cells #[.int .u8 98] 5 (1, 2))) := Go.Joins.run_convert_bytes_const_at (P := Try.prog) (w2.alloc (.cells #[.int .u8 97] 5 (1, 2))) 42 5 #[.int .u8 98] 1 1 (w2.heap.size + 1) (by simp) Try.underlying42 Try.underlying5
  have kc2 : (convert 42 42 (.slice (some ⟨w2.heap.size + 2, 0, none⟩) 1 1)).run Try.prog (((w2.alloc (.cells #[.int .u8 97] 5 (1, 2))).alloc (.cells #[.int .u8 98] 5 (1, 2))).alloc (.cells #[.int .u8 99] 5)) = .ok (.slice (some ⟨w2.heap.size + 2, 0, none⟩) 1 1) (((w2.alloc (.cells #[.int .u8 97] 5 (1, 2))).alloc (.cells #[.int .u8 98] 5 (1, 2))).alloc (.cells #[.int .u8 99] 5 (1, 2))) := Go.Joins.run_convert_bytes_const_at (P := Try.prog) ((w2.alloc (.cells #[.int .u8 97] 5 (1, 2))).alloc (.cells #[.int .u8 98] 5 (1, 2))) 42 5 #[.int .u8 99] 1 1 (w2.heap.size + 2) (by simp) Try.underlying42 Try.underlying5
  have HF := Lib.hid hF
  simp only [W4, W3, r3] at CP
  have hs4 := Lib.hid (w4_size w2 97 98 99)
  clear hq hb CN hF hT
  go_wp2_with fail
  refine CP.out.mono ?_
  rintro e w3 ⟨us, rfl, hQ, ht, hu⟩
  have hf : fits ([] : List (List Int)).length 2 [[(97 : Int)], [98], [99]].length = 2 := by decide
  rw [hf] at hQ
  rw [hf]
  have hul : us.length = 2 := by have := hQ.rows.len; simpa using this
  obtain ⟨u1, u2, rfl⟩ : ∃ u1 u2, us = [u1, u2] := by
    match us, hul with
    | [a, b], _ => exact ⟨a, b, rfl⟩
  have hQ1 : QSt w3 w.heap.size F q 2 (u1 :: [u2]) ([97] :: [[98]]) := hQ
  have CG := Lib.hid (get_t w.heap.size F q 2 u1 [u2] [97] [[98]] w3 hQ1)
  have HB3 := Lib.hid (HB.out.trans (ht.below (fun k hk => (HF.out k hk).1) HB.out.size))
  clear hf hQ hul hQ1 hu ht CP kc0 kc1 kc2 HB
  go_wp2_with fail
  refine CG.out.mono ?_
  rintro e w4 ⟨rfl, hQ, ht, ho⟩
  obtain ⟨a1, c1, rfl⟩ := own_form ho
  have hst : (convert 42 9 (.slice a1 1 c1)).run Try.prog w4 = .ok (.string ⟨#[97]⟩) w4 := str_of (l := [97]) (At.own ho) rfl
  have HB4 := Lib.hid (HB3.out.trans (ht.below (fun k hk => (HF.out k hk).1) HB3.out.size))
  have CL := Lib.hid (len_t w.heap.size F q 2 [u2] [[98]] w4 hQ)
  have HQ := Lib.hid hQ
  clear hQ ht ho CG HB3
  go_wp2_with fail
  refine CL.out.mono ?_
  rintro e w5 ⟨rfl, ht⟩
  have HB5 := Lib.hid (HB4.out.trans (ht.below (fun _ h => h.elim) HB4.out.size))
  have CR := Lib.hid (room_t w.heap.size F q 2 [u2] [[98]] w5 (HQ.out.keep ht (fun _ _ h => h) (fun _ _ _ _ h => h)) (by omega))
  clear ht CL HB4 HQ hst
  go_wp2_with fail
  refine CR.out.mono ?_
  rintro e w6 ⟨rfl, ht⟩
  have HB6 := Lib.hid (HB5.out.trans (ht.below (fun _ h => h.elim) HB5.out.size))
  clear ht CR HB5
  go_wp2
  go_ret
  exact ⟨rfl, HB6.out⟩
end Go.Proofs.Ytdjeacmonlgdhaa
