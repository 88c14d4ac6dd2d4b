/- Contract of towpathlaw09.RingNone: it returns true. No conditions. -/
import Derived.Test.YtkacbeighaccjaaRgK
namespace Go.Proofs.Ytkacbeighaccjaa
open Go Go.RowKit
set_option linter.unusedVariables false
set_option linter.unusedSimpArgs false

theorem chosen_nil {f : Fl} {k : Int} (h : Chosen f [] k) : k = -1 := by
  obtain ⟨t, h⟩ := h
  have e : scP f [] ([] : List En).length = [] := rfl
  rw [e] at h
  rcases h with ⟨_, h⟩ | ⟨_, h, _⟩
  · exact h
  · simp at h
theorem in_nilE (w : World) : InE w none 0 0 [] := ⟨rfl, Nat.le_refl _, fun _ => rfl, .inl rfl, fun e he => by simp at he⟩
theorem nineEq (w : World) : (binOp .eql 32 (errnoR 9) (errnoR 9)).run Try.prog w = .ok (.bool true) w := by kernel_rfl
theorem endEq0 (w : World) : (binOp .eql 51 en0.val en0.val).run Try.prog w = .ok (.bool true) w := by kernel_rfl
theorem okNo : OkMs [] := ⟨by decide, .nil, fun m hm => by simp at hm⟩
theorem ownR_no (P : Nat) (key : Int) : ownR P [] key = [] := rfl
set_option maxRecDepth 100000 in
set_option maxHeartbeats 4000000 in
theorem ringNone_t (key n : Int) (w : World) (hk : 0 ≤ key ∧ key < 18446744073709551616) (hn : I64 n) :
    Calls Try.prog 8 #[.int .u64 key, .int .i64 n] w fun e w' => e = .returned (.bool true) ∧ Below w.heap.size w w' := by
  have en := errEq
  have e9 := nineEq
  have ee : ∀ w : World, (binOp .eql 51 (.agg #[.int .u32 0, .int .i64 0, .int .i64 0]) (.agg #[.int .u32 0, .int .i64 0, .int .i64 0])).run Try.prog w = .ok (.bool true) w := endEq0
  have CA := Lib.hid (alive9_any w)
  have HP := Lib.hid (And.intro hk hn)
  clear hk hn
  go_enter Try.func8, Try.ntmps8
  go_wp2_with fail
  refine CA.out.mono ?_
  rintro e w1 ⟨rfl, hb⟩
  have HB1 := Lib.hid hb
  have hbA := bl_al (Below.refl w1.heap.size w1) (.cells #[.int .i64 1] 3)
  have CW := Lib.hid (rwithN_t [1] (some ⟨w1.heap.size, 0, none⟩) 1 1 _ (in_oneI w1 1 (by omega)) (by omega))
  have HBA := Lib.hid (bl_tr hb hbA)
  clear hb hbA CA HB1
  go_wp2_with fail
  refine CW.out.mono ?_
  rintro e w2 ⟨h | h, hb⟩
  case inl => exact absurd h.1 (by decide)
  obtain ⟨_, rfl⟩ := h
  rw [show errR 9 = errnoR 9 from rfl]
  have hbA := bl_al (Below.refl w2.heap.size w2) (.cells #[.int .i64 1] 3)
  have CO := Lib.hid (rwithoutN_t [1] (some ⟨w2.heap.size, 0, none⟩) 1 1 _ (in_oneI w2 1 (by omega)) (by omega))
  have HB2 := Lib.hid (bl_tr (bl_tr HBA.out hb) hbA)
  clear hb hbA CW HBA
  go_wp2_with fail
  refine CO.out.mono ?_
  rintro e w3 ⟨h | h, hb⟩
  case inl => exact absurd h.1 (by decide)
  obtain ⟨_, rfl⟩ := h
  rw [show errR 9 = errnoR 9 from rfl]
  have HB3 := Lib.hid (bl_tr HB2.out hb)
  have CC := Lib.hid (rchoose_t ⟨n, 0, 0, 0, 0⟩ [] none 0 0 w3 (in_nilE _) (by omega) (by unfold TyF; simp only; omega))
  unfold Fl.val at CC
  clear hb CO HB2
  go_wp2_with fail
  refine CC.out.mono ?_
  rintro e w4 ⟨k, hk, rfl, hb⟩
  have hk0 := chosen_nil hk
  subst hk0
  rw [show eOf [] (-1) = en0 from rfl, show decide ((0 : Int) ≤ -1) = false from rfl]
  unfold En.val en0
  have HB4 := Lib.hid (bl_tr HB3.out hb)
  obtain ⟨Y, hY⟩ : ∃ Y, Y = w4.alloc (.cells #[.int .u32 0, .int .i64 0, .int .i64 0] tyE) := ⟨_, rfl⟩
  have hbY : Below w4.heap.size w4 Y := by rw [hY]; exact bl_al (Below.refl _ _) _
  have z0 : Y.cell? ⟨w4.heap.size, 0, none⟩ = some (.int .u32 0) := by rw [hY, cell_of_row _ _ 0 _ _ _ (heap_alloc_new w4 _)]; rfl
  have z1 : Y.cell? ⟨w4.heap.size, 1, none⟩ = some (.int .i64 0) := by rw [hY, cell_of_row _ _ 1 _ _ _ (heap_alloc_new w4 _)]; rfl
  have z2 : Y.cell? ⟨w4.heap.size, 2, none⟩ = some (.int .i64 0) := by rw [hY, cell_of_row _ _ 2 _ _ _ (heap_alloc_new w4 _)]; rfl
  have hlt : w4.heap.size < Y.heap.size := by rw [hY]; simp
  have CN := Lib.hid (rnew_t 3 [] none 0 0 Y (in_nilI _) (by omega) (by omega) 0 ⟨fun h => absurd (by unfold OkP; omega) h, fun _ h => absurd okNo h, fun _ _ => rfl⟩)
  obtain ⟨q, hq⟩ : ∃ q, q = w4.heap.size := ⟨_, rfl⟩
  rw [← hq] at z0 z1 z2 hlt
  have HY := Lib.hid (And.intro hY hq)
  have HBY := Lib.hid (bl_tr HB4.out hbY)
  have HZ := Lib.hid (And.intro z0 (And.intro z1 (And.intro z2 hlt)))
  clear hb hk CC HB3 HB4 hY hbY hlt hq z0 z1 z2
  go_upto_region 7 with fail
  rw [← HY.out.1, ← HY.out.2]
  go_wp2_with fail
  refine CN.out.mono ?_
  rintro e w5 ⟨h | h, hb⟩
  case inr => exact absurd rfl h.1
  obtain ⟨_, r, rfl, hr⟩ := h
  have HR := Lib.hid hr
  have hz := And.intro ((hb.cell (p := ⟨q, 0, none⟩) HZ.out.2.2.2).trans HZ.out.1) (And.intro ((hb.cell (p := ⟨q, 1, none⟩) HZ.out.2.2.2).trans HZ.out.2.1) ((hb.cell (p := ⟨q, 2, none⟩) HZ.out.2.2.2).trans HZ.out.2.2.1))
  have HZ5 := Lib.hid (And.intro hz (Nat.lt_of_lt_of_le HZ.out.2.2.2 hb.size))
  have HB5 := Lib.hid (bl_tr HBY.out hb)
  have CO := Lib.hid (rownersN_t key n w5)
  clear hr hb CN HBY HZ hz
  go_wp2_with fail
  refine CO.out.mono ?_
  rintro e w6 ⟨a6, c6, rfl, _, hb⟩
  have HB6 := Lib.hid hb
  have CM := Lib.hid (rmembersN_t w6)
  clear hb CO
  go_wp2_with fail
  refine CM.out.mono ?_
  rintro e w7 ⟨a7, c7, rfl, _, hb⟩
  have HB7 := Lib.hid (bl_tr HB6.out hb)
  have z0 := (HB7.out.cell (p := ⟨q, 0, none⟩) HZ5.out.2).trans HZ5.out.1.1
  have z1 := (HB7.out.cell (p := ⟨q, 1, none⟩) HZ5.out.2).trans HZ5.out.1.2.1
  have z2 := (HB7.out.cell (p := ⟨q, 2, none⟩) HZ5.out.2).trans HZ5.out.1.2.2
  have CE := Lib.hid (rowners_t r 3 [] key n w7 (HR.out.below HB7.out) HP.out.1 HP.out.2)
  rw [ownR_no, List.take_nil] at CE
  have HB8 := Lib.hid (bl_tr HB5.out HB7.out)
  clear hb CM HB6 HB7 HZ5 HB5
  go_wp2_with fail
  refine CE.out.mono ?_
  rintro e w8 ⟨a8, c8, rfl, _, hb⟩
  have HB9 := Lib.hid (bl_tr HB8.out hb)
  clear hb CE HB8 z0 z1 z2
  go_wp2
  go_ret
  exact ⟨rfl, HB9.out⟩
end Go.Proofs.Ytkacbeighaccjaa
