/- The document's wheel: which timer is first. No conditions but those stated. -/
import Derived.Test.YthoegmcdohppoaaWhM
import Derived.LoopTactic
import Derived.Deep.QuietTactic
import Derived.Deep.CutRange
namespace Go.Proofs.Ythoegmcdohppoaa
open Go Go.RowKit
set_option linter.unusedVariables false
set_option linter.unusedSimpArgs false

theorem below_drewNT {B : Nat} {w w' : World} (h : Below B w w') (n : Nat) : Below B w (w'.drewN n) := below_drewN h n
/-- The first of the timers so far. -/
def FstT (ts : List Wy) (i : Nat) (k : Int) : Prop := (i = 0 ∧ k = -1) ∨ ∃ b : Nat, b < i ∧ k = b ∧ ∀ j, j < i → leW (ts.getD b tm0) (ts.getD j tm0)
theorem FstT.take {ts : List Wy} {i : Nat} {k : Int} (h : FstT ts i k) (hl : k < 0 ∨ ∃ b : Nat, k = b ∧ leW (ts.getD i tm0) (ts.getD b tm0)) : FstT ts (i + 1) i := by
  refine .inr ⟨i, by omega, rfl, fun j hj => ?_⟩
  by_cases e : j = i
  · rw [e]; exact leW_refl _
  · rcases h with ⟨h0, _⟩ | ⟨b, hb, rfl, hl2⟩
    · omega
    · rcases hl with hl | ⟨b', hb', hl⟩
      · omega
      · obtain rfl : b = b' := by omega
        exact leW_trans hl (hl2 j (by omega))
theorem FstT.keep {ts : List Wy} {i b : Nat} (h : FstT ts i b) (hl : leW (ts.getD b tm0) (ts.getD i tm0)) : FstT ts (i + 1) b := by
  rcases h with ⟨_, h1⟩ | ⟨b', hb, e, hl2⟩
  · omega
  · obtain rfl : b = b' := by omega
    refine .inr ⟨b, by omega, rfl, fun j hj => ?_⟩
    by_cases e : j = i
    · rw [e]; exact hl
    · exact hl2 j (by omega)
set_option maxRecDepth 100000 in
set_option maxHeartbeats 4000000 in
theorem refFirst_c (B m n c : Nat) (ts : List Wy) (ao : Option Addr) (w : World) (hM : RwM w B m ts ao n c) (hn : n ≤ 4611686018427387904) :
    Calls Try.prog 28 #[.pointer (some ⟨m, 0, none⟩)] w fun e w' => (∃ k : Int, e = .returned (.int .i64 k) ∧ FstT ts n k) ∧ Below w.heap.size w w' := by
  have HM := Lib.hid hM
  have F0 : Hid (FstT ts 0 (-1)) := Lib.hid (.inl ⟨rfl, rfl⟩)
  have HB0 := Lib.hid (Below.refl w.heap.size w)
  clear hM
  go_enter Try.func28, Try.ntmps28
  go_wp2
  go_loopw [3, 4] (fun bv iv wr => ∃ (i : Nat) (k : Int), i ≤ n ∧ bv = .int .i64 k ∧ iv = .int .i64 i ∧ Hid (FstT ts i k) ∧ Hid (Below w.heap.size w wr)) (fun _ iv _ => n - (intOf iv).toNat)
  case atStart => exact ⟨0, -1, by omega, rfl, rfl, F0, HB0⟩
  case round =>
    obtain ⟨i, k, hi, rfl, rfl, HF, HB⟩ := hrel
    obtain ⟨w2, rfl⟩ : ∃ v, v = wr := ⟨_, rfl⟩
    clear F0 HB0
    have hM2 := HM.out.keep (tch_new HB.out) (fun h => h) (fun _ _ h => h)
    have q0 := hM2.c0
    by_cases hlt : i < n
    · have ii : (i : Int) < (n : Int) := by omega
      have i0 : (0 : Int) ≤ (i : Int) := by omega
      obtain ⟨g, rfl, _, c0, c1⟩ := ownT_cell hM2.row hlt
      have hCells := fun (j : Nat) (hj : j < n) => (ownT_cell hM2.row hj)
      have HCl := Lib.hid hCells
      obtain ⟨W, hW⟩ : ∃ W, W = w2.alloc (.cells #[.int .i64 (ts.getD i tm0).2, .int .i64 (ts.getD i tm0).1] tyT) := ⟨_, rfl⟩
      have hb2 : Below w2.heap.size w2 W := by rw [hW]; exact bl_al (Below.refl _ _) _
      have n0 : W.cell? ⟨w2.heap.size, 0, none⟩ = some (.int .i64 (ts.getD i tm0).2) := by rw [hW]; simp [go_sem]
      have n1 : W.cell? ⟨w2.heap.size, 1, none⟩ = some (.int .i64 (ts.getD i tm0).1) := by rw [hW]; simp [go_sem]
      have q1 := (hb2.cell (p := ⟨m, 0, none⟩) (block_lt_of_cell q0)).trans q0
      obtain ⟨tk, htk⟩ : ∃ x, x = (ts.getD i tm0).2 := ⟨_, rfl⟩
      obtain ⟨ta, hta⟩ : ∃ x, x = (ts.getD i tm0).1 := ⟨_, rfl⟩
      rw [← htk] at c0 n0 hW
      rw [← hta] at c1 n1 hW
      obtain ⟨p, hp⟩ : ∃ p, p = w2.heap.size := ⟨_, rfl⟩
      rw [← hp] at n0 n1
      have HW := Lib.hid (And.intro hW hp)
      have HT := Lib.hid (And.intro hta htk)
      have HBW := Lib.hid (HB.out.trans (hb2.mono HB.out.size))
      have HB2 := Lib.hid hb2
      clear hM2 hCells hW hb2 hta htk hp HB
      go_upto_region 6 with fail
      rw [← HW.out.1, ← HW.out.2]
      clear HW c0 c1 q0
      by_cases q : k < 0
      · have HF2 := Lib.hid (HF.out.take (.inl q))
        clear HF HCl
        go_quiet (fail)
        have HB9 := Lib.hid (below_drewNT HBW.out nq)
        go_wp2
        go_roundw
        case rel => exact ⟨i + 1, i, by omega, rfl, by go_num, HF2, HB9⟩
        case measure => simp [intOf]; omega
      · obtain ⟨b, rfl⟩ : ∃ b : Nat, k = b := ⟨k.toNat, by omega⟩
        have hbi : b < i := by
          rcases HF.out with ⟨_, h1⟩ | ⟨b', hb', e, _⟩
          · omega
          · omega
        have bb : (b : Int) < (n : Int) := by omega
        have b0 : (0 : Int) ≤ (b : Int) := by omega
        obtain ⟨g', hg', _, d0, d1⟩ := HCl.out b (by omega)
        cases hg'
        have e0 := (HB2.out.cell (p := ⟨g, b * 2, none⟩) (block_lt_of_cell d0)).trans d0
        have e1 := (HB2.out.cell (p := ⟨g, b * 2 + 1, none⟩) (block_lt_of_cell d1)).trans d1
        obtain ⟨bk, hbk⟩ : ∃ x, x = (ts.getD b tm0).2 := ⟨_, rfl⟩
        obtain ⟨ba, hba⟩ : ∃ x, x = (ts.getD b tm0).1 := ⟨_, rfl⟩
        rw [← hbk] at e0
        rw [← hba] at e1
        have HBb := Lib.hid (And.intro hba hbk)
        clear d0 d1 hbk hba HCl HB2
        have hT : leW (ts.getD i tm0) (ts.getD b tm0) ↔ (ta < ba ∨ ta = ba ∧ tk ≤ bk) := by rw [HT.out.1, HT.out.2, HBb.out.1, HBb.out.2]; exact Iff.rfl
        have hK : leW (ts.getD b tm0) (ts.getD i tm0) ↔ (ba < ta ∨ ba = ta ∧ bk ≤ tk) := by rw [HT.out.1, HT.out.2, HBb.out.1, HBb.out.2]; exact Iff.rfl
        have HTK := Lib.hid (And.intro hT hK)
        clear hT hK
        by_cases q2 : ta < ba
        · have HF2 := Lib.hid (HF.out.take (.inr ⟨b, rfl, HTK.out.1.2 (.inl q2)⟩))
          clear HF
          go_quiet (fail)
          have HB9 := Lib.hid (below_drewNT HBW.out nq)
          go_wp2
          go_roundw
          case rel => exact ⟨i + 1, i, by omega, rfl, by go_num, HF2, HB9⟩
          case measure => simp [intOf]; omega
        · by_cases q3 : ta = ba
          · subst q3
            have qe : (ta == ta) = true := by simp
            by_cases q4 : tk < bk
            · have HF2 := Lib.hid (HF.out.take (.inr ⟨b, rfl, HTK.out.1.2 (.inr ⟨rfl, by omega⟩)⟩))
              clear HF
              go_quiet (fail)
              have HB9 := Lib.hid (below_drewNT HBW.out nq)
              go_wp2
              go_roundw
              case rel => exact ⟨i + 1, i, by omega, rfl, by go_num, HF2, HB9⟩
              case measure => simp [intOf]; omega
            · have HF2 := Lib.hid (HF.out.keep (HTK.out.2.2 (.inr ⟨rfl, by omega⟩)))
              clear HF
              go_quiet (fail)
              have HB9 := Lib.hid (below_drewNT HBW.out nq)
              go_wp2
              go_roundw
              case rel => exact ⟨i + 1, b, by omega, rfl, by go_num, HF2, HB9⟩
              case measure => simp [intOf]; omega
          · have qe : (ta == ba) = false := by simpa using q3
            have HF2 := Lib.hid (HF.out.keep (HTK.out.2.2 (.inl (by omega))))
            clear HF q3
            go_quiet (fail)
            have HB9 := Lib.hid (below_drewNT HBW.out nq)
            go_wp2
            go_roundw
            case rel => exact ⟨i + 1, b, by omega, rfl, by go_num, HF2, HB9⟩
            case measure => simp [intOf]; omega
    · obtain rfl : i = n := by omega
      have ii : ¬ (i : Int) < (i : Int) := by omega
      go_wp2
      go_ret
      exact ⟨⟨k, rfl, HF.out⟩, HB.out⟩
end Go.Proofs.Ythoegmcdohppoaa
