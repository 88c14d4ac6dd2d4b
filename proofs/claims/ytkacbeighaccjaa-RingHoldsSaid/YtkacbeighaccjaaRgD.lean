/- The document's Good. Conditions: the row came in. -/
import Derived.Test.YtkacbeighaccjaaRgC
namespace Go.Proofs.Ytkacbeighaccjaa
open Go Go.RowKit
set_option linter.unusedVariables false
set_option linter.unusedSimpArgs false

/-- An error's number. -/
def GoodP (P : Int) (ms : List Int) (z : Int) : Prop := (¬ OkP P → z = 4) ∧ (OkP P → ¬ OkMs ms → z = 9) ∧ (OkP P → OkMs ms → z = 0)
/-- The members so far. -/
def PreM (ms : List Int) (i : Nat) : Prop := (ms.take i).Nodup ∧ ∀ m ∈ ms.take i, 0 ≤ m ∧ m ≤ 65535
def BadM (ms : List Int) (m : Int) (j : Nat) : Prop := ¬ (0 ≤ m ∧ m ≤ 65535) ∨ m ∈ ms.take j
theorem PreM.step {ms : List Int} {i : Nat} (h : PreM ms i) (hi : i < ms.length) (hb : ¬ BadM ms (ms.getD i 0) i) : PreM ms (i + 1) := by
  unfold BadM at hb
  have h1 : 0 ≤ ms.getD i 0 ∧ ms.getD i 0 ≤ 65535 := Classical.byContradiction (fun h => hb (.inl h))
  have h2 : ms.getD i 0 ∉ ms.take i := fun h => hb (.inr h)
  constructor
  · rw [take_more ms 0 hi, List.nodup_append]
    exact ⟨h.1, by simp, fun a ha b hb2 => by
      rw [List.mem_singleton] at hb2
      intro e
      exact h2 (by rw [← hb2, ← e]; exact ha)⟩
  · intro m hm
    rw [take_more ms 0 hi, List.mem_append, List.mem_singleton] at hm
    rcases hm with hm | hm
    · exact h.2 m hm
    · rw [hm]; exact h1
theorem BadM.notok {ms : List Int} {i : Nat} (hi : i < ms.length) (hb : BadM ms (ms.getD i 0) i) : ¬ OkMs ms := by
  rintro ⟨_, hn, hr⟩
  have hm : ms.getD i 0 ∈ ms := by rw [List.getD_eq_getElem?_getD, List.getElem?_eq_getElem hi]; exact List.getElem_mem _
  rcases hb with hb | hb
  · exact hb (hr _ hm)
  · have h2 : ms.take i ++ ms.drop i = ms := List.take_append_drop i ms
    rw [← h2, List.nodup_append] at hn
    have hd : ms.getD i 0 ∈ ms.drop i := by
      rw [List.drop_eq_getElem_cons hi, List.getD_eq_getElem?_getD, List.getElem?_eq_getElem hi]
      exact List.mem_cons_self
    exact hn.2.2 _ hb _ hd rfl
/-- A truth value says it. -/
def IffB (z : Bool) (p : Prop) : Prop := z = true ↔ p
theorem BadM.more {ms : List Int} {m : Int} {j : Nat} (hj : j < ms.length) : BadM ms m (j + 1) ↔ BadM ms m j ∨ ms.getD j 0 = m := by
  unfold BadM
  rw [take_more ms 0 hj, List.mem_append, List.mem_singleton]
  constructor
  · rintro (h | h | h)
    · exact .inl (.inl h)
    · exact .inl (.inr h)
    · exact .inr h.symm
  · rintro ((h | h) | h)
    · exact .inl h
    · exact .inr (.inl h)
    · exact .inr (.inr h.symm)
set_option maxRecDepth 100000 in
set_option maxHeartbeats 4000000 in
theorem refGood_t (P : Int) (ms : List Int) (a : Option Addr) (n c : Nat) (w : World) (hI : InI w a n c ms) (hn : n ≤ 4611686018427387904) (z : Int) (hz : GoodP P ms z) :
    Calls Try.prog 12 #[.int .i64 P, .slice a n c] w fun e w' => e = .returned (.int .i64 z) ∧ Below w.heap.size w w' := by
  have HI := Lib.hid hI
  have HB0 := Lib.hid (Below.refl w.heap.size w)
  by_cases hp : OkP P
  · have hp1 : ¬ P < 1 := by unfold OkP at hp; omega
    have hp2 : ¬ 64 < P := by unfold OkP at hp; omega
    by_cases hl : 64 < n
    · have HZ : Hid (z = 9) := Lib.hid (hz.2.1 hp (fun h => by have := h.1; have := hI.len; omega))
      have il : (64 : Int) < (n : Int) := by omega
      have ip : (0 : Int) < (n : Int) := by omega
      clear hI hz hp
      go_enter Try.func12, Try.ntmps12
      go_wp2
      go_loopw [5, 6] (fun b v wr => b = .bool true ∧ v = .int .i64 0 ∧ Hid (Below w.heap.size w wr)) (fun _ _ _ => 0)
      case atStart => exact ⟨rfl, rfl, HB0⟩
      case round =>
        obtain ⟨rfl, rfl, HB⟩ := hrel
        obtain ⟨w2, rfl⟩ : ∃ v, v = wr := ⟨_, rfl⟩
        clear HB0
        go_wp2
        go_loopw [5, 7] (fun b v wr => b = .bool true ∧ v = .int .i64 0 ∧ Hid (Below w.heap.size w wr)) (fun _ _ _ => 0)
        case atStart => exact ⟨rfl, rfl, HB⟩
        case round =>
          clear HB
          obtain ⟨rfl, rfl, HB⟩ := hrel
          go_wp2
          go_ret
          exact ⟨by rw [HZ.out]; rfl, HB.out⟩
    · have hz' : (¬ OkMs ms → z = 9) ∧ (OkMs ms → z = 0) := ⟨hz.2.1 hp, hz.2.2 hp⟩
      have HZ := Lib.hid hz'
      have il : ¬ (64 : Int) < (n : Int) := by omega
      have HP0 : Hid (PreM ms 0) := Lib.hid ⟨by simp, fun m hm => by simp at hm⟩
      clear hI hz hp hz'
      go_enter Try.func12, Try.ntmps12
      go_wp2
      go_loopw [5, 6] (fun b v wr => ∃ i : Nat, i ≤ n ∧ b = .bool false ∧ v = .int .i64 i ∧ Hid (PreM ms i) ∧ Hid (Below w.heap.size w wr)) (fun _ v _ => n - (intOf v).toNat)
      case atStart => exact ⟨0, by omega, rfl, rfl, HP0, HB0⟩
      case round =>
        obtain ⟨i, hi, rfl, rfl, HP, HB⟩ := hrel
        obtain ⟨w2, rfl⟩ : ∃ v, v = wr := ⟨_, rfl⟩
        clear HB0 HP0
        have hlen := HI.out.len
        have i0 : (0 : Int) ≤ (i : Int) := by omega
        by_cases hli : i < n
        · obtain ⟨b1, o1, rfl⟩ := in_blockI HI.out (by omega)
          have ii : (i : Int) < (n : Int) := by omega
          have c1 := in_cellI (HI.out.below HB.out) i hli
          have HNo := Lib.hid (BadM.notok (ms := ms) (i := i) (by omega))
          have HYes := Lib.hid (HP.out.step (by omega))
          obtain ⟨m, hm⟩ : ∃ m, m = ms.getD i 0 := ⟨_, rfl⟩
          rw [← hm] at c1 HNo HYes
          have HM := Lib.hid hm
          clear hm
          go_upto_region 7 with fail
          go_cut [5] from 23 to 37 (fun v wx => wx = w2 ∧ ∃ z : Bool, v = .bool z ∧ Hid (IffB z (BadM ms m 0)))
          case first =>
            by_cases q1 : m < 0
            · have HC : Hid (IffB true (BadM ms m 0)) := Lib.hid ⟨fun _ => .inl (by omega), fun _ => rfl⟩
              go_wp2_with fail
              go_meet
              exact ⟨rfl, true, rfl, HC⟩
            · by_cases q2 : 65535 < m
              · have HC : Hid (IffB true (BadM ms m 0)) := Lib.hid ⟨fun _ => .inl (by omega), fun _ => rfl⟩
                go_wp2_with fail
                go_meet
                exact ⟨rfl, true, rfl, HC⟩
              · have HC : Hid (IffB false (BadM ms m 0)) := Lib.hid ⟨fun h => by simp at h, fun h => by
                  rcases h with h | h
                  · omega
                  · simp at h⟩
                go_wp2_with fail
                go_meet
                exact ⟨rfl, false, rfl, HC⟩
          case rest =>
            obtain ⟨rfl, z0, rfl, HC0⟩ := hcut
            go_wp2
            go_loopw [5, 7] (fun b v wr => ∃ (j : Nat) (zb : Bool), j ≤ i ∧ b = .bool zb ∧ v = .int .i64 j ∧ Hid (IffB zb (BadM ms m j)) ∧ Hid (Below w.heap.size w wr)) (fun _ v _ => i - (intOf v).toNat)
            case atStart => exact ⟨0, z0, by omega, rfl, rfl, HC0, HB⟩
            case round =>
              obtain ⟨j, zb, hj, rfl, rfl, HC, HB2⟩ := hrel
              have hi64 : i < 64 := by omega
              by_cases hlj : j < i
              · have jj : (j : Int) < (i : Int) := by omega
                have j1 : (j : Int) < 100 := by omega
                have j0 : (0 : Int) ≤ (j : Int) := by omega
                have jn : (j : Int) < (n : Int) := by omega
                have c2 := in_cellI (HI.out.below HB2.out) i hli
                have c3 := in_cellI (HI.out.below HB2.out) j (by omega)
                rw [← HM.out] at c2
                have HMore := Lib.hid (BadM.more (ms := ms) (m := m) (j := j) (by omega))
                obtain ⟨y, hy⟩ : ∃ y, y = ms.getD j 0 := ⟨_, rfl⟩
                rw [← hy] at c3 HMore
                clear hy
                cases zb with
                | true =>
                  have HC2 : Hid (IffB true (BadM ms m (j + 1))) := Lib.hid ⟨fun h => HMore.out.2 (.inl (HC.out.1 h)), fun _ => rfl⟩
                  clear HMore HC
                  go_wp2
                  go_quiet (fail)
                  rename_i nq
                  have HB9 : Hid (Below w.heap.size w (wr.drewN nq)) := Lib.hid (below_drewN' HB2.out nq)
                  go_wp2
                  go_roundw
                  case rel => exact ⟨j + 1, true, by omega, rfl, by go_num, HC2, HB9⟩
                  case measure => simp [intOf]; omega
                | false =>
                  by_cases e : y = m
                  · have HC2 : Hid (IffB true (BadM ms m (j + 1))) := Lib.hid ⟨fun h => HMore.out.2 (.inr e), fun _ => rfl⟩
                    have q : (y == m) = true := by simpa using e
                    clear HMore HC e
                    go_wp2
                    go_quiet (fail)
                    rename_i nq
                    have HB9 : Hid (Below w.heap.size w (wr.drewN nq)) := Lib.hid (below_drewN' HB2.out nq)
                    go_wp2
                    go_roundw
                    case rel => exact ⟨j + 1, true, by omega, rfl, by go_num, HC2, HB9⟩
                    case measure => simp [intOf]; omega
                  · have HC2 : Hid (IffB false (BadM ms m (j + 1))) := Lib.hid ⟨fun h => by simp at h, fun h => (HMore.out.1 h).elim HC.out.2 (fun h => absurd h e)⟩
                    have q : (y == m) = false := by simpa using e
                    clear HMore HC e
                    go_wp2
                    go_quiet (fail)
                    rename_i nq
                    have HB9 : Hid (Below w.heap.size w (wr.drewN nq)) := Lib.hid (below_drewN' HB2.out nq)
                    go_wp2
                    go_roundw
                    case rel => exact ⟨j + 1, false, by omega, rfl, by go_num, HC2, HB9⟩
                    case measure => simp [intOf]; omega
              · obtain rfl : j = i := by omega
                have jj : ¬ (j : Int) < (j : Int) := by omega
                cases zb with
                | true =>
                  have HE : Hid (z = 9) := Lib.hid (HZ.out.1 (HNo.out (HC.out.1 rfl)))
                  clear HNo HYes HC
                  go_wp2
                  go_ret
                  exact ⟨by rw [HE.out]; rfl, HB2.out⟩
                | false =>
                  have HP2 : Hid (PreM ms (j + 1)) := Lib.hid (HYes.out (fun h => by have := HC.out.2 h; simp at this))
                  clear HNo HYes HC
                  go_wp2
                  go_roundw
                  case rel => exact ⟨j + 1, by omega, rfl, by go_num, HP2, HB2⟩
                  case measure => simp [intOf]; omega
        · have HE : Hid (z = 0) := Lib.hid (HZ.out.2 ⟨by omega, by have := HP.out.1; rwa [List.take_of_length_le (by omega)] at this, by have := HP.out.2; rwa [List.take_of_length_le (by omega)] at this⟩)
          have ii : ¬ (i : Int) < (n : Int) := by omega
          go_wp2
          go_ret
          exact ⟨by rw [HE.out]; rfl, HB.out⟩
  · have HZ := Lib.hid (hz.1 hp)
    unfold OkP at hp
    clear hI hz
    by_cases q1 : P < 1
    · clear hp
      go_enter Try.func12, Try.ntmps12
      go_wp2
      go_ret
      exact ⟨by rw [HZ.out]; rfl, HB0.out⟩
    · have q2 : 64 < P := by omega
      clear hp
      go_enter Try.func12, Try.ntmps12
      go_wp2
      go_ret
      exact ⟨by rw [HZ.out]; rfl, HB0.out⟩
end Go.Proofs.Ytkacbeighaccjaa
