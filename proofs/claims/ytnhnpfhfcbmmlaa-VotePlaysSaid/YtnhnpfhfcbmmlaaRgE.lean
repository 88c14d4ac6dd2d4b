/- The document's Ends. Conditions: the row came in. -/
import Derived.Test.YtnhnpfhfcbmmlaaVtE
import Derived.Test.YtnhnpfhfcbmmlaaSbL
namespace Go.Proofs.Ytnhnpfhfcbmmlaa
open Go Go.RowKit
set_option linter.unusedVariables false
set_option linter.unusedSimpArgs false

set_option maxRecDepth 100000 in
set_option maxHeartbeats 4000000 in
theorem refEnds_t (es : List En) (a : Option Addr) (n c : Nat) (w : World) (hI : InE w a n c es) (hn : n ≤ 4611686018427387904) (z : Bool) (hz : z = true ↔ OkE es) :
    Calls Try.prog 67 #[.slice a n c] w fun e w' => e = .returned (.bool z) ∧ Below w.heap.size w w' := by
  have HI := Lib.hid hI
  have HB0 := Lib.hid (Below.refl w.heap.size w)
  have HNO : Hid (¬ OkE es → z = false) := Lib.hid (fun h => by
    cases hzz : z with
    | false => rfl
    | true => exact absurd (hz.1 hzz) h)
  have HYE : Hid (OkE es → z = true) := Lib.hid hz.2
  by_cases hl : 64 < n
  · have HZ : Hid (z = false) := Lib.hid (HNO.out (fun h => by have := h.1; have := hI.len; omega))
    have il : (64 : Int) < (n : Int) := by omega
    clear hI hz
    go_enter Try.func67, Try.ntmps67
    go_wp2
    go_ret
    exact ⟨by rw [HZ.out]; rfl, HB0.out⟩
  · have il : ¬ (64 : Int) < (n : Int) := by omega
    have HP0 : Hid (PreE es 0) := Lib.hid ⟨fun e he => by simp at he, by simp⟩
    clear hI hz
    go_enter Try.func67, Try.ntmps67
    go_wp2
    go_loopw [3] (fun v wr => ∃ i : Nat, i ≤ n ∧ v = .int .i64 i ∧ Hid (PreE es i) ∧ Hid (Below w.heap.size w wr)) (fun v _ => n - (intOf v).toNat)
    case atStart => exact ⟨0, by omega, rfl, HP0, HB0⟩
    case round =>
      obtain ⟨i, hi, rfl, HP, HB⟩ := hrel
      obtain ⟨w2, rfl⟩ : ∃ v, v = wr := ⟨_, rfl⟩
      clear HB0 HP0
      have hlen := HI.out.len
      have i0 : (0 : Int) ≤ (i : Int) := by omega
      by_cases hli : i < n
      · obtain ⟨b1, o1, rfl⟩ := HI.out.block (by omega)
        have ii : (i : Int) < (n : Int) := by omega
        obtain ⟨c1, c2, c3⟩ := (HI.out.below HB.out).cell hli
        have HTy := Lib.hid (HI.out.typ _ (memE (es := es) (i := i) (by omega)))
        have HBad : Hid (¬ GoodE (es.getD i en0) → z = false) := Lib.hid (fun h => HNO.out (fun h2 => h (h2.2.1 _ (memE (by omega)))))
        have HStep := Lib.hid (HP.out.step (by omega))
        have HDup : Hid ((es.getD i en0).dip ∈ (es.take i).map (·.dip) → z = false) := Lib.hid (fun h => HNO.out (dup_not (by omega) h))
        obtain ⟨e, he⟩ : ∃ e, e = es.getD i en0 := ⟨_, rfl⟩
        rw [← he] at c1 c2 c3 HTy HBad HStep HDup
        have HE := Lib.hid he
        obtain ⟨d, hd⟩ : ∃ d, d = e.dip := ⟨_, rfl⟩
        obtain ⟨p, hp⟩ : ∃ d, d = e.port := ⟨_, rfl⟩
        obtain ⟨t, ht⟩ : ∃ d, d = e.wt := ⟨_, rfl⟩
        have HBad2 : Hid (¬ (IsDip d ∧ (0 ≤ p ∧ p ≤ 65535) ∧ (1 ≤ t ∧ t ≤ 16)) → z = false) := Lib.hid (fun h => HBad.out (fun hg => h (by rw [hd, hp, ht]; exact hg)))
        have HGood : Hid (IsDip d ∧ (0 ≤ p ∧ p ≤ 65535) ∧ (1 ≤ t ∧ t ≤ 16) → GoodE e) := Lib.hid (fun h => by rw [hd, hp, ht] at h; exact h)
        rw [← hd] at c1 HStep HDup
        rw [← hp] at c2
        rw [← ht] at c3
        have HD := Lib.hid hd
        clear he hd hp ht HBad
        by_cases q0 : IsDip d
        · have CH := Lib.hid (refHome_ok d q0 w2)
          have HQ0 := Lib.hid q0
          clear q0
          by_cases q1 : p < 0
          · have HZ : Hid (z = false) := Lib.hid (HBad2.out (fun h => by have := h.2.1; have := h.2.2; omega))
            go_wp2_with fail
            refine CH.out.mono ?_
            rintro e w9 ⟨rfl, rfl⟩
            clear CH
            go_wp2
            go_ret
            exact ⟨by rw [HZ.out]; rfl, HB.out⟩
          by_cases q2 : 65535 < p
          · have HZ : Hid (z = false) := Lib.hid (HBad2.out (fun h => by have := h.2.1; have := h.2.2; omega))
            go_wp2_with fail
            refine CH.out.mono ?_
            rintro e w9 ⟨rfl, rfl⟩
            clear CH
            go_wp2
            go_ret
            exact ⟨by rw [HZ.out]; rfl, HB.out⟩
          by_cases q3 : t < 1
          · have HZ : Hid (z = false) := Lib.hid (HBad2.out (fun h => by have := h.2.1; have := h.2.2; omega))
            go_wp2_with fail
            refine CH.out.mono ?_
            rintro e w9 ⟨rfl, rfl⟩
            clear CH
            go_wp2
            go_ret
            exact ⟨by rw [HZ.out]; rfl, HB.out⟩
          by_cases q4 : 16 < t
          · have HZ : Hid (z = false) := Lib.hid (HBad2.out (fun h => by have := h.2.1; have := h.2.2; omega))
            go_wp2_with fail
            refine CH.out.mono ?_
            rintro e w9 ⟨rfl, rfl⟩
            clear CH
            go_wp2
            go_ret
            exact ⟨by rw [HZ.out]; rfl, HB.out⟩
          have HG := Lib.hid (HGood.out ⟨HQ0.out, ⟨by omega, by omega⟩, by omega, by omega⟩)
          have HN0 : Hid (d ∉ (es.take 0).map (·.dip)) := Lib.hid (by simp)
          clear HGood HBad2
          go_wp2_with fail
          refine CH.out.mono ?_
          rintro e w9 ⟨rfl, rfl⟩
          clear CH
          go_wp2
          go_loopw [7] (fun v wr => ∃ j : Nat, j ≤ i ∧ v = .int .i64 j ∧ Hid (d ∉ (es.take j).map (·.dip)) ∧ Hid (Below w.heap.size w wr)) (fun v _ => i - (intOf v).toNat)
          case atStart => exact ⟨0, by omega, rfl, HN0, HB⟩
          case round =>
            obtain ⟨j, hj, rfl, HN, HB2⟩ := hrel
            clear HN0 c1 c2 c3
            by_cases hlj : j < i
            · have jj : (j : Int) < (i : Int) := by omega
              have j0 : (0 : Int) ≤ (j : Int) := by omega
              have jn : (j : Int) < (n : Int) := by omega
              have c1 := ((HI.out.below HB2.out).cell hli).1
              have c4 := ((HI.out.below HB2.out).cell (j := j) (by omega)).1
              rw [← HE.out, ← HD.out] at c1
              have HMore : Hid ((es.take (j + 1)).map (·.dip) = (es.take j).map (·.dip) ++ [(es.getD j en0).dip]) := Lib.hid (by rw [take_moreE es (by omega), List.map_append]; rfl)
              obtain ⟨y, hy⟩ : ∃ y, y = (es.getD j en0).dip := ⟨_, rfl⟩
              rw [← hy] at c4 HMore
              have HY := Lib.hid hy
              clear hy
              by_cases e : y = d
              · have HZ : Hid (z = false) := Lib.hid (HDup.out (by
                  rw [← e, HY.out]
                  exact List.mem_map.2 ⟨_, by
                    rw [List.mem_iff_getElem?]
                    exact ⟨j, by rw [List.getElem?_take, if_pos hlj, List.getElem?_eq_getElem (by omega), List.getD_eq_getElem?_getD, List.getElem?_eq_getElem (by omega)]; rfl⟩, rfl⟩))
                have q : (y == d) = true := by simpa using e
                clear e
                go_wp2
                go_quiet (fail)
                rename_i nq
                have HB9 : Hid (Below w.heap.size w (wr.drewN nq)) := Lib.hid (bl_dn HB2.out nq)
                go_wp2
                go_ret
                exact ⟨by rw [HZ.out]; rfl, HB9.out⟩
              · have q : (y == d) = false := by simpa using e
                have HN2 : Hid (d ∉ (es.take (j + 1)).map (·.dip)) := Lib.hid (by
                  rw [HMore.out, List.mem_append, List.mem_singleton]
                  exact fun h => h.elim HN.out (fun h => e h.symm))
                clear e HMore HN
                go_wp2
                go_quiet (fail)
                rename_i nq
                have HB9 : Hid (Below w.heap.size w (wr.drewN nq)) := Lib.hid (bl_dn HB2.out nq)
                go_wp2
                go_roundw
                case rel => exact ⟨j + 1, by omega, by go_num, HN2, HB9⟩
                case measure => simp [intOf]; omega
            · obtain rfl : j = i := by omega
              have jj : ¬ (j : Int) < (j : Int) := by omega
              have HP2 : Hid (PreE es (j + 1)) := Lib.hid (HStep.out HG.out HN.out)
              clear HN HStep HDup
              go_wp2
              go_roundw
              case rel => exact ⟨j + 1, by omega, by go_num, HP2, HB2⟩
              case measure => simp [intOf]; omega
        · have CH := Lib.hid (refHome_no d q0 w2)
          have HZ : Hid (z = false) := Lib.hid (HBad2.out (fun h => q0 h.1))
          clear q0
          go_wp2_with fail
          refine CH.out.mono ?_
          rintro e w9 ⟨rfl, rfl⟩
          clear CH
          go_wp2
          go_ret
          exact ⟨by rw [HZ.out]; rfl, HB.out⟩
      · have HE : Hid (z = true) := Lib.hid (HYE.out ⟨by omega, by have := HP.out.1; rwa [List.take_of_length_le (by omega)] at this, by have := HP.out.2; rwa [List.take_of_length_le (by omega)] at this⟩)
        have ii : ¬ (i : Int) < (n : Int) := by omega
        go_wp2
        go_ret
        exact ⟨by rw [HE.out]; rfl, HB.out⟩
end Go.Proofs.Ytnhnpfhfcbmmlaa
