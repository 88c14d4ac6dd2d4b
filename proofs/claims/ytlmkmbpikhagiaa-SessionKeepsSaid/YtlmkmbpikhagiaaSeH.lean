/- Whether a script is large; whether a row has a number.
 Conditions: those stated. -/
import Derived.Test.YtlmkmbpikhagiaaO18b
import Derived.Test.YtlmkmbpikhagiaaAliB
namespace Go.Proofs.Ytlmkmbpikhagiaa
open Go Go.RowKit Go.Lib
set_option linter.unusedVariables false
set_option linter.unusedSimpArgs false

set_option maxRecDepth 100000 in
set_option maxHeartbeats 1000000 in
theorem has_c (x : Int) (l : List Int) (a : Option Addr) (n c : Nat) (w : World) (hI : InI w a n c l) (hn : n ≤ 4611686018427387904) :
    Calls Try.prog 26 #[.slice a n c, .int .i64 x] w fun e w' => e = .returned (.bool (decide (x ∈ l))) ∧ Below w.heap.size w w' := by
  have HI := Lib.hid hI
  have HB0 := Lib.hid (Below.refl w.heap.size w)
  have N0 : Hid (x ∉ l.take 0) := Lib.hid (by simp)
  have rm := hI.room
  clear hI
  go_enter Try.func26, Try.ntmps26
  go_wp2
  go_loopw [9] (fun i wr => ∃ j : Nat, j ≤ n ∧ i = .int .i64 j ∧ Hid (x ∉ l.take j) ∧ Hid (Below w.heap.size w wr)) (fun i _ => n - (intOf i).toNat)
  case atStart => exact ⟨0, by omega, rfl, N0, HB0⟩
  case round =>
    obtain ⟨j, hj, rfl, hE, hB⟩ := hrel
    clear HB0 N0
    by_cases hlj : j < n
    · obtain ⟨b1, o1, rfl⟩ := in_blockI HI.out (by omega)
      have c1 := in_cellI (HI.out.below hB.out) j hlj
      have ilj : (j : Int) < (n : Int) := by omega
      have j0 : (0 : Int) ≤ (j : Int) := by omega
      have hjl : j < l.length := by rw [HI.out.len]; exact hlj
      by_cases e : l.getD j 0 = x
      · have HM := Lib.hid (show decide (x ∈ l) = true from decide_eq_true (by rw [← e, List.getD_eq_getElem?_getD, List.getElem?_eq_getElem hjl]; exact List.getElem_mem hjl))
        rw [e] at c1
        clear e
        go_wp2
        go_ret
        exact ⟨by rw [HM.out]; rfl, hB.out⟩
      · have HS := Lib.hid (show x ∉ l.take (j + 1) by rw [take_more l 0 hjl]; intro hm; rcases List.mem_append.1 hm with h | h
                                                       · exact hE.out h
                                                       · exact e (List.mem_singleton.1 h).symm)
        obtain ⟨y, hy⟩ : ∃ y, y = l.getD j 0 := ⟨_, rfl⟩
        rw [← hy] at c1
        have qx : (y == x) = false := by rw [hy]; simpa using e
        clear hy e
        go_wp2
        go_roundw
        case rel => exact ⟨j + 1, by omega, by go_num, HS, hB⟩
        case measure => simp [intOf]; omega
    · have ilj : ¬ ((j : Int) < (n : Int)) := by omega
      have HM := Lib.hid (show decide (x ∈ l) = false from decide_eq_false (fun h => hE.out (by rw [List.take_of_length_le (by rw [HI.out.len]; omega)]; exact h)))
      go_wp2
      go_ret
      exact ⟨by rw [HM.out]; rfl, hB.out⟩
/-- It answers. -/
def AnyB (w : World) (e : Ending) (w' : World) : Prop := ∃ z, e = .returned (.bool z) ∧ Below w.heap.size w w'
set_option maxRecDepth 100000 in
set_option maxHeartbeats 2000000 in
theorem large_c (ao : Option Addr) (n c : Nat) (os : List OpR) (w : World) (hI : SOIn w ao n os) (hn : n ≤ 1152921504606846976) (hc : n ≤ c) :
    Calls Try.prog 11 #[.slice ao n c] w (AnyB w) := by
  have HI := Lib.hid hI
  have HB0 := Lib.hid (Below.refl w.heap.size w)
  clear hI
  go_enter Try.func11, Try.ntmps11
  go_wp2
  go_loopw [3, 8] (fun t i wr => ∃ j s : Nat, j ≤ n ∧ i = .int .i64 j ∧ t = .int .i64 s ∧ s ≤ 400 ∧ Hid (Below w.heap.size w wr)) (fun _ i _ => n - (intOf i).toNat)
  case atStart => exact ⟨0, 0, by omega, rfl, rfl, by omega, HB0⟩
  case round =>
    obtain ⟨j, s, hj, rfl, rfl, hs, HB⟩ := hrel
    clear HB0
    by_cases hlj : j < n
    · have hIr := HI.out.below HB.out
      obtain ⟨b, off, rfl⟩ := hIr.block (by omega)
      obtain ⟨o, ho⟩ : ∃ o, o = os.getD j opR := ⟨_, rfl⟩
      obtain ⟨e0, e1, e2, e3, e4, e5, e6⟩ := hIr.cells hlj ho.symm
      have hok := hIr.ok j hlj
      rw [← ho] at hok
      have hll := hok.few
      have hln := hok.len
      obtain ⟨kind, va, vn, vc, vips, fr, m, a, k, ca, bb, kk, d, now⟩ := o
      obtain ⟨mk, hmk⟩ : ∃ x, x = m.kind := ⟨_, rfl⟩
      simp only at e0 e1 e2 e3 e4 e5 e6 hll hln
      rw [← hmk] at e3
      obtain ⟨X, hX⟩ : ∃ X, X = wr.alloc (.cells #[.int .i64 kind, .slice va vn vc, .int .i64 fr, .int .i64 mk, .slice a k ca, .slice bb kk d, .int .i64 now] 42) := ⟨_, rfl⟩
      have hbX : Below wr.heap.size wr X := by rw [hX]; exact bl_al (Below.refl _ _) _
      have hqX : X.heap[wr.heap.size]? = some (.cells #[.int .i64 kind, .slice va vn vc, .int .i64 fr, .int .i64 mk, .slice a k ca, .slice bb kk d, .int .i64 now] 42 (0, 0)) := by rw [hX]; exact heap_alloc_new _ _
      obtain ⟨q, hq⟩ : ∃ q, q = wr.heap.size := ⟨_, rfl⟩
      rw [← hq] at hqX
      have c1 : X.cell? ⟨q, 1, none⟩ = some (.slice va vn vc) := by rw [cell_of_row X q _ _ _ _ hqX]; rfl
      have c4 : X.cell? ⟨q, 4, none⟩ = some (.slice a k ca) := by rw [cell_of_row X q _ _ _ _ hqX]; rfl
      have ilj : (j : Int) < (n : Int) := by omega
      have j0 : (0 : Int) ≤ (j : Int) := by omega
      have HBX := Lib.hid (bl_tr HB.out hbX)
      have HX := Lib.hid hX
      have HQ := Lib.hid hq
      clear hIr ho hX hbX hq hqX hok hmk
      go_upto_region 5 with fail
      rw [← HX.out, ← HQ.out]
      clear HX HQ e0 e1 e2 e3 e4 e5 e6
      go_upto_region 6 with fail
      obtain ⟨T, hT⟩ : ∃ T : Nat, T = s + (1 + vn / 8 + k / 8) := ⟨_, rfl⟩
      rw [show (s : Int) + (1 + (vn : Int) / 8 + (k : Int) / 8) = (T : Int) by omega]
      clear hT hll hln
      by_cases hg : 400 < T
      · have ig : (400 : Int) < (T : Int) := by omega
        clear hg
        go_wp2
        go_ret
        exact ⟨true, rfl, HBX.out⟩
      · have ig : ¬ ((400 : Int) < (T : Int)) := by omega
        have hT16 : T ≤ 400 := by omega
        clear hg
        by_cases hv : 300 < vn
        · have iv : (300 : Int) < (vn : Int) := by omega
          clear hv
          go_wp2
          go_ret
          exact ⟨true, rfl, HBX.out⟩
        · have iv : ¬ ((300 : Int) < (vn : Int)) := by omega
          clear hv
          go_wp2
          go_roundw
          case rel => exact ⟨j + 1, T, by omega, by go_num, rfl, hT16, HBX⟩
          case measure => simp [intOf]; omega
    · have ilj : ¬ ((j : Int) < (n : Int)) := by omega
      clear hlj
      go_wp2
      go_ret
      exact ⟨false, rfl, HB.out⟩
end Go.Proofs.Ytlmkmbpikhagiaa
