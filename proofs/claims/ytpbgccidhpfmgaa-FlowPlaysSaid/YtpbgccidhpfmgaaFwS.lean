/- Lists of entries, of flows, compared. Conditions: at most 2^62 of them. -/
import Derived.Test.YtpbgccidhpfmgaaFwG
namespace Go.Proofs.Ytpbgccidhpfmgaa
open Go Go.RowKit
set_option linter.unusedVariables false
set_option linter.unusedSimpArgs false

/-- Entries in memory. -/
structure InE (w : World) (a : Option Addr) (n : Nat) (l : List En) : Prop where
  len : l.length = n
  here : l = [] ∨ ∃ b off, a = some ⟨b, off, none⟩ ∧ ∀ j, j < l.length → EnAt w b (off + j * 10) (l.getD j en0)
theorem InE.tch {T : Nat → Prop} {w w' : World} {a : Option Addr} {n : Nat} {l : List En} (h : InE w a n l) (ht : Tch T w w') (hn : ∀ b off, a = some ⟨b, off, none⟩ → 0 < n → ¬ T b) : InE w' a n l := by
  refine ⟨h.len, ?_⟩
  rcases h.here with h0 | ⟨b, off, ha, hc⟩
  · exact .inl h0
  · exact .inr ⟨b, off, ha, fun j hj => (hc j hj).tch ht (hn b off ha (by have := h.len; omega))⟩
theorem InE.below {w w' : World} {a : Option Addr} {n : Nat} {l : List En} (h : InE w a n l) (hb : Below w.heap.size w w') : InE w' a n l := h.tch (tch_new hb) (fun _ _ _ _ h => h)
theorem InE.at {w : World} {a : Option Addr} {n : Nat} {l : List En} (h : InE w a n l) {j : Nat} (hj : j < n) : ∃ b off, a = some ⟨b, off, none⟩ ∧ EnAt w b (off + j * 10) (l.getD j en0) := by
  have hl := h.len
  rcases h.here with h0 | ⟨b, off, ha, hc⟩
  · rw [h0] at hl; simp at hl; omega
  · exact ⟨b, off, ha, hc j (by omega)⟩
theorem ownE_in {w : World} {B n c : Nat} {ao : Option Addr} {l : List En} (h : w.ownsRow B tyE 10 (.slice ao n c) n (cellsE l)) : InE w ao n l := by
  refine ⟨ownE_len h, ?_⟩
  by_cases h0 : n = 0
  · exact .inl (List.eq_nil_of_length_eq_zero (by rw [ownE_len h, h0]))
  · obtain ⟨g, rfl, _, _⟩ := ownE_cell h (j := 0) (by omega)
    refine .inr ⟨g, 0, rfl, fun j hj => ?_⟩
    obtain ⟨g2, e, _, hc⟩ := ownE_cell h (j := j) (by rw [← ownE_len h]; exact hj)
    cases e
    rw [Nat.zero_add]
    exact hc
theorem take_eq {α : Type} {l k : List α} {d : α} {i : Nat} (h1 : i < l.length) (h2 : i < k.length) (h : l.take i = k.take i) (e : l.getD i d = k.getD i d) : l.take (i + 1) = k.take (i + 1) := by
  rw [take_more l d h1, take_more k d h2, h, e]
theorem getD_ne {α : Type} {l k : List α} {d : α} {i : Nat} (e : l.getD i d ≠ k.getD i d) : l ≠ k := fun h => e (by rw [h])
set_option maxRecDepth 100000 in
set_option maxHeartbeats 2000000 in
theorem refSameE_c (l k : List En) (a b : Option Addr) (n1 n2 c1 c2 : Nat) (w : World) (hA : InE w a n1 l) (hB : InE w b n2 k) (hn : n1 ≤ 4611686018427387904) (hn2 : n2 ≤ 4611686018427387904) :
    Calls Try.prog 28 #[.slice a n1 c1, .slice b n2 c2] w fun e w' => e = .returned (.bool (decide (l = k))) ∧ Below w.heap.size w w' := by
  have hl1 := hA.len
  have hl2 := hB.len
  have HA := Lib.hid hA
  have HB := Lib.hid hB
  clear hA hB
  by_cases hne : n1 = n2
  · subst hne
    have R0 : Hid (l.take 0 = k.take 0) := Lib.hid rfl
    have HE : Hid (l.take n1 = k.take n1 → l = k) := Lib.hid (fun h => by rwa [List.take_of_length_le (by omega), List.take_of_length_le (by omega)] at h)
    go_enter Try.func28, Try.ntmps28
    go_wp2
    go_loopw [5] (fun iv wr => ∃ i : Nat, i ≤ n1 ∧ iv = .int .i64 i ∧ Hid (l.take i = k.take i) ∧ Hid (Below w.heap.size w wr)) (fun iv _ => n1 - (intOf iv).toNat)
    case atStart => exact ⟨0, by omega, rfl, R0, Lib.hid (Below.refl _ _)⟩
    case round =>
      obtain ⟨i, hi, rfl, HR, HBl⟩ := hrel
      obtain ⟨w2, rfl⟩ : ∃ v, v = wr := ⟨_, rfl⟩
      clear R0
      by_cases hlt : i < n1
      · have ii : (i : Int) < (n1 : Int) := by omega
        have i0 : (0 : Int) ≤ (i : Int) := by omega
        obtain ⟨g1, o1, ea, hx⟩ := (HA.out.below HBl.out).at hlt
        obtain ⟨g2, o2, eb, hy⟩ := (HB.out.below HBl.out).at hlt
        have HS := Lib.hid (take_eq (d := en0) (i := i) (by omega) (by omega) HR.out)
        have HN := Lib.hid (getD_ne (l := l) (k := k) (d := en0) (i := i))
        obtain ⟨x, ex⟩ : ∃ x, x = l.getD i en0 := ⟨_, rfl⟩
        obtain ⟨y, ey⟩ : ∃ y, y = k.getD i en0 := ⟨_, rfl⟩
        rw [← ex] at hx HS HN
        rw [← ey] at hy HS HN
        subst ea
        subst eb
        obtain ⟨c0, c1, c2, c3, c4, c5, c6, c7, c8, c9⟩ := hx
        obtain ⟨d0, d1, d2, d3, d4, d5, d6, d7, d8, d9⟩ := hy
        have hq := entry_neq x y
        clear ex ey
        by_cases e : x = y
        · have he : eqE x y = true := by rw [eqE_is]; exact decide_eq_true e
          rw [he] at hq
          have hq' : ∀ w, _ := hq
          simp only [Bool.not_true] at hq
          have HR2 := Lib.hid (HS.out e)
          clear e he hq' HS HN HR
          go_wp2
          go_quiet (fail)
          have HB9 := Lib.hid (below_drewNT HBl.out nq)
          go_wp2
          go_roundw
          case rel => exact ⟨i + 1, by omega, by go_num, HR2, HB9⟩
          case measure => simp [intOf]; omega
        · have he : eqE x y = false := by rw [eqE_is]; exact decide_eq_false e
          rw [he] at hq
          simp only [Bool.not_false] at hq
          have HN2 : Hid (decide (l = k) = false) := Lib.hid (decide_eq_false (HN.out e))
          clear e he HS HN HR
          go_wp2
          go_quiet (fail)
          have HB9 := Lib.hid (below_drewNT HBl.out nq)
          go_wp2
          go_ret
          exact ⟨by rw [HN2.out]; rfl, HB9.out⟩
      · obtain rfl : i = n1 := by omega
        have ii : ¬ (i : Int) < (i : Int) := by omega
        have HD : Hid (decide (l = k) = true) := Lib.hid (decide_eq_true (HE.out HR.out))
        clear HR
        go_wp2
        go_ret
        exact ⟨by rw [HD.out]; rfl, HBl.out⟩
  · have HD : Hid (decide (l = k) = false) := Lib.hid (decide_eq_false (fun e => hne (by rw [← hl1, ← hl2, e])))
    have q1 : ((n1 : Int) != (n2 : Int)) = true := by simp; omega
    go_enter Try.func28, Try.ntmps28
    go_wp2
    go_ret
    exact ⟨by rw [HD.out]; rfl, Below.refl _ _⟩
set_option maxRecDepth 100000 in
set_option maxHeartbeats 2000000 in
theorem refSameF_c (l k : List Fl) (a b : Option Addr) (n1 n2 c1 c2 : Nat) (w : World) (hA : InF w a n1 l) (hB : InF w b n2 k) (hn : n1 ≤ 4611686018427387904) (hn2 : n2 ≤ 4611686018427387904) :
    Calls Try.prog 23 #[.slice a n1 c1, .slice b n2 c2] w fun e w' => e = .returned (.bool (decide (l = k))) ∧ Below w.heap.size w w' := by
  have hl1 := hA.len
  have hl2 := hB.len
  have HA := Lib.hid hA
  have HB := Lib.hid hB
  clear hA hB
  by_cases hne : n1 = n2
  · subst hne
    have R0 : Hid (l.take 0 = k.take 0) := Lib.hid rfl
    have HE : Hid (l.take n1 = k.take n1 → l = k) := Lib.hid (fun h => by rwa [List.take_of_length_le (by omega), List.take_of_length_le (by omega)] at h)
    go_enter Try.func23, Try.ntmps23
    go_wp2
    go_loopw [5] (fun iv wr => ∃ i : Nat, i ≤ n1 ∧ iv = .int .i64 i ∧ Hid (l.take i = k.take i) ∧ Hid (Below w.heap.size w wr)) (fun iv _ => n1 - (intOf iv).toNat)
    case atStart => exact ⟨0, by omega, rfl, R0, Lib.hid (Below.refl _ _)⟩
    case round =>
      obtain ⟨i, hi, rfl, HR, HBl⟩ := hrel
      obtain ⟨w2, rfl⟩ : ∃ v, v = wr := ⟨_, rfl⟩
      clear R0
      by_cases hlt : i < n1
      · have ii : (i : Int) < (n1 : Int) := by omega
        have i0 : (0 : Int) ≤ (i : Int) := by omega
        obtain ⟨g1, o1, ea, hx⟩ := (HA.out.below HBl.out).at hlt
        obtain ⟨g2, o2, eb, hy⟩ := (HB.out.below HBl.out).at hlt
        have HS := Lib.hid (take_eq (d := fl0) (i := i) (by omega) (by omega) HR.out)
        have HN := Lib.hid (getD_ne (l := l) (k := k) (d := fl0) (i := i))
        obtain ⟨x, ex⟩ : ∃ x, x = l.getD i fl0 := ⟨_, rfl⟩
        obtain ⟨y, ey⟩ : ∃ y, y = k.getD i fl0 := ⟨_, rfl⟩
        rw [← ex] at hx HS HN
        rw [← ey] at hy HS HN
        subst ea
        subst eb
        obtain ⟨c0, c1, c2, c3, c4⟩ := hx
        obtain ⟨d0, d1, d2, d3, d4⟩ := hy
        have hq := flow_neq x y
        clear ex ey
        by_cases e : x = y
        · have he : eqF x y = true := by rw [eqF_is]; exact decide_eq_true e
          rw [he] at hq
          have hq' : ∀ w, _ := hq
          simp only [Bool.not_true] at hq
          have HR2 := Lib.hid (HS.out e)
          clear e he hq' HS HN HR
          go_wp2
          go_quiet (fail)
          have HB9 := Lib.hid (below_drewNT HBl.out nq)
          go_wp2
          go_roundw
          case rel => exact ⟨i + 1, by omega, by go_num, HR2, HB9⟩
          case measure => simp [intOf]; omega
        · have he : eqF x y = false := by rw [eqF_is]; exact decide_eq_false e
          rw [he] at hq
          simp only [Bool.not_false] at hq
          have HN2 : Hid (decide (l = k) = false) := Lib.hid (decide_eq_false (HN.out e))
          clear e he HS HN HR
          go_wp2
          go_quiet (fail)
          have HB9 := Lib.hid (below_drewNT HBl.out nq)
          go_wp2
          go_ret
          exact ⟨by rw [HN2.out]; rfl, HB9.out⟩
      · obtain rfl : i = n1 := by omega
        have ii : ¬ (i : Int) < (i : Int) := by omega
        have HD : Hid (decide (l = k) = true) := Lib.hid (decide_eq_true (HE.out HR.out))
        clear HR
        go_wp2
        go_ret
        exact ⟨by rw [HD.out]; rfl, HBl.out⟩
  · have HD : Hid (decide (l = k) = false) := Lib.hid (decide_eq_false (fun e => hne (by rw [← hl1, ← hl2, e])))
    have q1 : ((n1 : Int) != (n2 : Int)) = true := by simp; omega
    go_enter Try.func23, Try.ntmps23
    go_wp2
    go_ret
    exact ⟨by rw [HD.out]; rfl, Below.refl _ _⟩
end Go.Proofs.Ytpbgccidhpfmgaa
