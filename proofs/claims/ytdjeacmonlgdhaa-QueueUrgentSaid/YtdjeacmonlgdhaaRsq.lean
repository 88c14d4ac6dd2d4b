/- Contracts of towpathnum's Rows and Sum. Conditions: the rows lie in memory; at most 2^62 of them. -/
import Derived.Test.YtdjeacmonlgdhaaCps
namespace Go.Proofs.Ytdjeacmonlgdhaa
open Go Go.RowKit
set_option linter.unusedVariables false
set_option linter.unusedSimpArgs false

/-- Rows of bytes in memory, to be read. -/
structure Rsd (w : World) (ao : Option Addr) (n : Nat) (us : List Value) (ps : List (List Int)) : Prop where
  len : ps.length = n
  here : n = 0 ∨ ∃ b off, ao = some ⟨b, off, none⟩ ∧ ∀ j, j < n → w.cell? ⟨b, off + j, none⟩ = some (us.getD j undef)
  rows : ∀ j, j < n → ∃ a k c, us.getD j undef = .slice a k c ∧ At w (.slice a k c) (ps.getD j []) ∧ (ps.getD j []).length = k ∧ fit (ps.getD j [])
theorem Rsd.below {w w' : World} {ao : Option Addr} {n : Nat} {us : List Value} {ps : List (List Int)} (h : Rsd w ao n us ps) (hb : Below w.heap.size w w') : Rsd w' ao n us ps :=
  ⟨h.len, h.here.imp id (fun ⟨b, off, e, hc⟩ => ⟨b, off, e, fun j hj => cell_later hb (hc j hj)⟩), fun j hj => by
    obtain ⟨a, k, c, e, hA, hk, hf⟩ := h.rows j hj
    exact ⟨a, k, c, e, hA.below hb, hk, hf⟩⟩
theorem RsIn.rsd {w : World} {ao : Option Addr} {n cap : Nat} {us : List Value} {ps : List (List Int)} (h : RsIn w ao n cap us ps) : Rsd w ao n us ps := by
  refine ⟨h.len, ?_, fun j hj => ?_⟩
  · rcases Nat.eq_zero_or_pos n with e | e
    · exact .inl e
    · obtain ⟨b, off, rfl⟩ := h.block e
      exact .inr ⟨b, off, rfl, fun j hj => h.cell hj⟩
  · obtain ⟨a, k, c, e, hi⟩ := h.rows.at (j := j) (by rw [h.len]; exact hj)
    exact ⟨a, k, c, e, hi.here, hi.len, hi.fit⟩
theorem rsd_own {w : World} {B B' n c : Nat} {ao : Option Addr} {vs : List Value} {ps : List (List Int)} (h : w.ownsRow B 42 1 (.slice ao n c) n vs) (hr : Rws w B' vs ps) : Rsd w ao n vs ps := by
  have hl : ps.length = n := by have h1 := h.1; have h2 := hr.len; omega
  refine ⟨hl, ?_, fun j hj => ?_⟩
  · rcases Nat.eq_zero_or_pos n with e | e
    · exact .inl e
    · obtain ⟨g, c', hv, _⟩ := own_shape h e
      cases hv
      exact .inr ⟨g, 0, rfl, fun j hj => by rw [Nat.zero_add]; exact own_at h hj⟩
  · obtain ⟨ho, hf⟩ := hr.at (j := j) (by omega)
    obtain ⟨a, k, hv⟩ := own_form ho
    refine ⟨a, _, k, hv, ?_, rfl, hf⟩
    rw [← hv]
    exact At.own ho
theorem rows_step {ps qs : List (List Int)} {j : Nat} (h : ps.take j = qs.take j) (h1 : j < ps.length) (h2 : j < qs.length) (e : ps.getD j [] = qs.getD j []) : ps.take (j + 1) = qs.take (j + 1) := by
  rw [take_moreL ps [] h1, take_moreL qs [] h2, h, e]
set_option maxRecDepth 100000 in
set_option maxHeartbeats 1000000 in
theorem rows_t (us vs : List Value) (ps qs : List (List Int)) (a b : Option Addr) (n c k d : Nat) (w : World) (hI : Rsd w a n us ps) (hJ : Rsd w b k vs qs) (hn : n ≤ 4611686018427387904) (z : Bool) (hz : z = true ↔ ps = qs) :
    Calls Try.prog 19 #[.slice a n c, .slice b k d] w fun e w' => e = .returned (.bool z) ∧ Below w.heap.size w w' := by
  have HI := Lib.hid hI
  have HJ := Lib.hid hJ
  have HZ := Lib.hid hz
  have HB0 := Lib.hid (Below.refl w.heap.size w)
  by_cases hk : n = k
  · subst hk
    clear hI hJ hz
    go_enter Try.func19, Try.ntmps19
    go_wp2
    go_loopw [5, 13] (fun _ i wr => ∃ j : Nat, j ≤ n ∧ i = .int .i64 j ∧ Hid (ps.take j = qs.take j) ∧ Hid (Below w.heap.size w wr)) (fun _ i _ => n - (intOf i).toNat)
    case atStart => exact ⟨0, by omega, rfl, Lib.hid rfl, HB0⟩
    case round =>
      obtain ⟨j, hj, rfl, hE, hB⟩ := hrel
      clear HB0
      by_cases hlj : j < n
      · have hIr := HI.out.below hB.out
        have hJr := HJ.out.below hB.out
        rcases hIr.here with h0 | ⟨b1, o1, rfl, hc1⟩
        · omega
        rcases hJr.here with h0 | ⟨b2, o2, rfl, hc2⟩
        · omega
        have c1 := hc1 j hlj
        have c2 := hc2 j hlj
        obtain ⟨x1, n1, d1, e1, A1, l1, f1⟩ := hIr.rows j hlj
        obtain ⟨x2, n2, d2, e2, A2, l2, f2⟩ := hJr.rows j hlj
        rw [e1] at c1
        rw [e2] at c2
        have sA := str_of A1 l1
        have sB := str_of A2 l2
        have sA' := fun q => str_of (A1.below (below_drewN (Below.refl wr.heap.size wr) q)) l1
        have sB' := fun q => str_of (A2.below (below_drewN (Below.refl wr.heap.size wr) q)) l2
        have sq := str_eq f1 f2
        obtain ⟨s, hs⟩ : ∃ s, s = strOfNums (ps.getD j []) := ⟨_, rfl⟩
        obtain ⟨t, ht⟩ : ∃ s, s = strOfNums (qs.getD j []) := ⟨_, rfl⟩
        rw [← hs] at sA sA' sq
        rw [← ht] at sB sB' sq
        have ilj : (j : Int) < (n : Int) := by omega
        have j0 : (0 : Int) ≤ (j : Int) := by omega
        by_cases e : ps.getD j [] = qs.getD j []
        · have HS := Lib.hid (rows_step hE.out (by rw [HI.out.len]; exact hlj) (by rw [HJ.out.len]; exact hlj) e)
          have qx : (s.toList == t.toList) = true := sq.trans (decide_eq_true e)
          clear hs ht e hIr hJr hc1 hc2 e1 A1 l1 f1 e2 A2 l2 f2 sq
          go_wp2
          go_quiet (fail)
          go_wp2
          go_roundw
          case rel => exact ⟨j + 1, by omega, by go_num, HS, Lib.hid (below_drewN hB.out _)⟩
          case measure => simp [intOf]; omega
        · have hzf : z = false := by
            cases hzz : z with
            | false => rfl
            | true => exact absurd (by rw [HZ.out.1 hzz]) e
          have HZF := Lib.hid hzf
          have qx : (s.toList == t.toList) = false := sq.trans (decide_eq_false e)
          clear hs ht e hIr hJr hc1 hc2 e1 A1 l1 f1 e2 A2 l2 f2 sq hzf
          go_wp2
          go_quiet (fail)
          go_wp2
          go_ret
          exact ⟨congrArg (fun z => Ending.returned (Value.bool z)) HZF.out.symm, below_drewN hB.out _⟩
      · have HZT : Hid (z = true) := Lib.hid (HZ.out.2 (by
          have h := hE.out
          rwa [List.take_of_length_le (by rw [HI.out.len]; omega), List.take_of_length_le (by rw [HJ.out.len]; omega)] at h))
        have ilj : ¬ ((j : Int) < (n : Int)) := by omega
        go_wp2
        go_ret
        exact ⟨congrArg (fun z => Ending.returned (Value.bool z)) HZT.out.symm, hB.out⟩
  · have hzf : z = false := by
      cases hzz : z with
      | false => rfl
      | true => exact absurd (by rw [← hI.len, ← hJ.len, hz.1 hzz]) hk
    subst hzf
    have qk : ((n : Int) != (k : Int)) = true := by simp; omega
    clear hI hJ hz hk
    go_enter Try.func19, Try.ntmps19
    go_wp2
    go_ret
    exact ⟨rfl, HB0.out⟩
/-- How many bytes rows have together. -/
def tot (ps : List (List Int)) : Nat := (ps.map List.length).sum
theorem tot_more (ps : List (List Int)) (p : List Int) : tot (ps ++ [p]) = tot ps + p.length := by simp [tot]
theorem tot_take {ps : List (List Int)} {j : Nat} (h : j < ps.length) : tot (ps.take (j + 1)) = tot (ps.take j) + (ps.getD j []).length := by rw [take_moreL ps [] h, tot_more]
theorem tot_mono (ps : List (List Int)) (j : Nat) : tot (ps.take j) ≤ tot ps := by
  have h := List.take_append_drop j ps
  have : tot ps = tot (ps.take j) + tot (ps.drop j) := by
    rw [← h]
    unfold tot
    rw [List.map_append, List.sum_append, h]
  omega
theorem tot_mem : ∀ {ps : List (List Int)} {p : List Int}, p ∈ ps → p.length ≤ tot ps
  | q :: ps, p, h => by
    have e : tot (q :: ps) = q.length + tot ps := by simp [tot]
    rcases List.mem_cons.1 h with rfl | h
    · omega
    · have := tot_mem h
      omega
/-- What Sum answers. -/
def SumOut (ps : List (List Int)) (M : Nat) (s : Nat) : Prop := (s = tot ps ∧ tot ps ≤ M) ∨ (s = M ∧ M < tot ps)
set_option maxRecDepth 100000 in
theorem sum_t (us : List Value) (ps : List (List Int)) (a : Option Addr) (n c M : Nat) (w : World) (hI : Rsd w a n us ps) (hM : M ≤ 1099511627776) (hn : n ≤ 4611686018427387904) (hl : ∀ p ∈ ps, p.length ≤ 4611686018427387904) :
    Calls Try.prog 32 #[.slice a n c, .int .i64 M] w fun e w' => ∃ s : Nat, e = .returned (.int .i64 s) ∧ SumOut ps M s ∧ w = w' := by
  have HI := Lib.hid hI
  have HL := Lib.hid hl
  clear hI hl
  go_enter Try.func32, Try.ntmps32
  go_wp2
  go_loop [5, 7, 10] (fun t _ i => ∃ j s : Nat, j ≤ n ∧ i = .int .i64 j ∧ t = .int .i64 s ∧ s ≤ M ∧ Hid (s = tot (ps.take j))) (fun _ _ i => n - (intOf i).toNat)
  case atStart => exact ⟨0, 0, by omega, rfl, rfl, by omega, Lib.hid rfl⟩
  case round =>
    obtain ⟨j, s, hj, rfl, rfl, hs, HS⟩ := hrel
    by_cases hlj : j < n
    · rcases HI.out.here with h0 | ⟨b, off, rfl, hc⟩
      · omega
      have hjp : j < ps.length := by rw [HI.out.len]; exact hlj
      have hcj := hc j hlj
      obtain ⟨x, k, d, e, _, hk, _⟩ := HI.out.rows j hlj
      rw [e] at hcj
      have hkl : k ≤ 4611686018427387904 := by rw [← hk]; exact HL.out _ (by rw [List.getD_eq_getElem?_getD, List.getElem?_eq_getElem hjp]; exact List.getElem_mem hjp)
      have htt := tot_take hjp
      have htm := tot_mono ps (j + 1)
      have ilj : (j : Int) < (n : Int) := by omega
      have j0 : (0 : Int) ≤ (j : Int) := by omega
      have v1 : ∀ [Inhabited Nat], IntKind.i64.wrap ((M : Int) - (s : Int)) = (M : Int) - (s : Int) := by intro _; exact IntWalk.i64_in _ (by omega)
      by_cases hg : M < s + k
      · have ig : (M : Int) - (s : Int) < (k : Int) := by omega
        have HE : Hid (SumOut ps M M) := Lib.hid (.inr ⟨rfl, by have := HS.out; omega⟩)
        clear hc e hk hjp htt htm hg
        go_wp2
        go_ret
        exact ⟨M, rfl, HE.out, rfl⟩
      · have ig : ¬ ((M : Int) - (s : Int) < (k : Int)) := by omega
        have v2 : ∀ [Inhabited Nat], IntKind.i64.wrap ((s : Int) + (k : Int)) = ((s + k : Nat) : Int) := by intro _; rw [IntWalk.i64_in _ (by omega)]; omega
        have HE : Hid (s + k = tot (ps.take (j + 1))) := Lib.hid (by have := HS.out; omega)
        have hsk : s + k ≤ M := by omega
        clear hc e hk hjp htt htm hg
        go_wp2
        go_round
        case rel => exact ⟨j + 1, s + k, by omega, by go_num, rfl, hsk, HE⟩
        case measure => simp [intOf]; omega
    · have HE : Hid (SumOut ps M s) := Lib.hid (.inl (by
        have h := HS.out
        rw [List.take_of_length_le (by rw [HI.out.len]; omega)] at h
        exact ⟨h, by omega⟩))
      have ilj : ¬ ((j : Int) < (n : Int)) := by omega
      go_wp2
      go_ret
      exact ⟨s, rfl, HE.out, rfl⟩
end Go.Proofs.Ytdjeacmonlgdhaa
