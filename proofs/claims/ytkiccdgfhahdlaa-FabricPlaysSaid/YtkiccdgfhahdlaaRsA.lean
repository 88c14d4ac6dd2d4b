/- Rows that came in; the contract of Sum. Conditions: those stated. -/
import Derived.Test.YtkiccdgfhahdlaaTch
import Derived.LoopTactic
import Derived.Lib.Hide
namespace Go.Proofs.Ytkiccdgfhahdlaa
open Go Go.RowKit
set_option linter.unusedVariables false
set_option linter.unusedSimpArgs false

/-- Values of rows that came in. -/
def Ris (w : World) : List Value → List (List Int) → Prop
  | [], [] => True
  | v :: vs, p :: ps => (∃ a n c, v = .slice a n c ∧ In w a n c p) ∧ Ris w vs ps
  | _, _ => False
theorem Ris.len {w : World} : ∀ {vs : List Value} {ps : List (List Int)}, Ris w vs ps → vs.length = ps.length
  | [], [], _ => rfl
  | _ :: vs, _ :: ps, h => by rw [List.length_cons, List.length_cons, Ris.len h.2]
  | [], _ :: _, h => h.elim
  | _ :: _, [], h => h.elim
theorem Ris.at {w : World} : ∀ {vs : List Value} {ps : List (List Int)}, Ris w vs ps → ∀ {j : Nat}, j < ps.length → ∃ a n c, vs.getD j undef = .slice a n c ∧ In w a n c (ps.getD j [])
  | [], [], _, j, hj => by simp at hj
  | _ :: vs, _ :: ps, h, 0, _ => h.1
  | _ :: vs, _ :: ps, h, j + 1, hj => Ris.at h.2 (j := j) (by simpa using hj)
  | [], _ :: _, h, _, _ => h.elim
  | _ :: _, [], h, _, _ => h.elim
theorem Ris.below {w w' : World} : ∀ {vs : List Value} {ps : List (List Int)}, Ris w vs ps → Below w.heap.size w w' → Ris w' vs ps
  | [], [], _, _ => trivial
  | _ :: vs, _ :: ps, h, hb => ⟨by obtain ⟨a, n, c, e, hi⟩ := h.1; exact ⟨a, n, c, e, hi.below hb⟩, Ris.below h.2 hb⟩
  | [], _ :: _, h, _ => h.elim
  | _ :: _, [], h, _ => h.elim
theorem Ris.fits {w : World} : ∀ {vs : List Value} {ps : List (List Int)}, Ris w vs ps → ∀ p ∈ ps, fit p
  | [], [], _, p, hp => by cases hp
  | _ :: vs, _ :: ps, h, p, hp => (List.mem_cons.1 hp).elim (fun e => by subst e; obtain ⟨a, n, c, _, hi⟩ := h.1; exact hi.fit) (fun hp => Ris.fits h.2 p hp)
  | [], _ :: _, h, _, _ => h.elim
  | _ :: _, [], h, _, _ => h.elim
/-- A row of rows that came in. -/
structure RsIn (w : World) (ao : Option Addr) (n cap : Nat) (us : List Value) (ps : List (List Int)) : Prop where
  len : ps.length = n
  room : n ≤ cap
  zero : ao = none → cap = 0
  here : us = [] ∨ ∃ b off, ao = some ⟨b, off, none⟩ ∧ ∀ j, j < us.length → w.cell? ⟨b, off + j, none⟩ = some (us.getD j undef)
  rows : Ris w us ps
theorem RsIn.below {w w' : World} {ao : Option Addr} {n cap : Nat} {us : List Value} {ps : List (List Int)} (h : RsIn w ao n cap us ps) (hb : Below w.heap.size w w') : RsIn w' ao n cap us ps :=
  ⟨h.len, h.room, h.zero, h.here.imp id (fun ⟨b, off, e, hc⟩ => ⟨b, off, e, fun j hj => cell_later hb (hc j hj)⟩), h.rows.below hb⟩
theorem RsIn.block {w : World} {ao : Option Addr} {n cap : Nat} {us : List Value} {ps : List (List Int)} (h : RsIn w ao n cap us ps) (hn : 0 < n) : ∃ b off, ao = some ⟨b, off, none⟩ := by
  rcases h.here with e | ⟨b, off, e, _⟩
  · have h1 := h.rows.len
    have h2 := h.len
    rw [e] at h1
    simp at h1
    omega
  · exact ⟨b, off, e⟩
theorem RsIn.cell {w : World} {b off n cap : Nat} {us : List Value} {ps : List (List Int)} (h : RsIn w (some ⟨b, off, none⟩) n cap us ps) {j : Nat} (hj : j < n) : w.cell? ⟨b, off + j, none⟩ = some (us.getD j undef) := by
  have h1 := h.rows.len
  have h2 := h.len
  rcases h.here with e | ⟨b', off', e, hc⟩
  · rw [e] at h1; simp at h1; omega
  · cases e
    exact hc j (by omega)

theorem take_moreL {α : Type} (l : List α) (d : α) {j : Nat} (h : j < l.length) : l.take (j + 1) = l.take j ++ [l.getD j d] := by
  rw [List.take_succ_eq_append_getElem h, List.getD_eq_getElem?_getD, List.getElem?_eq_getElem h]
  rfl
theorem drop_head {α : Type} (l : List α) (d : α) {j : Nat} (h : j < l.length) : l.drop j = l.getD j d :: l.drop (j + 1) := by
  rw [List.drop_eq_getElem_cons h, List.getD_eq_getElem?_getD, List.getElem?_eq_getElem h]
  rfl
theorem own_at {w : World} {B g n c : Nat} {e : TypeId} {vs : List Value} (h : w.ownsRow B e 1 (.slice (some ⟨g, 0, none⟩) n c) n vs) {j : Nat} (hj : j < n) : w.cell? ⟨g, j, none⟩ = some (vs.getD j undef) := by
  have hl := h.1
  have := h.cellAt (g := g) (cap := c) j (by omega)
  rw [this, List.getD_eq_getElem?_getD, List.getElem?_eq_getElem (by omega)]
  rfl
/-- Rows of bytes in memory, to be read. -/
structure Rsd (w : World) (ao : Option Addr) (n : Nat) (us : List Value) (ps : List (List Int)) : Prop where
  len : ps.length = n
  here : n = 0 ∨ ∃ b off, ao = some ⟨b, off, none⟩ ∧ ∀ j, j < n → w.cell? ⟨b, off + j, none⟩ = some (us.getD j undef)
  rows : ∀ j, j < n → ∃ a k c, us.getD j undef = .slice a k c ∧ At w (.slice a k c) (ps.getD j []) ∧ (ps.getD j []).length = k ∧ fit (ps.getD j [])
theorem Rsd.below {w w' : World} {ao : Option Addr} {n : Nat} {us : List Value} {ps : List (List Int)} (h : Rsd w ao n us ps) (hb : Below w.heap.size w w') : Rsd w' ao n us ps :=
  ⟨h.len, h.here.imp id (fun ⟨b, off, e, hc⟩ => ⟨b, off, e, fun j hj => cell_later hb (hc j hj)⟩), fun j hj => by
    obtain ⟨a, k, c, e, hA, hk, hf⟩ := h.rows j hj
    exact ⟨a, k, c, e, hA.below hb, hk, hf⟩⟩
theorem RsIn.rsd {w : World} {ao : Option Addr} {n cap : Nat} {us : List Value} {ps : List (List Int)} (h : RsIn w ao n cap us ps) : Rsd w ao n us ps := by
  refine ⟨h.len, ?_, fun j hj => ?_⟩
  · rcases Nat.eq_zero_or_pos n with e | e
    · exact .inl e
    · obtain ⟨b, off, rfl⟩ := h.block e
      exact .inr ⟨b, off, rfl, fun j hj => h.cell hj⟩
  · obtain ⟨a, k, c, e, hi⟩ := h.rows.at (j := j) (by rw [h.len]; exact hj)
    exact ⟨a, k, c, e, hi.here, hi.len, hi.fit⟩
/-- How many bytes rows have together. -/
def tot (ps : List (List Int)) : Nat := (ps.map List.length).sum
theorem tot_more (ps : List (List Int)) (p : List Int) : tot (ps ++ [p]) = tot ps + p.length := by simp [tot]
theorem tot_take {ps : List (List Int)} {j : Nat} (h : j < ps.length) : tot (ps.take (j + 1)) = tot (ps.take j) + (ps.getD j []).length := by rw [take_moreL ps [] h, tot_more]
theorem tot_mono (ps : List (List Int)) (j : Nat) : tot (ps.take j) ≤ tot ps := by
  have h := List.take_append_drop j ps
  have : tot ps = tot (ps.take j) + tot (ps.drop j) := by
    rw [← h]
    unfold tot
    rw [List.map_append, List.sum_append, h]
  omega
theorem tot_mem : ∀ {ps : List (List Int)} {p : List Int}, p ∈ ps → p.length ≤ tot ps
  | q :: ps, p, h => by
    have e : tot (q :: ps) = q.length + tot ps := by simp [tot]
    rcases List.mem_cons.1 h with rfl | h
    · omega
    · have := tot_mem h
      omega
/-- What Sum answers. -/
def SumOut (ps : List (List Int)) (M : Nat) (s : Nat) : Prop := (s = tot ps ∧ tot ps ≤ M) ∨ (s = M ∧ M < tot ps)
set_option maxRecDepth 100000 in
theorem sum_t (us : List Value) (ps : List (List Int)) (a : Option Addr) (n c M : Nat) (w : World) (hI : Rsd w a n us ps) (hM : M ≤ 1099511627776) (hn : n ≤ 4611686018427387904) (hl : ∀ p ∈ ps, p.length ≤ 4611686018427387904) :
    Calls Try.prog 32 #[.slice a n c, .int .i64 M] w fun e w' => ∃ s : Nat, e = .returned (.int .i64 s) ∧ SumOut ps M s ∧ w = w' := by
  have HI := Lib.hid hI
  have HL := Lib.hid hl
  clear hI hl
  go_enter Try.func32, Try.ntmps32
  go_wp2
  go_loop [5, 7, 10] (fun t _ i => ∃ j s : Nat, j ≤ n ∧ i = .int .i64 j ∧ t = .int .i64 s ∧ s ≤ M ∧ Hid (s = tot (ps.take j))) (fun _ _ i => n - (intOf i).toNat)
  case atStart => exact ⟨0, 0, by omega, rfl, rfl, by omega, Lib.hid rfl⟩
  case round =>
    obtain ⟨j, s, hj, rfl, rfl, hs, HS⟩ := hrel
    by_cases hlj : j < n
    · rcases HI.out.here with h0 | ⟨b, off, rfl, hc⟩
      · omega
      have hjp : j < ps.length := by rw [HI.out.len]; exact hlj
      have hcj := hc j hlj
      obtain ⟨x, k, d, e, _, hk, _⟩ := HI.out.rows j hlj
      rw [e] at hcj
      have hkl : k ≤ 4611686018427387904 := by rw [← hk]; exact HL.out _ (by rw [List.getD_eq_getElem?_getD, List.getElem?_eq_getElem hjp]; exact List.getElem_mem hjp)
      have htt := tot_take hjp
      have htm := tot_mono ps (j + 1)
      have ilj : (j : Int) < (n : Int) := by omega
      have j0 : (0 : Int) ≤ (j : Int) := by omega
      have v1 : ∀ [Inhabited Nat], IntKind.i64.wrap ((M : Int) - (s : Int)) = (M : Int) - (s : Int) := by intro _; exact IntWalk.i64_in _ (by omega)
      by_cases hg : M < s + k
      · have ig : (M : Int) - (s : Int) < (k : Int) := by omega
        have HE : Hid (SumOut ps M M) := Lib.hid (.inr ⟨rfl, by have := HS.out; omega⟩)
        clear hc e hk hjp htt htm hg
        go_wp2
        go_ret
        exact ⟨M, rfl, HE.out, rfl⟩
      · have ig : ¬ ((M : Int) - (s : Int) < (k : Int)) := by omega
        have v2 : ∀ [Inhabited Nat], IntKind.i64.wrap ((s : Int) + (k : Int)) = ((s + k : Nat) : Int) := by intro _; rw [IntWalk.i64_in _ (by omega)]; omega
        have HE : Hid (s + k = tot (ps.take (j + 1))) := Lib.hid (by have := HS.out; omega)
        have hsk : s + k ≤ M := by omega
        clear hc e hk hjp htt htm hg
        go_wp2
        go_round
        case rel => exact ⟨j + 1, s + k, by omega, by go_num, rfl, hsk, HE⟩
        case measure => simp [intOf]; omega
    · have HE : Hid (SumOut ps M s) := Lib.hid (.inl (by
        have h := HS.out
        rw [List.take_of_length_le (by rw [HI.out.len]; omega)] at h
        exact ⟨h, by omega⟩))
      have ilj : ¬ ((j : Int) < (n : Int)) := by omega
      go_wp2
      go_ret
      exact ⟨s, rfl, HE.out, rfl⟩
end Go.Proofs.Ytkiccdgfhahdlaa
