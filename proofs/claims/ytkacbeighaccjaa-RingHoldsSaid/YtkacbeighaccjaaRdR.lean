/- Owners of a key among points in order, plainly. No conditions but those stated. -/
import Derived.Test.YtkacbeighaccjaaRdN
namespace Go.Proofs.Ytkacbeighaccjaa
open Go Go.RowKit
set_option linter.unusedVariables false
set_option linter.unusedSimpArgs false

theorem xor_range (a b : Int) : 0 ≤ bits .xor .u64 a b ∧ bits .xor .u64 a b < 18446744073709551616 := by
  unfold bits
  simp [IntKind.wrap, IntKind.bits, IntKind.signed]
  omega
theorem hash_range (s : Int) (f : Fl) : 0 ≤ hashF s f ∧ hashF s f < 18446744073709551616 := by
  unfold hashF finH
  exact xor_range _ _
theorem pts_range {P : Nat} {ms : List Int} {p : Wy} (h : p ∈ pts P ms) : 0 ≤ p.1 ∧ p.1 < 18446744073709551616 := by
  unfold pts at h
  obtain ⟨m, _, hp⟩ := List.mem_flatMap.1 h
  unfold ptsM at hp
  obtain ⟨j, _, rfl⟩ := List.mem_map.1 hp
  exact hash_range _ _
/-- How many points are below a key. -/
def lowP (key : Int) (S : List Wy) : Nat := S.countP (fun p => !decide (key ≤ p.1))
def rotP (K : Nat) (S : List Wy) : List Wy := S.drop K ++ S.take K
theorem rotP_len (K : Nat) (S : List Wy) : (rotP K S).length = S.length := by unfold rotP; rw [List.length_append, List.length_drop, List.length_take]; omega
theorem rotP_perm (K : Nat) (S : List Wy) : (rotP K S).Perm S := by
  unfold rotP
  exact List.perm_append_comm.trans (List.Perm.of_eq (List.take_append_drop K S))
theorem low_split : ∀ {S : List Wy} {key : Int}, S.Pairwise leW → (∀ p ∈ S.take (lowP key S), p.1 < key) ∧ ∀ p ∈ S.drop (lowP key S), key ≤ p.1
  | [], key, _ => by simp
  | a :: S, key, h => by
    have h' := List.pairwise_cons.1 h
    have ih := low_split (key := key) h'.2
    unfold lowP at *
    by_cases q : key ≤ a.1
    · have h0 : S.countP (fun p => !decide (key ≤ p.1)) = 0 := List.countP_eq_zero.2 (fun p hp => by
        have := h'.1 p hp
        unfold leW at this
        simp
        omega)
      rw [List.countP_cons_of_neg (by simpa using q), h0]
      refine ⟨by simp, fun p hp => ?_⟩
      rw [List.drop_zero] at hp
      rcases List.mem_cons.1 hp with rfl | hp
      · exact q
      · have := h'.1 p hp
        unfold leW at this
        omega
    · rw [List.countP_cons_of_pos (by simpa using q), List.take_succ_cons, List.drop_succ_cons]
      refine ⟨fun p hp => ?_, ih.2⟩
      rcases List.mem_cons.1 hp with rfl | hp
      · omega
      · exact ih.1 p hp
theorem low_le (key : Int) (S : List Wy) : lowP key S ≤ S.length := List.countP_le_length
/-- The owners are the members of the points, gone round from the key. -/
theorem own_rot {P : Nat} {ms : List Int} {S : List Wy} {key : Int} (hk : 0 ≤ key ∧ key < 18446744073709551616) (hp : S.Perm (pts P ms)) (hs : S.Pairwise leW) :
    ownR P ms key = firsts ((rotP (lowP key S) S).map (·.2)) := by
  obtain ⟨h1, h2⟩ := low_split (key := key) hs
  have hr : ∀ p ∈ S, 0 ≤ p.1 ∧ p.1 < 18446744073709551616 := fun p h => pts_range (hp.mem_iff.1 h)
  obtain ⟨g, hg⟩ : ∃ g : Wy → Wy, g = fun p => (IntKind.u64.wrap (p.1 - key), p.2) := ⟨_, rfl⟩
  have hw : waysR P ms key = (pts P ms).map g := by
    unfold waysR pts
    rw [List.map_flatMap]
    congr 1
    funext m
    unfold waysOf ptsM
    rw [List.map_map, hg]
    rfl
  have e1 : (rotP (lowP key S) S).map (·.2) = ((rotP (lowP key S) S).map g).map (·.2) := by
    rw [List.map_map, hg]
    rfl
  unfold ownR
  rw [hw, e1]
  refine ownW_sorted ?_ (((rotP_perm _ S).trans hp).map g)
  have lo : ∀ p ∈ S.drop (lowP key S), (g p).1 = p.1 - key := fun p h => by
    have := h2 p h
    have := hr p (List.mem_of_mem_drop h)
    rw [hg]
    exact IntWalk.u64_in _ (by omega)
  have hi : ∀ p ∈ S.take (lowP key S), (g p).1 = p.1 - key + 18446744073709551616 := fun p h => by
    have := h1 p h
    have := hr p (List.mem_of_mem_take h)
    rw [hg]
    simp [IntKind.wrap, IntKind.bits, IntKind.signed]
    omega
  have g2 : ∀ p, (g p).2 = p.2 := fun p => by rw [hg]
  unfold rotP
  rw [List.map_append, List.pairwise_append]
  refine ⟨?_, ?_, ?_⟩
  · rw [List.pairwise_map]
    refine List.Pairwise.imp_of_mem ?_ (hs.sublist (List.drop_sublist _ _))
    intro a b ha hb hab
    unfold leW at *
    rw [lo a ha, lo b hb, g2, g2]
    omega
  · rw [List.pairwise_map]
    refine List.Pairwise.imp_of_mem ?_ (hs.sublist (List.take_sublist _ _))
    intro a b ha hb hab
    unfold leW at *
    rw [hi a ha, hi b hb, g2, g2]
    omega
  · intro a ha b hb
    obtain ⟨p, hp, rfl⟩ := List.mem_map.1 ha
    obtain ⟨q, hq, rfl⟩ := List.mem_map.1 hb
    unfold leW
    rw [lo p hp, hi q hq]
    have := hr p (List.mem_of_mem_drop hp)
    have := hr q (List.mem_of_mem_take hq)
    omega
/-- One more. -/
theorem firsts_app : ∀ (l m : List Int), firsts (l ++ m) = firsts l ++ (firsts m).filter (fun x => !l.contains x)
  | [], m => by
    simp only [firsts, List.nil_append]
    exact (List.filter_eq_self.2 (fun x _ => by simp)).symm
  | x :: l, m => by
    rw [List.cons_append, firsts, firsts, firsts_app l m, List.filter_append, List.cons_append, List.filter_filter]
    congr 2
    apply List.filter_congr
    intro a _
    rw [List.contains_cons, Bool.not_or]
    rfl
theorem firsts_more (l : List Int) (x : Int) : firsts (l ++ [x]) = if (firsts l).contains x then firsts l else firsts l ++ [x] := by
  rw [firsts_app]
  have e : firsts [x] = [x] := by simp [firsts]
  have hc : (firsts l).contains x = l.contains x := by
    rw [Bool.eq_iff_iff, List.contains_iff_mem, List.contains_iff_mem]
    exact mem_firsts
  rw [e, hc]
  by_cases h : l.contains x = true
  · rw [if_pos h, List.filter_cons_of_neg (by simpa using h)]
    simp
  · rw [if_neg h, List.filter_cons_of_pos (by simpa using h)]
    simp
theorem firsts_take (l : List Int) (t : Nat) : (firsts l).take (firsts (l.take t)).length = firsts (l.take t) := by
  have h := firsts_app (l.take t) (l.drop t)
  rw [List.take_append_drop] at h
  rw [h, List.take_left]
end Go.Proofs.Ytkacbeighaccjaa
