/- Owners on a ring, plainly: pairs of a way and a member; who comes first. No conditions but those stated. -/
import Derived.Below
namespace Go.Proofs.Ythoegmcdohppoaa
set_option linter.unusedVariables false
set_option linter.unusedSimpArgs false

/-- A way, and whose it is; the lesser way first, of equal ways the lesser member. -/
abbrev Wy := Int × Int
def leW (a b : Wy) : Prop := a.1 < b.1 ∨ a.1 = b.1 ∧ a.2 ≤ b.2
instance (a b : Wy) : Decidable (leW a b) := by unfold leW; infer_instance
theorem leW_refl (a : Wy) : leW a a := .inr ⟨rfl, Int.le_refl _⟩
theorem leW_total (a b : Wy) : leW a b ∨ leW b a := by unfold leW; omega
theorem leW_trans {a b c : Wy} (h : leW a b) (h2 : leW b c) : leW a c := by unfold leW at *; omega
theorem leW_anti {a b : Wy} (h : leW a b) (h2 : leW b a) : a = b := by
  unfold leW at *
  exact Prod.ext (by omega) (by omega)
/-- A list put in order. -/
def putW (a : Wy) : List Wy → List Wy
  | [] => [a]
  | b :: l => if leW a b then a :: b :: l else b :: putW a l
def srtW : List Wy → List Wy
  | [] => []
  | a :: l => putW a (srtW l)
theorem putW_perm (a : Wy) : ∀ l, (putW a l).Perm (a :: l)
  | [] => .refl _
  | b :: l => by
    unfold putW
    split
    · exact .refl _
    · exact ((putW_perm a l).cons b).trans (.swap a b l)
theorem srtW_perm : ∀ l, (srtW l).Perm l
  | [] => .refl _
  | a :: l => (putW_perm a _).trans ((srtW_perm l).cons a)
theorem putW_sorted (a : Wy) : ∀ {l}, l.Pairwise leW → (putW a l).Pairwise leW
  | [], _ => List.pairwise_singleton _ _
  | b :: l, h => by
    have h1 := List.pairwise_cons.1 h
    unfold putW
    split
    · rename_i hab
      exact List.pairwise_cons.2 ⟨fun c hc => by
        rcases List.mem_cons.1 hc with rfl | hc
        · exact hab
        · exact leW_trans hab (h1.1 c hc), h⟩
    · rename_i hab
      refine List.pairwise_cons.2 ⟨fun c hc => ?_, putW_sorted a h1.2⟩
      rcases List.mem_cons.1 ((putW_perm a l).mem_iff.1 hc) with rfl | hc
      · exact (leW_total c b).resolve_left hab
      · exact h1.1 c hc
theorem srtW_sorted : ∀ l, (srtW l).Pairwise leW
  | [] => .nil
  | a :: l => putW_sorted a (srtW_sorted l)
/-- There is one order. -/
theorem sorted_one : ∀ {l m : List Wy}, l.Pairwise leW → m.Pairwise leW → l.Perm m → l = m
  | [], m, _, _, h => (List.nil_perm.1 h).symm ▸ rfl
  | a :: l, [], _, _, h => absurd h.length_eq (by simp)
  | a :: l, b :: m, h1, h2, h => by
    have h1' := List.pairwise_cons.1 h1
    have h2' := List.pairwise_cons.1 h2
    have e : a = b := by
      have ha : a ∈ b :: m := h.mem_iff.1 List.mem_cons_self
      have hb : b ∈ a :: l := h.mem_iff.2 List.mem_cons_self
      rcases List.mem_cons.1 ha with e | ha
      · exact e
      · rcases List.mem_cons.1 hb with e | hb
        · exact e.symm
        · exact leW_anti (h1'.1 b hb) (h2'.1 a ha)
    subst e
    rw [sorted_one h1'.2 h2'.2 (List.perm_cons a |>.1 h)]
/-- Each number of a list once, where it first stands. -/
def firsts : List Int → List Int
  | [] => []
  | x :: l => x :: (firsts l).filter (· != x)
theorem mem_firsts {x : Int} : ∀ {l : List Int}, x ∈ firsts l ↔ x ∈ l
  | [] => by simp [firsts]
  | y :: l => by
    simp only [firsts, List.mem_cons, List.mem_filter, mem_firsts (l := l), bne_iff_ne, ne_eq]
    by_cases h : x = y <;> simp [h]
theorem firsts_nodup : ∀ l : List Int, (firsts l).Nodup
  | [] => .nil
  | x :: l => List.nodup_cons.2 ⟨fun h => by simp at h, (firsts_nodup l).filter _⟩
theorem firsts_filter (p : Int → Bool) : ∀ l : List Int, firsts (l.filter p) = (firsts l).filter p
  | [] => rfl
  | x :: l => by
    by_cases h : p x
    · rw [List.filter_cons_of_pos h, firsts, firsts, List.filter_cons_of_pos h, firsts_filter p l, List.filter_filter, List.filter_filter]
      congr 2
      funext a
      exact Bool.and_comm _ _
    · rw [List.filter_cons_of_neg h, firsts, List.filter_cons_of_neg h, firsts_filter p l, List.filter_filter]
      apply List.filter_congr
      intro a ha
      by_cases e : a = x
      · subst e
        simp [h]
      · simp [e]
/-- The first one of a list that isn't among these. -/
theorem firsts_next : ∀ (l : List Int) (k : Nat), (firsts l)[k]? = (l.filter (fun x => !((firsts l).take k).contains x)).head?
  | [], k => by simp [firsts]
  | x :: l, 0 => by simp [firsts]
  | x :: l, k + 1 => by
    have h : (firsts (l.filter (· != x)))[k]? = _ := firsts_next (l.filter (· != x)) k
    rw [firsts_filter] at h
    simp only [firsts, List.getElem?_cons_succ, List.take_succ_cons]
    rw [h, List.filter_filter, List.filter_cons_of_neg (by simp)]
    congr 1
    apply List.filter_congr
    intro a ha
    rw [List.contains_cons]
    by_cases e : a = x
    · simp [e]
    · simp only [bne, e, Bool.not_false, Bool.true_and, Bool.and_true, beq_eq_false_iff_ne.2 e, Bool.false_or]
  termination_by l => l.length
  decreasing_by
    simp only [List.length_cons]
    have := List.length_filter_le (fun a => a != x) l
    omega
/-- The least of a list. -/
theorem srt_head {l S : List Wy} (hs : S.Pairwise leW) (hp : S.Perm l) (p : Wy → Bool) {a : Wy} (ha : a ∈ l) (hpa : p a = true) (hl : ∀ b ∈ l, p b = true → leW a b) : (S.filter p).head? = some a := by
  have h1 : (S.filter p).Pairwise leW := hs.filter p
  have h2 : a ∈ S.filter p := List.mem_filter.2 ⟨hp.mem_iff.2 ha, hpa⟩
  cases hS : S.filter p with
  | nil => rw [hS] at h2; simp at h2
  | cons b T =>
    rw [hS] at h1 h2
    have hb : b ∈ S.filter p := by rw [hS]; exact List.mem_cons_self
    have hb := List.mem_filter.1 hb
    have h3 := hl b (hp.mem_iff.1 hb.1) hb.2
    simp only [List.head?_cons]
    rcases List.mem_cons.1 h2 with e | h2
    · rw [e]
    · rw [leW_anti h3 ((List.pairwise_cons.1 h1).1 a h2)]
/-- The owners by the ways of a list of pairs. -/
def ownW (l : List Wy) : List Int := firsts ((srtW l).map (·.2))
theorem ownW_perm {l m : List Wy} (h : l.Perm m) : ownW l = ownW m := by
  unfold ownW
  rw [sorted_one (srtW_sorted l) (srtW_sorted m) ((srtW_perm l).trans (h.trans (srtW_perm m).symm))]
theorem ownW_sorted {l S : List Wy} (hs : S.Pairwise leW) (hp : S.Perm l) : ownW l = firsts (S.map (·.2)) := by
  unfold ownW
  rw [sorted_one (srtW_sorted l) hs ((srtW_perm l).trans hp.symm)]
/-- The next one is the least of those that aren't there. -/
theorem ownW_next {l : List Wy} {k : Nat} {a : Wy} (ha : a ∈ l) (hn : a.2 ∉ (ownW l).take k) (hl : ∀ b ∈ l, b.2 ∉ (ownW l).take k → leW a b) : (ownW l)[k]? = some a.2 := by
  have h := srt_head (srtW_sorted l) (srtW_perm l) (fun b => !((ownW l).take k).contains b.2) ha (by simpa using hn) (fun b hb hp => hl b hb (by simpa using hp))
  unfold ownW
  rw [firsts_next]
  have e : ((srtW l).map (·.2)).filter (fun x => !((firsts ((srtW l).map (·.2))).take k).contains x) = ((srtW l).filter (fun b => !((ownW l).take k).contains b.2)).map (·.2) := by
    rw [List.filter_map]
    rfl
  rw [e, List.head?_map, h]
  rfl
theorem mem_ownW {l : List Wy} {x : Int} : x ∈ ownW l ↔ ∃ a ∈ l, a.2 = x := by
  unfold ownW
  rw [mem_firsts, List.mem_map]
  exact ⟨fun ⟨a, h, e⟩ => ⟨a, (srtW_perm l).mem_iff.1 h, e⟩, fun ⟨a, h, e⟩ => ⟨a, (srtW_perm l).mem_iff.2 h, e⟩⟩
theorem ownW_nodup (l : List Wy) : (ownW l).Nodup := firsts_nodup _
/-- Without a member. -/
theorem ownW_filter (l : List Wy) (p : Int → Bool) : ownW (l.filter (fun a => p a.2)) = (ownW l).filter p := by
  rw [ownW_sorted (S := (srtW l).filter (fun a => p a.2)) ((srtW_sorted l).filter _) ((srtW_perm l).filter _)]
  unfold ownW
  rw [← firsts_filter, List.filter_map]
  rfl
end Go.Proofs.Ythoegmcdohppoaa
