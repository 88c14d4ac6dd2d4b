/- Owners of a key on a ring of members, plainly. No conditions but those stated. -/
import Derived.Test.YtkacbeighaccjaaRgP
import Derived.Test.YtkacbeighaccjaaHsP
namespace Go.Proofs.Ytkacbeighaccjaa
open Go Go.RowKit
set_option linter.unusedVariables false
set_option linter.unusedSimpArgs false

/-- A member's point. -/
def ptOf (m : Int) (j : Nat) : Int := hashF (j : Int) ⟨0, m, 0, 0, 0⟩
/-- The ways from a key to a member's points. -/
def waysOf (P : Nat) (key m : Int) : List Wy := (List.range P).map (fun j => (IntKind.u64.wrap (ptOf m j - key), m))
def waysR (P : Nat) (ms : List Int) (key : Int) : List Wy := ms.flatMap (waysOf P key)
/-- The owners. -/
def ownR (P : Nat) (ms : List Int) (key : Int) : List Int := ownW (waysR P ms key)
theorem mem_waysOf {P : Nat} {key m : Int} {a : Wy} : a ∈ waysOf P key m ↔ ∃ j, j < P ∧ a = (IntKind.u64.wrap (ptOf m j - key), m) := by
  unfold waysOf
  rw [List.mem_map]
  exact ⟨fun ⟨j, h, e⟩ => ⟨j, List.mem_range.1 h, e.symm⟩, fun ⟨j, h, e⟩ => ⟨j, List.mem_range.2 h, e.symm⟩⟩
theorem mem_waysR {P : Nat} {ms : List Int} {key : Int} {a : Wy} : a ∈ waysR P ms key ↔ ∃ m ∈ ms, ∃ j, j < P ∧ a = (IntKind.u64.wrap (ptOf m j - key), m) := by
  unfold waysR
  rw [List.mem_flatMap]
  exact ⟨fun ⟨m, h, e⟩ => ⟨m, h, mem_waysOf.1 e⟩, fun ⟨m, h, e⟩ => ⟨m, h, mem_waysOf.2 e⟩⟩
theorem mem_ownR {P : Nat} (hP : 0 < P) {ms : List Int} {key x : Int} : x ∈ ownR P ms key ↔ x ∈ ms := by
  unfold ownR
  rw [mem_ownW]
  constructor
  · rintro ⟨a, ha, rfl⟩
    obtain ⟨m, hm, j, hj, rfl⟩ := mem_waysR.1 ha
    exact hm
  · intro hx
    exact ⟨(IntKind.u64.wrap (ptOf x 0 - key), x), mem_waysR.2 ⟨x, hx, 0, hP, rfl⟩, rfl⟩
theorem ownR_nodup (P : Nat) (ms : List Int) (key : Int) : (ownR P ms key).Nodup := ownW_nodup _
theorem ownR_perm {P : Nat} (hP : 0 < P) {ms : List Int} (hn : ms.Nodup) (key : Int) : (ownR P ms key).Perm ms :=
  (List.perm_ext_iff_of_nodup (ownR_nodup P ms key) hn).2 (fun _ => mem_ownR hP)
theorem ownR_len {P : Nat} (hP : 0 < P) {ms : List Int} (hn : ms.Nodup) (key : Int) : (ownR P ms key).length = ms.length := (ownR_perm hP hn key).length_eq
/-- The members' order minds nothing. -/
theorem ownR_of_perm {P : Nat} {ms ns : List Int} (h : ms.Perm ns) (key : Int) : ownR P ms key = ownR P ns key := by
  unfold ownR waysR
  exact ownW_perm (h.flatMap_right _)
theorem waysR_filter (P : Nat) (ms : List Int) (key : Int) (p : Int → Bool) : waysR P (ms.filter p) key = (waysR P ms key).filter (fun a => p a.2) := by
  induction ms with
  | nil => rfl
  | cons m ms ih =>
    have e : waysR P (m :: ms) key = waysOf P key m ++ waysR P ms key := rfl
    rw [e, List.filter_append]
    by_cases h : p m = true
    · rw [List.filter_cons_of_pos h]
      have e2 : (waysOf P key m).filter (fun a => p a.2) = waysOf P key m := List.filter_eq_self.2 (fun a ha => by
        obtain ⟨j, _, rfl⟩ := mem_waysOf.1 ha
        exact h)
      rw [e2, ← ih]
      rfl
    · rw [List.filter_cons_of_neg h]
      have e2 : (waysOf P key m).filter (fun a => p a.2) = [] := List.filter_eq_nil_iff.2 (fun a ha => by
        obtain ⟨j, _, rfl⟩ := mem_waysOf.1 ha
        exact h)
      rw [e2, ← ih]
      rfl
theorem ownR_filter (P : Nat) (ms : List Int) (key : Int) (p : Int → Bool) : ownR P (ms.filter p) key = (ownR P ms key).filter p := by
  unfold ownR
  rw [waysR_filter, ownW_filter]
/-- Members that stand in form. -/
def OkMs (ms : List Int) : Prop := ms.length ≤ 64 ∧ ms.Nodup ∧ ∀ m ∈ ms, 0 ≤ m ∧ m ≤ 65535
/-- An error's number of New. -/
def OkP (P : Int) : Prop := 1 ≤ P ∧ P ≤ 64
instance (P : Int) : Decidable (OkP P) := by unfold OkP; infer_instance
/-- Numbers, rising. -/
def putI (a : Int) : List Int → List Int
  | [] => [a]
  | b :: l => if a < b then a :: b :: l else b :: putI a l
/-- A list put in order, one after another. -/
def srtI (l : List Int) : List Int := l.foldl (fun s a => putI a s) []
theorem putI_perm (a : Int) : ∀ l, (putI a l).Perm (a :: l)
  | [] => .refl _
  | b :: l => by
    unfold putI
    split
    · exact .refl _
    · exact ((putI_perm a l).cons b).trans (.swap a b l)
theorem putI_sorted (a : Int) : ∀ {l : List Int}, l.Pairwise (· ≤ ·) → (putI a l).Pairwise (· ≤ ·)
  | [], _ => List.pairwise_singleton _ _
  | b :: l, h => by
    have h1 := List.pairwise_cons.1 h
    unfold putI
    split
    · rename_i hab
      exact List.pairwise_cons.2 ⟨fun c hc => by
        rcases List.mem_cons.1 hc with rfl | hc
        · omega
        · have := h1.1 c hc; omega, h⟩
    · rename_i hab
      refine List.pairwise_cons.2 ⟨fun c hc => ?_, putI_sorted a h1.2⟩
      rcases List.mem_cons.1 ((putI_perm a l).mem_iff.1 hc) with rfl | hc
      · omega
      · exact h1.1 c hc
theorem srtI_app (l : List Int) (a : Int) : srtI (l ++ [a]) = putI a (srtI l) := by simp [srtI]
theorem fold_perm : ∀ (l s : List Int), (l.foldl (fun s a => putI a s) s).Perm (l ++ s)
  | [], s => .refl _
  | a :: l, s => (fold_perm l _).trans (((putI_perm a s).append_left l).trans (List.perm_middle))
theorem srtI_perm (l : List Int) : (srtI l).Perm l := by
  have := fold_perm l []
  rw [List.append_nil] at this
  exact this
theorem fold_sorted : ∀ (l s : List Int), s.Pairwise (· ≤ ·) → (l.foldl (fun s a => putI a s) s).Pairwise (· ≤ ·)
  | [], s, h => h
  | a :: l, s, h => fold_sorted l _ (putI_sorted a h)
theorem srtI_sorted (l : List Int) : (srtI l).Pairwise (· ≤ ·) := fold_sorted l [] .nil
theorem sortedI_one : ∀ {l m : List Int}, l.Pairwise (· ≤ ·) → m.Pairwise (· ≤ ·) → l.Perm m → l = m
  | [], m, _, _, h => (List.nil_perm.1 h).symm ▸ rfl
  | a :: l, [], _, _, h => absurd h.length_eq (by simp)
  | a :: l, b :: m, h1, h2, h => by
    have h1' := List.pairwise_cons.1 h1
    have h2' := List.pairwise_cons.1 h2
    have e : a = b := by
      have ha : a ∈ b :: m := h.mem_iff.1 List.mem_cons_self
      have hb : b ∈ a :: l := h.mem_iff.2 List.mem_cons_self
      rcases List.mem_cons.1 ha with e | ha
      · exact e
      · rcases List.mem_cons.1 hb with e | hb
        · exact e.symm
        · have := h1'.1 b hb
          have := h2'.1 a ha
          omega
    subst e
    rw [sortedI_one h1'.2 h2'.2 (List.perm_cons a |>.1 h)]
theorem srtI_of_perm {l m : List Int} (h : l.Perm m) : srtI l = srtI m := sortedI_one (srtI_sorted l) (srtI_sorted m) ((srtI_perm l).trans (h.trans (srtI_perm m).symm))
theorem srtI_len (l : List Int) : (srtI l).length = l.length := (srtI_perm l).length_eq
/-- Where a number is put among rising ones. -/
theorem putI_split (a : Int) : ∀ l : List Int, ∃ p q, l = p ++ q ∧ putI a l = p ++ a :: q ∧ (∀ x ∈ p, x ≤ a) ∧ ∀ x, q.head? = some x → a < x
  | [] => ⟨[], [], rfl, rfl, by simp, by simp⟩
  | b :: l => by
    unfold putI
    split
    · rename_i h
      exact ⟨[], b :: l, rfl, rfl, by simp, fun x hx => by simp at hx; omega⟩
    · rename_i h
      obtain ⟨p, q, e1, e2, h3, h4⟩ := putI_split a l
      exact ⟨b :: p, q, by rw [e1]; rfl, by rw [e2]; rfl, fun x hx => by
        rcases List.mem_cons.1 hx with rfl | hx
        · omega
        · exact h3 x hx, h4⟩
/-- A list less others. -/
def lessI (l g : List Int) : List Int := l.filter (fun x => !g.contains x)
theorem lessI_one (l : List Int) (g : Int) : lessI l [g] = l.filter (· != g) := by
  unfold lessI
  apply List.filter_congr
  intro a _
  simp [bne, Bool.beq_eq_decide_eq]
theorem ownR_less (P : Nat) (ms g : List Int) (key : Int) : ownR P (lessI ms g) key = lessI (ownR P ms key) g := ownR_filter P ms key _
end Go.Proofs.Ytkacbeighaccjaa
