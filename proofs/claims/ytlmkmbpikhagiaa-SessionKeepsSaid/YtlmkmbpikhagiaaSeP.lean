/- Two listeners, of which one hears a mux alone.
 Conditions: those stated. -/
import Derived.Test.YtlmkmbpikhagiaaSeH
namespace Go.Proofs.Ytlmkmbpikhagiaa
open Go Go.RowKit Go.Lib
set_option linter.unusedVariables false
set_option linter.unusedSimpArgs false

theorem findS_filter {l : List Se} (hs : SrtS l) (P : Se → Bool) (k : Int) : findS k (l.filter P) = (findS k l).filter P := by
  cases h : findS k l with
  | none =>
    have h1 := findS_none.1 h
    show findS k (l.filter P) = none
    exact findS_none.2 (fun e he => h1 e (List.mem_filter.1 he).1)
  | some e =>
    obtain ⟨hm, hk⟩ := findS_mem h
    cases hp : P e with
    | true =>
      have h2 := findS_of (l := l.filter P) (List.Pairwise.sublist List.filter_sublist hs) (List.mem_filter.2 ⟨hm, hp⟩)
      rw [hk] at h2
      rw [h2]
      simp [Option.filter, hp]
    | false =>
      have h3 : findS k (l.filter P) = none := findS_none.2 (fun e' he' hk' => by
        obtain ⟨h4, h5⟩ := List.mem_filter.1 he'
        have := srt_inj hs h4 hm (hk'.trans hk.symm)
        rw [this, hp] at h5
        cases h5)
      rw [h3]
      simp [Option.filter, hp]
theorem rec_other {l : List Se} (hs : SrtS l) {fr : Int} (hf : fr ≠ 32) (m : Mg) (now : Int) : findS 32 (recF l fr m now).1 = findS 32 l := by
  have h0 : ¬ (32 : Int) = fr := fun e => hf e.symm
  unfold recF
  split
  · split
    · rw [findS_put hs, if_neg h0]
    · split
      · split
        · split
          · rw [findS_put hs, if_neg h0]
          · rfl
        · rfl
      · rfl
  · rfl
theorem rec_same {l k : List Se} (hs : SrtS l) (hk : SrtS k) (he : findS 32 l = findS 32 k) (m : Mg) (now : Int) : findS 32 (recF l 32 m now).1 = findS 32 (recF k 32 m now).1 ∧ (recF l 32 m now).2 = (recF k 32 m now).2 := by
  unfold recF
  split
  · split
    · rw [findS_put hs, findS_put hk]; simp
    · split
      · rw [he]
        split
        · split
          · rw [findS_put hs, findS_put hk]; simp
          · exact ⟨he, rfl⟩
        · exact ⟨he, rfl⟩
      · exact ⟨he, rfl⟩
  · exact ⟨he, rfl⟩
theorem mem_mux {l : List Se} (hs : SrtS l) (P : Se → Bool) : 32 ∈ muxesOf P l ↔ ∃ e, findS 32 l = some e ∧ P e = true := by
  unfold muxesOf
  constructor
  · intro h
    obtain ⟨e, he, hm⟩ := List.mem_map.1 h
    obtain ⟨h1, h2⟩ := List.mem_filter.1 he
    have := findS_of hs h1
    rw [hm] at this
    exact ⟨e, this, h2⟩
  · rintro ⟨e, h1, h2⟩
    obtain ⟨h3, h4⟩ := findS_mem h1
    exact List.mem_map.2 ⟨e, List.mem_filter.2 ⟨h3, h2⟩, h4⟩
def Few (l : List Se) : Prop := ∀ e ∈ l, e.vips.length ≤ 39
theorem few_put {l : List Se} (h : Few l) {x : Se} (hx : x.vips.length ≤ 39) : Few (putS x l) := fun e he => by
  rcases mem_put.1 he with rfl | ⟨h1, _⟩
  · exact hx
  · exact h e h1
theorem few_rec {l : List Se} (h : Few l) (fr : Int) (m : Mg) (now : Int) : Few (recF l fr m now).1 := by
  unfold recF
  split
  · rename_i hc
    have hv : (m.nums.drop 1).length ≤ 39 := hc.1.2.2.2.1
    split
    · exact few_put h hv
    · split
      · split
        · rename_i e0 hf
          split
          · refine few_put h ?_
            split
            · exact h e0 (findS_mem hf).1
            · exact hv
          · exact h
        · exact h
      · exact h
  · exact h
/-- Both listeners, apart. -/
structure P2 (w0 w : World) (FA FB : Nat → Prop) (p q : Nat) (la lb : List Se) : Prop where
  bel : Below w0.heap.size w0 w
  a : LiS w FA w0.heap.size p la
  b : LiS w FB w0.heap.size q lb
  apart : ∀ k, FA k → ¬ FB k
  fa : Few la
  fb : Few lb
theorem P2.swap {w0 w : World} {FA FB : Nat → Prop} {p q : Nat} {la lb : List Se} (h : P2 w0 w FA FB p q la lb) : P2 w0 w FB FA q p lb la := ⟨h.bel, h.b, h.a, fun k hb ha => h.apart k ha hb, h.fb, h.fa⟩
theorem P2.below {w0 w w' : World} {FA FB : Nat → Prop} {p q : Nat} {la lb : List Se} (h : P2 w0 w FA FB p q la lb) (hb : Below w.heap.size w w') : P2 w0 w' FA FB p q la lb := ⟨bl_tr h.bel hb, h.a.below hb, h.b.below hb, h.apart, h.fa, h.fb⟩
theorem P2.at {w0 w w' : World} {FA FB : Nat → Prop} {p q : Nat} {la lb la' : List Se} (h : P2 w0 w FA FB p q la lb) (ht : LiTo w FA w0.heap.size p la' w') (hf : Few la') : P2 w0 w' (Gr FA w w') FB p q la' lb := by
  refine ⟨((tch_below h.bel).trans (ht.2.mono (fun k hk => (h.a.blocks k hk).1))).below (fun _ h => h) (Nat.le_refl _), ht.1, h.b.tch ht.2 (fun k hk hk2 => h.apart k hk2 hk), fun k hk hb => ?_, hf, h.fb⟩
  rcases hk with hk | hk
  · exact h.apart k hk hb
  · have := (h.b.blocks k hb).2; omega
theorem P2.atB {w0 w w' : World} {FA FB : Nat → Prop} {p q : Nat} {la lb lb' : List Se} (h : P2 w0 w FA FB p q la lb) (ht : LiTo w FB w0.heap.size q lb' w') (hf : Few lb') : P2 w0 w' FA (Gr FB w w') p q la lb' := (h.swap.at ht hf).swap
/-- What was answered, plainly. -/
def ansV : Option Mg → Mg × Bool
  | none => (⟨0, [], []⟩, false)
  | some m => (⟨m.kind, m.nums, []⟩, true)
def AnsO (w : World) (B : Nat) (x : Option Mg) (a : Option Addr) (n c : Nat) : Prop := n = (ansV x).1.nums.length ∧ w.ownsRow B 3 1 (.slice a n c) n (i64s (ansV x).1.nums)
theorem ans_of {w : World} {B : Nat} {x : Option Mg} {e : Ending} (h : AnsM w B x e) : ∃ a n c, e = .returned (.tuple #[mval (ansV x).1.kind a n c none 0 0, .bool (ansV x).2]) ∧ AnsO w B x a n c := by
  cases x with
  | none => exact ⟨none, 0, 0, h, rfl, World.ownsRow_nil _ _ _ _⟩
  | some m =>
    obtain ⟨a, n, c, he, hn, ho⟩ := h
    exact ⟨a, n, c, he, hn, ho⟩
theorem ans_fit (l : List Se) (fr : Int) (m : Mg) (now : Int) : fitI (ansV (recF l fr m now).2).1.nums ∧ (ansV (recF l fr m now).2).1.nums.length ≤ 1 := by
  have hz : ∀ y : Int, IsTm y → fitI [y] := fun y hy b hb => by
    unfold IsTm at hy
    simp at hb
    omega
  have h0 : fitI [] := fun b hb => by cases hb
  unfold recF
  split
  · rename_i hc
    have hk := hz _ hc.1.2.2.1
    split
    · exact ⟨hk, by simp [ansV]⟩
    · split
      · split
        · split
          · exact ⟨h0, by simp [ansV]⟩
          · exact ⟨hk, by simp [ansV]⟩
        · exact ⟨hk, by simp [ansV]⟩
      · exact ⟨h0, by simp [ansV]⟩
  · exact ⟨h0, by simp [ansV]⟩
theorem ansV_data (x : Option Mg) : (ansV x).1.data = [] := by cases x <;> rfl
theorem AnsO.min {w : World} {B : Nat} {x : Option Mg} {a : Option Addr} {n c : Nat} (h : AnsO w B x a n c) (hf : fitI (ansV x).1.nums) : MIn w a n c none 0 0 (ansV x).1 :=
  ⟨own_inI h.2 h.1.symm hf, by rw [ansV_data]; exact ⟨rfl, Nat.le_refl _, fun _ => rfl, At.nil _ _ _, by intro b hb; cases hb⟩⟩
end Go.Proofs.Ytlmkmbpikhagiaa
