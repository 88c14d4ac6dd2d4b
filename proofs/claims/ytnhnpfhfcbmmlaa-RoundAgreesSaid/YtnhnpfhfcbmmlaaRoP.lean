/- Several rounds over several voters, plain: of two that are done one log begins with the other. No program. -/
import Derived.Test.YtnhnpfhfcbmmlaaRoE
import Derived.Test.YtnhnpfhfcbmmlaaVhF
namespace Go.Proofs.Ytnhnpfhfcbmmlaa
open Go Go.RowKit
set_option linter.unusedVariables false
set_option linter.unusedSimpArgs false

/-- How many below n. -/
def cntN (p : Nat → Bool) (n : Nat) : Nat := ((List.range n).filter p).length
theorem cntN_more (p : Nat → Bool) (n : Nat) : cntN p (n + 1) = cntN p n + (if p n then 1 else 0) := by
  unfold cntN
  rw [List.range_succ, List.filter_append, List.length_append]
  cases h : p n <;> simp [h]
theorem cntN_mono {p q : Nat → Bool} : ∀ {n : Nat}, (∀ k, k < n → p k = true → q k = true) → cntN p n ≤ cntN q n
  | 0, _ => by simp [cntN]
  | n + 1, h => by
    have h1 := cntN_mono (p := p) (q := q) (n := n) (fun k hk => h k (by omega))
    rw [cntN_more, cntN_more]
    have h2 := h n (by omega)
    cases hp : p n with
    | false => simp; omega
    | true => rw [h2 hp]; simp; omega
theorem cntN_split (p : Nat → Bool) : ∀ n, cntN p n + cntN (fun k => !p k) n = n
  | 0 => by simp [cntN]
  | n + 1 => by
    have := cntN_split p n
    rw [cntN_more, cntN_more]
    cases p n <;> simp <;> omega
theorem sil_cnt (bs : List Bool) (n : Nat) : (silN bs n).length = cntN (fun k => !bs.getD k false) n := by
  unfold silN cntN
  rw [List.length_map]
/-- Those that have answered. -/
def ansN (r : Rd) (k : Nat) : Bool := r.ans.getD k false
theorem most_cnt {r : Rd} (h : Most r) : r.n < 2 * cntN (ansN r) r.n := by
  unfold Most at h
  rw [sil_cnt] at h
  have := cntN_split (ansN r) r.n
  have e : cntN (fun k => !r.ans.getD k false) r.n = cntN (fun k => !ansN r k) r.n := rfl
  omega
/-- A voter: what it promised, accepted, its log, its store. -/
structure Vr where
  pr : Bl
  ac : Bl
  ls : List Cm
  l : List Pr
def Tl (r : Rd) : Prop := r.stage = 2 ∨ r.stage = 3
/-- Who can't accept a round any more. -/
def blk (V : Nat → Vr) (r : Rd) (k : Nat) : Bool := !ansN r k && decide (LtB r.b (V k).pr)
/-- A round's log stands in another's, or the round can't be done any more. -/
def Safe (M : Nat) (V : Nat → Vr) (r : Rd) (r2 : Rd) : Prop := r.log <+: r2.log ∨ M ≤ 2 * cntN (blk V r) M
structure Inv (M : Nat) (V : Nat → Vr) (n : Nat) (R : Nat → Rd) : Prop where
  size : ∀ i, i < n → (R i).n = M
  ne : ∀ i j, i < n → j < n → (R i).b = (R j).b → i = j
  acc : ∀ k, k < M → (V k).ac = bl0 ∨ ∃ i, i < n ∧ Tl (R i) ∧ (R i).b = (V k).ac ∧ (R i).log = (V k).ls
  le : ∀ k, k < M → ¬ LtB (V k).pr (V k).ac
  voted : ∀ i, i < n → Tl (R i) → ∀ k, k < M → ansN (R i) k = true → ¬ LtB (V k).ac (R i).b
  most : ∀ i, i < n → Tl (R i) → M < 2 * cntN (fun k => decide (¬ LtB (V k).pr (R i).b)) M
  safe : ∀ i j, i < n → j < n → Tl (R i) → Tl (R j) → LtB (R i).b (R j).b → Safe M V (R i) (R j)
  done : ∀ i, i < n → (R i).stage = 3 → M < 2 * cntN (ansN (R i)) M
  pos : ∀ i, i < n → LtB bl0 (R i).b
theorem ltB_tri (a b : Bl) (h : a ≠ b) : LtB a b ∨ LtB b a := by
  obtain ⟨x, y⟩ := a
  obtain ⟨z, t⟩ := b
  have h2 : ¬ (x = z ∧ y = t) := fun e => h (by rw [e.1, e.2])
  unfold LtB
  simp only
  omega
theorem ltB_le {a b c : Bl} (h : LtB a b) (h2 : ¬ LtB c b) : LtB a c := by
  unfold LtB at *
  omega
theorem ltB_asym {a b : Bl} (h : LtB a b) : ¬ LtB b a := by
  unfold LtB at *
  omega
theorem ltB_le2 {a b c : Bl} (h : ¬ LtB b a) (h2 : LtB b c) : LtB a c := by
  unfold LtB at *
  omega
theorem not_blk {M : Nat} {V : Nat → Vr} {r : Rd} (h : M < 2 * cntN (ansN r) M) : ¬ M ≤ 2 * cntN (blk V r) M := by
  have h1 := cntN_split (ansN r) M
  have h2 : cntN (blk V r) M ≤ cntN (fun k => !ansN r k) M := cntN_mono (fun k _ hk => by unfold blk at hk; simp only [Bool.and_eq_true] at hk; exact hk.1)
  omega
/-- Of two rounds that are done one log begins with the other. -/
theorem Inv.agree {M n : Nat} {V : Nat → Vr} {R : Nat → Rd} (h : Inv M V n R) {i j : Nat} (hi : i < n) (hj : j < n) (h1 : (R i).stage = 3) (h2 : (R j).stage = 3) : (R i).log <+: (R j).log ∨ (R j).log <+: (R i).log := by
  by_cases e : (R i).b = (R j).b
  · have := h.ne i j hi hj e
    subst this
    exact .inl (List.prefix_refl _)
  · rcases ltB_tri _ _ e with hl | hl
    · rcases h.safe i j hi hj (.inr h1) (.inr h2) hl with h3 | h3
      · exact .inl h3
      · exact absurd h3 (not_blk (h.done i hi h1))
    · rcases h.safe j i hj hi (.inr h2) (.inr h1) hl with h3 | h3
      · exact .inr h3
      · exact absurd h3 (not_blk (h.done j hj h2))
/-- One of them otherwise. -/
def updN {α : Type} (f : Nat → α) (k : Nat) (x : α) : Nat → α := fun i => if i = k then x else f i
theorem updN_self {α : Type} (f : Nat → α) (k : Nat) (x : α) : updN f k x k = x := if_pos rfl
theorem updN_ne {α : Type} (f : Nat → α) {k i : Nat} (x : α) (h : i ≠ k) : updN f k x i = f i := if_neg h
theorem updN_at {α : Type} (f : Nat → α) (k : Nat) (x : α) (i : Nat) : (i = k ∧ updN f k x i = x) ∨ (i ≠ k ∧ updN f k x i = f i) := by
  by_cases h : i = k
  · exact .inl ⟨h, if_pos h⟩
  · exact .inr ⟨h, if_neg h⟩
/-- A voter promises. -/
theorem Inv.prepare {M n : Nat} {V : Nat → Vr} {R : Nat → Rd} (h : Inv M V n R) {k : Nat} {b : Bl} (hb : ¬ LtB b (V k).pr) (l2 : List Pr) : Inv M (updN V k ⟨b, (V k).ac, (V k).ls, l2⟩) n R := by
  have hac : ∀ i, (updN V k ⟨b, (V k).ac, (V k).ls, l2⟩ i).ac = (V i).ac ∧ (updN V k ⟨b, (V k).ac, (V k).ls, l2⟩ i).ls = (V i).ls := fun i => by
    rcases updN_at V k ⟨b, (V k).ac, (V k).ls, l2⟩ i with ⟨e, e2⟩ | ⟨_, e2⟩
    · rw [e2, e]; exact ⟨rfl, rfl⟩
    · rw [e2]; exact ⟨rfl, rfl⟩
  have hpr : ∀ i, ¬ LtB (updN V k ⟨b, (V k).ac, (V k).ls, l2⟩ i).pr (V i).pr := fun i => by
    rcases updN_at V k ⟨b, (V k).ac, (V k).ls, l2⟩ i with ⟨e, e2⟩ | ⟨_, e2⟩
    · rw [e2, e]; exact hb
    · rw [e2]; exact ltB_self _
  refine ⟨h.size, h.ne, fun i hi => ?_, fun i hi => ?_, fun i hi ht j hj ha => ?_, fun i hi ht => ?_, fun i j hi hj h1 h2 hl => ?_, h.done, h.pos⟩
  · rw [(hac i).1, (hac i).2]
    exact h.acc i hi
  · rw [(hac i).1]
    exact ltB_not (hpr i) (h.le i hi)
  · rw [(hac j).1]
    exact h.voted i hi ht j hj ha
  · refine Nat.lt_of_lt_of_le (h.most i hi ht) (Nat.mul_le_mul_left 2 (cntN_mono (fun j _ hp => ?_)))
    have hp2 := of_decide_eq_true hp
    exact decide_eq_true (ltB_not (hpr j) hp2)
  · rcases h.safe i j hi hj h1 h2 hl with h3 | h3
    · exact .inl h3
    · refine .inr (Nat.le_trans h3 (Nat.mul_le_mul_left 2 (cntN_mono (fun x _ hp => ?_))))
      unfold blk at hp ⊢
      simp only [Bool.and_eq_true, decide_eq_true_eq] at hp ⊢
      exact ⟨hp.1, ltB_le hp.2 (hpr x)⟩
theorem accR_b (r : Rd) (node : Int) : (accR r node).b = r.b ∧ (accR r node).log = r.log ∧ (accR r node).n = r.n := by
  unfold accR heard
  split
  · split <;> exact ⟨rfl, rfl, rfl⟩
  · exact ⟨rfl, rfl, rfl⟩
theorem accR_tl {r : Rd} (node : Int) (h : Tl r) : Tl (accR r node) := by
  unfold accR
  split
  · split
    · exact .inr rfl
    · exact h
  · exact h
theorem accR_ans {r : Rd} {k : Nat} (i : Nat) (hr : r.ans.length = 8) (h : ansN (accR r (16 + (k : Int))) i = true) : ansN r i = true ∨ i = k := by
  unfold accR at h
  have e : ((16 + (k : Int) - 16)).toNat = k := by omega
  have hh : ∀ (b : Bool), (r.ans.set k true).getD i false = true → r.ans.getD i false = true ∨ i = k := fun _ hx => by
    by_cases hik : i = k
    · exact .inr hik
    · left
      rw [List.getD_eq_getElem?_getD, List.getElem?_set_ne (fun h => hik h.symm)] at hx
      rw [List.getD_eq_getElem?_getD]
      exact hx
  split at h
  · split at h
    · unfold ansN heard at h; rw [e] at h; exact hh true h
    · unfold ansN heard at h; rw [e] at h; exact hh true h
  · exact .inl h
theorem accR_done {r : Rd} (node : Int) (hd : r.stage = 3 → r.n < 2 * cntN (ansN r) r.n) (h : (accR r node).stage = 3) : r.n < 2 * cntN (ansN (accR r node)) r.n := by
  unfold accR at h ⊢
  by_cases h1 : r.stage = 2 ∧ node ∈ silN r.ans r.n
  · rw [if_pos h1] at h ⊢
    by_cases h2 : Most (heard r node)
    · rw [if_pos h2] at h ⊢
      exact most_cnt h2
    · rw [if_neg h2] at h
      have : (heard r node).stage = r.stage := rfl
      rw [this, h1.1] at h
      exact absurd h (by decide)
  · rw [if_neg h1] at h ⊢
    exact hd h
/-- A voter accepts. -/
theorem Inv.accept {M n : Nat} {V : Nat → Vr} {R : Nat → Rd} (h : Inv M V n R) {k j : Nat} (hk : k < M) (hj : j < n) (hl8 : (R j).ans.length = 8) (ht : Tl (R j)) (hb : ¬ LtB (R j).b (V k).pr) (l2 : List Pr) :
    Inv M (updN V k ⟨(R j).b, (R j).b, (R j).log, l2⟩) n (updN R j (accR (R j) (16 + (k : Int)))) := by
  obtain ⟨r2, hr2⟩ : ∃ r2, r2 = accR (R j) (16 + (k : Int)) := ⟨_, rfl⟩
  have hrb := accR_b (R j) (16 + (k : Int))
  have hrt := accR_tl (16 + (k : Int)) ht
  have hra := fun i => accR_ans (r := R j) (k := k) i hl8
  have hrd := accR_done (16 + (k : Int)) (fun e => by have := h.done j hj e; rwa [h.size j hj])
  rw [← hr2] at hrb hrt hra hrd ⊢
  have hR : ∀ i, (updN R j r2 i).b = (R i).b ∧ (updN R j r2 i).log = (R i).log ∧ (updN R j r2 i).n = (R i).n ∧ (Tl (updN R j r2 i) → Tl (R i)) ∧ (Tl (R i) → Tl (updN R j r2 i)) := fun i => by
    rcases updN_at R j r2 i with ⟨e, e2⟩ | ⟨_, e2⟩
    · rw [e2, e]; exact ⟨hrb.1, hrb.2.1, hrb.2.2, fun _ => ht, fun _ => hrt⟩
    · rw [e2]; exact ⟨rfl, rfl, rfl, id, id⟩
  have hle := h.le k hk
  have hpr : ∀ i, ¬ LtB (updN V k ⟨(R j).b, (R j).b, (R j).log, l2⟩ i).pr (V i).pr := fun i => by
    rcases updN_at V k ⟨(R j).b, (R j).b, (R j).log, l2⟩ i with ⟨e, e2⟩ | ⟨_, e2⟩
    · rw [e2, e]; exact hb
    · rw [e2]; exact ltB_self _
  have hac : ∀ i, i < M → ¬ LtB (updN V k ⟨(R j).b, (R j).b, (R j).log, l2⟩ i).ac (V i).ac := fun i hi => by
    rcases updN_at V k ⟨(R j).b, (R j).b, (R j).log, l2⟩ i with ⟨e, e2⟩ | ⟨_, e2⟩
    · rw [e2, e]; exact ltB_not hb hle
    · rw [e2]; exact ltB_self _
  refine ⟨fun i hi => by rw [(hR i).2.2.1]; exact h.size i hi, fun i i2 hi hi2 e => h.ne i i2 hi hi2 (by rwa [(hR i).1, (hR i2).1] at e), fun i hi => ?_, fun i hi => ?_, fun i hi hti x hx hax => ?_, fun i hi hti => ?_, fun i i2 hi hi2 h1 h2 hl => ?_, fun i hi e3 => ?_, fun i hi => by rw [(hR i).1]; exact h.pos i hi⟩
  · rcases updN_at V k ⟨(R j).b, (R j).b, (R j).log, l2⟩ i with ⟨e, e2⟩ | ⟨_, e2⟩
    · rw [e2]
      exact .inr ⟨j, hj, (hR j).2.2.2.2 ht, (hR j).1, (hR j).2.1⟩
    · rw [e2]
      rcases h.acc i hi with h0 | ⟨x, hx, h1, h2, h3⟩
      · exact .inl h0
      · exact .inr ⟨x, hx, (hR x).2.2.2.2 h1, by rw [(hR x).1]; exact h2, by rw [(hR x).2.1]; exact h3⟩
  · rcases updN_at V k ⟨(R j).b, (R j).b, (R j).log, l2⟩ i with ⟨e, e2⟩ | ⟨_, e2⟩
    · rw [e2]; exact ltB_self _
    · rw [e2]; exact h.le i hi
  · rw [(hR i).1]
    rcases updN_at R j r2 i with ⟨e, e2⟩ | ⟨_, e2⟩
    · rw [e2] at hax
      rcases hra x hax with h4 | h4
      · rw [e]
        exact ltB_not (hac x hx) (h.voted j hj ht x hx h4)
      · rw [h4, updN_self, e]
        exact ltB_self _
    · rw [e2] at hax
      exact ltB_not (hac x hx) (h.voted i hi ((hR i).2.2.2.1 hti) x hx hax)
  · rw [(hR i).1]
    refine Nat.lt_of_lt_of_le (h.most i hi ((hR i).2.2.2.1 hti)) (Nat.mul_le_mul_left 2 (cntN_mono (fun x _ hp => ?_)))
    exact decide_eq_true (ltB_not (hpr x) (of_decide_eq_true hp))
  · rw [(hR i).1, (hR i2).1] at hl
    rcases h.safe i i2 hi hi2 ((hR i).2.2.2.1 h1) ((hR i2).2.2.2.1 h2) hl with h3 | h3
    · left
      rw [(hR i).2.1, (hR i2).2.1]
      exact h3
    · refine .inr (Nat.le_trans h3 (Nat.mul_le_mul_left 2 (cntN_mono (fun x _ hp => ?_))))
      unfold blk at hp ⊢
      simp only [Bool.and_eq_true, decide_eq_true_eq, Bool.not_eq_true'] at hp ⊢
      rw [(hR i).1]
      refine ⟨?_, ltB_le hp.2 (hpr x)⟩
      rcases updN_at R j r2 i with ⟨e, e2⟩ | ⟨_, e2⟩
      · rw [e2]
        cases hx : ansN r2 x with
        | false => rfl
        | true =>
          exfalso
          rcases hra x hx with h4 | h4
          · rw [e, h4] at hp
            exact absurd hp.1 (by decide)
          · rw [h4, e] at hp
            exact hb hp.2
      · rw [e2]
        exact hp.1
  · rcases updN_at R j r2 i with ⟨e, e2⟩ | ⟨_, e2⟩
    · rw [e2] at e3 ⊢
      have := hrd e3
      rwa [h.size j hj] at this
    · rw [e2] at e3 ⊢
      exact h.done i hi e3
/-- What holds of a round that asks. -/
structure Asks (M : Nat) (V : Nat → Vr) (n : Nat) (R : Nat → Rd) (r : Rd) : Prop where
  from' : r.gr = bl0 ∧ r.log = [] ∨ ∃ i, i < n ∧ Tl (R i) ∧ (R i).b = r.gr ∧ (R i).log = r.log ∧ LtB r.gr r.b
  who : ∀ k, k < M → ansN r k = true → (V k).pr = r.b ∧ ¬ LtB r.gr (V k).ac
theorem Inv.new {M n : Nat} {V : Nat → Vr} {R : Nat → Rd} (h : Inv M V n R) {r : Rd} (hn : r.n = M) (hs : ¬ Tl r) (hne : ∀ i, i < n → (R i).b ≠ r.b) (hp : LtB bl0 r.b) : Inv M V (n + 1) (updN R n r) := by
  have hR : ∀ i, i < n → updN R n r i = R i := fun i hi => updN_ne R r (by omega)
  have hT : ∀ i, i < n + 1 → Tl (updN R n r i) → i < n := fun i hi ht => by
    by_cases e : i = n
    · rw [e, updN_self] at ht
      exact absurd ht hs
    · omega
  refine ⟨fun i hi => ?_, fun i j hi hj e => ?_, fun k hk => ?_, h.le, fun i hi ht k hk ha => ?_, fun i hi ht => ?_, fun i j hi hj h1 h2 hl => ?_, fun i hi h3 => ?_, fun i hi => ?_⟩
  · by_cases e : i = n
    · rw [e, updN_self]; exact hn
    · rw [hR i (by omega)]; exact h.size i (by omega)
  · by_cases e1 : i = n
    · by_cases e2 : j = n
      · omega
      · rw [e1, updN_self, hR j (by omega)] at e
        exact absurd e.symm (hne j (by omega))
    · by_cases e2 : j = n
      · rw [e2, updN_self, hR i (by omega)] at e
        exact absurd e (hne i (by omega))
      · rw [hR i (by omega), hR j (by omega)] at e
        exact h.ne i j (by omega) (by omega) e
  · rcases h.acc k hk with h0 | ⟨i, hi, h1⟩
    · exact .inl h0
    · exact .inr ⟨i, by omega, by rw [hR i hi]; exact h1⟩
  · have hi2 := hT i hi ht
    rw [hR i hi2] at ht ha ⊢
    exact h.voted i hi2 ht k hk ha
  · have hi2 := hT i hi ht
    rw [hR i hi2] at ht ⊢
    exact h.most i hi2 ht
  · have hi2 := hT i hi h1
    have hj2 := hT j hj h2
    rw [hR i hi2] at h1 hl ⊢
    rw [hR j hj2] at h2 hl ⊢
    exact h.safe i j hi2 hj2 h1 h2 hl
  · have hi2 := hT i hi (.inr h3)
    rw [hR i hi2] at h3 ⊢
    exact h.done i hi2 h3
  · by_cases e : i = n
    · rw [e, updN_self]; exact hp
    · rw [hR i (by omega)]; exact h.pos i (by omega)
theorem asks_new (M : Nat) (V : Nat → Vr) (n : Nat) (R : Nat → Rd) (r : Rd) (h1 : r.gr = bl0) (h2 : r.log = []) (h3 : r.ans = none8) : Asks M V n R r :=
  ⟨.inl ⟨h1, h2⟩, fun k _ ha => by
    unfold ansN at ha
    rw [h3] at ha
    unfold none8 at ha
    rw [List.getD_eq_getElem?_getD, List.getElem?_replicate] at ha
    split at ha <;> simp at ha⟩
/-- Without the last one, which isn't told. -/
theorem Inv.cut {M n : Nat} {V : Nat → Vr} {R : Nat → Rd} {r : Rd} (h : Inv M V (n + 1) (updN R n r)) (hs : ¬ Tl r) : Inv M V n R := by
  have hR : ∀ i, i < n → updN R n r i = R i := fun i hi => updN_ne R r (by omega)
  refine ⟨fun i hi => ?_, fun i j hi hj e => ?_, fun k hk => ?_, h.le, fun i hi ht k hk ha => ?_, fun i hi ht => ?_, fun i j hi hj h1 h2 hl => ?_, fun i hi h3 => ?_, fun i hi => ?_⟩
  · have := h.size i (by omega)
    rwa [hR i hi] at this
  · exact h.ne i j (by omega) (by omega) (by rw [hR i hi, hR j hj]; exact e)
  · rcases h.acc k hk with h0 | ⟨i, hi, h1⟩
    · exact .inl h0
    · by_cases e : i = n
      · rw [e, updN_self] at h1
        exact absurd h1.1 hs
      · rw [hR i (by omega)] at h1
        exact .inr ⟨i, by omega, h1⟩
  · have := h.voted i (by omega) (by rw [hR i hi]; exact ht) k hk (by rw [hR i hi]; exact ha)
    rwa [hR i hi] at this
  · have := h.most i (by omega) (by rw [hR i hi]; exact ht)
    rwa [hR i hi] at this
  · have := h.safe i j (by omega) (by omega) (by rw [hR i hi]; exact h1) (by rw [hR j hj]; exact h2) (by rw [hR i hi, hR j hj]; exact hl)
    rwa [hR i hi, hR j hj] at this
  · have := h.done i (by omega) (by rw [hR i hi]; exact h3)
    rwa [hR i hi] at this
  · have := h.pos i (by omega)
    rwa [hR i hi] at this
/-- One more, which is told. -/
theorem Inv.told {M n : Nat} {V : Nat → Vr} {R : Nat → Rd} (h : Inv M V n R) {r : Rd} (hn : r.n = M) (hs : r.stage = 2) (hne : ∀ i, i < n → (R i).b ≠ r.b) (hp : LtB bl0 r.b) (ha : ∀ k, ansN r k = false)
    (hm : M < 2 * cntN (fun k => decide (¬ LtB (V k).pr r.b)) M) (s1 : ∀ i, i < n → Tl (R i) → LtB (R i).b r.b → Safe M V (R i) r) : Inv M V (n + 1) (updN R n r) := by
  have hR : ∀ i, i < n → updN R n r i = R i := fun i hi => updN_ne R r (by omega)
  refine ⟨fun i hi => ?_, fun i j hi hj e => ?_, fun k hk => ?_, h.le, fun i hi ht k hk hx => ?_, fun i hi ht => ?_, fun i j hi hj h1 h2 hl => ?_, fun i hi h3 => ?_, fun i hi => ?_⟩
  · by_cases e : i = n
    · rw [e, updN_self]; exact hn
    · rw [hR i (by omega)]; exact h.size i (by omega)
  · by_cases e1 : i = n
    · by_cases e2 : j = n
      · omega
      · rw [e1, updN_self, hR j (by omega)] at e
        exact absurd e.symm (hne j (by omega))
    · by_cases e2 : j = n
      · rw [e2, updN_self, hR i (by omega)] at e
        exact absurd e (hne i (by omega))
      · rw [hR i (by omega), hR j (by omega)] at e
        exact h.ne i j (by omega) (by omega) e
  · rcases h.acc k hk with h0 | ⟨i, hi, h1⟩
    · exact .inl h0
    · exact .inr ⟨i, by omega, by rw [hR i hi]; exact h1⟩
  · by_cases e : i = n
    · rw [e, updN_self, ha k] at hx
      exact absurd hx (by decide)
    · rw [hR i (by omega)] at ht hx ⊢
      exact h.voted i (by omega) ht k hk hx
  · by_cases e : i = n
    · rw [e, updN_self]; exact hm
    · rw [hR i (by omega)] at ht ⊢
      exact h.most i (by omega) ht
  · by_cases e1 : i = n
    · by_cases e2 : j = n
      · rw [e1, e2] at hl
        exact absurd hl (ltB_self _)
      · have hj2 : j < n := by omega
        rw [hR j hj2] at h2 hl ⊢
        rw [e1, updN_self] at hl ⊢
        refine .inr (Nat.le_of_lt (Nat.lt_of_lt_of_le (h.most j hj2 h2) (Nat.mul_le_mul_left 2 (cntN_mono (fun x _ hx => ?_)))))
        unfold blk
        simp only [Bool.and_eq_true, decide_eq_true_eq, Bool.not_eq_true']
        exact ⟨ha x, ltB_le hl (of_decide_eq_true hx)⟩
    · have hi2 : i < n := by omega
      rw [hR i hi2] at h1 hl ⊢
      by_cases e2 : j = n
      · rw [e2, updN_self] at hl ⊢
        exact s1 i hi2 h1 hl
      · have hj2 : j < n := by omega
        rw [hR j hj2] at h2 hl ⊢
        exact h.safe i j hi2 hj2 h1 h2 hl
  · by_cases e : i = n
    · rw [e, updN_self, hs] at h3
      exact absurd h3 (by decide)
    · rw [hR i (by omega)] at h3 ⊢
      exact h.done i (by omega) h3
  · by_cases e : i = n
    · rw [e, updN_self]; exact hp
    · rw [hR i (by omega)]; exact h.pos i (by omega)
/-- A voter that promises the round's ballot. -/
theorem Asks.prepare {M n : Nat} {V : Nat → Vr} {R : Nat → Rd} {r : Rd} (h : Asks M V n R r) {k : Nat} (l2 : List Pr) : Asks M (updN V k ⟨r.b, (V k).ac, (V k).ls, l2⟩) n R r :=
  ⟨h.from', fun i hi ha => by
    rcases updN_at V k ⟨r.b, (V k).ac, (V k).ls, l2⟩ i with ⟨e, e2⟩ | ⟨_, e2⟩
    · rw [e2]
      exact ⟨rfl, by have := (h.who i hi ha).2; rw [e] at this; exact this⟩
    · rw [e2]
      exact h.who i hi ha⟩
theorem ansN_set {r : Rd} {k i : Nat} {x : Rd} (hx : x.ans = r.ans.set k true) (h : ansN x i = true) : ansN r i = true ∨ i = k := by
  by_cases hik : i = k
  · exact .inr hik
  · left
    unfold ansN at h ⊢
    rw [hx, List.getD_eq_getElem?_getD, List.getElem?_set_ne (fun h => hik h.symm)] at h
    rw [List.getD_eq_getElem?_getD]
    exact h
theorem greater_f (r : Rd) (acc : Bl) (lg : List Cm) : (greater r acc lg).n = r.n ∧ (greater r acc lg).b = r.b ∧ (greater r acc lg).ans = r.ans ∧ (greater r acc lg).stage = r.stage ∧ (greater r acc lg).want = r.want := by
  unfold greater
  split <;> exact ⟨rfl, rfl, rfl, rfl, rfl⟩
theorem Asks.hear {M n k : Nat} {V : Nat → Vr} {R : Nat → Rd} {r : Rd} (hI : Inv M V n R) (h : Asks M V n R r) (hk : k < M) (hne : ∀ i, i < n → (R i).b ≠ r.b) (hpr : (V k).pr = r.b) : Asks M V n R (greater (heard r (16 + (k : Int))) (V k).ac (V k).ls) := by
  have e16 : ((16 + (k : Int) - 16)).toNat = k := by omega
  have hf := greater_f (heard r (16 + (k : Int))) (V k).ac (V k).ls
  have hans : (greater (heard r (16 + (k : Int))) (V k).ac (V k).ls).ans = r.ans.set k true := by rw [hf.2.2.1]; unfold heard; rw [e16]
  have hb : (greater (heard r (16 + (k : Int))) (V k).ac (V k).ls).b = r.b := hf.2.1
  have hg : (heard r (16 + (k : Int))).gr = r.gr := rfl
  have hl : (heard r (16 + (k : Int))).log = r.log := rfl
  by_cases hlt : LtB r.gr (V k).ac
  · have e1 : (greater (heard r (16 + (k : Int))) (V k).ac (V k).ls).gr = (V k).ac ∧ (greater (heard r (16 + (k : Int))) (V k).ac (V k).ls).log = (V k).ls := by
      unfold greater
      rw [hg, if_pos hlt]
      exact ⟨rfl, rfl⟩
    refine ⟨.inr ?_, fun i hi ha => ?_⟩
    · rw [e1.1, e1.2, hb]
      rcases hI.acc k hk with h0 | ⟨i, hi, ht, h1, h2⟩
      · exfalso
        rw [h0] at hlt
        rcases h.from' with ⟨h3, _⟩ | ⟨i, hi, _, h3, _, _⟩
        · rw [h3] at hlt
          exact ltB_self _ hlt
        · rw [← h3] at hlt
          exact ltB_asym hlt (hI.pos i hi)
      · refine ⟨i, hi, ht, h1, h2, ?_⟩
        have hle := hI.le k hk
        rw [hpr] at hle
        rcases ltB_tri (V k).ac r.b (by rw [← h1]; exact hne i hi) with h3 | h3
        · exact h3
        · exact absurd h3 hle
    · rw [e1.1, hb]
      rcases ansN_set hans ha with h3 | h3
      · refine ⟨(h.who i hi h3).1, fun h4 => (h.who i hi h3).2 ?_⟩
        exact ltB_le hlt (ltB_asym h4)
      · rw [h3]
        exact ⟨hpr, ltB_self _⟩
  · have e1 : (greater (heard r (16 + (k : Int))) (V k).ac (V k).ls).gr = r.gr ∧ (greater (heard r (16 + (k : Int))) (V k).ac (V k).ls).log = r.log := by
      unfold greater
      rw [hg, if_neg hlt]
      exact ⟨rfl, rfl⟩
    refine ⟨?_, fun i hi ha => ?_⟩
    · rw [e1.1, e1.2, hb]
      exact h.from'
    · rw [e1.1, hb]
      rcases ansN_set hans ha with h3 | h3
      · exact h.who i hi h3
      · rw [h3]
        exact ⟨hpr, hlt⟩
theorem chosen_pre (r : Rd) : r.log <+: chosenL r := by
  unfold chosenL
  split
  · exact List.prefix_append _ _
  · exact List.prefix_refl _
/-- The stage Ask ends. -/
theorem Inv.choose {M n : Nat} {V : Nat → Vr} {R : Nat → Rd} {r : Rd} (h : Inv M V n R) (ha : Asks M V n R r) (hn : r.n = M) (hne : ∀ i, i < n → (R i).b ≠ r.b) (hp : LtB bl0 r.b) (hm : Most r) : Inv M V (n + 1) (updN R n (chooseR r)) := by
  have hcnt := most_cnt hm
  rw [hn] at hcnt
  by_cases hfull : (chosenL r).length > 256
  · refine h.new hn (fun ht => ?_) hne hp
    unfold chooseR Tl at ht
    simp only [if_pos hfull] at ht
    rcases ht with h1 | h1 <;> exact absurd h1 (by decide)
  · refine h.told hn (by unfold chooseR; simp only [if_neg hfull]) hne hp (fun k => ?_) ?_ (fun i hi ht hl => ?_)
    · unfold ansN chooseR none8
      simp only
      rw [List.getD_eq_getElem?_getD, List.getElem?_replicate]
      split <;> rfl
    · refine Nat.lt_of_lt_of_le hcnt (Nat.mul_le_mul_left 2 (cntN_mono (fun k hk hx => decide_eq_true ?_)))
      rw [(ha.who k hk hx).1]
      exact ltB_self _
    · have hl2 : LtB (R i).b r.b := hl
      by_cases hg : LtB r.gr (R i).b
      · right
        refine Nat.le_of_lt (Nat.lt_of_lt_of_le hcnt (Nat.mul_le_mul_left 2 (cntN_mono (fun k hk hx => ?_))))
        have hw := ha.who k hk hx
        unfold blk
        simp only [Bool.and_eq_true, decide_eq_true_eq, Bool.not_eq_true']
        refine ⟨?_, by rw [hw.1]; exact hl2⟩
        cases hx2 : ansN (R i) k with
        | false => rfl
        | true => exact absurd (ltB_le2 hw.2 hg) (h.voted i hi ht k hk hx2)
      · rcases ha.from' with ⟨h1, _⟩ | ⟨i2, hi2, ht2, h1, h2, _⟩
        · rw [h1] at hg
          exact absurd (h.pos i hi) hg
        · have hpre : r.log <+: (chooseR r).log := chosen_pre r
          by_cases e : (R i).b = (R i2).b
          · have := h.ne i i2 hi hi2 e
            subst this
            left
            rw [h2]
            exact hpre
          · rcases ltB_tri _ _ e with h3 | h3
            · rcases h.safe i i2 hi hi2 ht ht2 h3 with h4 | h4
              · left
                rw [h2] at h4
                exact h4.trans hpre
              · exact .inr h4
            · rw [h1] at h3
              exact absurd h3 hg
/-- The current round: it asks, or whatever it is. -/
structure Cur (M : Nat) (V : Nat → Vr) (n : Nat) (R : Nat → Rd) (r : Rd) : Prop where
  inv : Inv M V (n + 1) (updN R n r)
  asks : r.stage = 1 → Asks M V n R r
theorem Cur.prepare {M n k : Nat} {V : Nat → Vr} {R : Nat → Rd} {r : Rd} (h : Cur M V n R r) (hb : ¬ LtB r.b (V k).pr) (l2 : List Pr) : Cur M (updN V k ⟨r.b, (V k).ac, (V k).ls, l2⟩) n R r :=
  ⟨h.inv.prepare hb l2, fun e => (h.asks e).prepare l2⟩
theorem Cur.promise {M n k : Nat} {V : Nat → Vr} {R : Nat → Rd} {r : Rd} (h : Cur M V n R r) (hk : k < M) (hpr : (V k).pr = r.b) : Cur M V n R (promR r (16 + (k : Int)) (V k).ac (V k).ls) := by
  unfold promR
  by_cases hc : r.stage = 1 ∧ GoodL (V k).ls ∧ (16 + (k : Int)) ∈ silN r.ans r.n
  · rw [if_pos hc]
    have hs : ¬ Tl r := fun ht => by
      rcases ht with h1 | h1 <;> (rw [hc.1] at h1; exact absurd h1 (by decide))
    have hI := h.inv.cut hs
    have hn : r.n = M := by have := h.inv.size n (by omega); rwa [updN_self] at this
    have hne : ∀ i, i < n → (R i).b ≠ r.b := fun i hi e => by
      have := h.inv.ne i n (by omega) (by omega) (by rw [updN_self, updN_ne R r (by omega)]; exact e)
      omega
    have hp : LtB bl0 r.b := by have := h.inv.pos n (by omega); rwa [updN_self] at this
    have hA := (h.asks hc.1).hear hI hk hne hpr
    have hf := greater_f (heard r (16 + (k : Int))) (V k).ac (V k).ls
    obtain ⟨r2, hr2⟩ : ∃ r2, r2 = greater (heard r (16 + (k : Int))) (V k).ac (V k).ls := ⟨_, rfl⟩
    rw [← hr2] at hA hf ⊢
    have hn2 : r2.n = M := hf.1.trans hn
    have hb2 : r2.b = r.b := hf.2.1
    have hs2 : r2.stage = 1 := hf.2.2.2.1.trans hc.1
    have hne2 : ∀ i, i < n → (R i).b ≠ r2.b := fun i hi => by rw [hb2]; exact hne i hi
    have hp2 : LtB bl0 r2.b := by rw [hb2]; exact hp
    by_cases hm : Most r2
    · rw [if_pos hm]
      refine ⟨hI.choose hA hn2 hne2 hp2 hm, fun e => ?_⟩
      exfalso
      unfold chooseR at e
      simp only at e
      split at e <;> exact absurd e (by decide)
    · rw [if_neg hm]
      refine ⟨hI.new hn2 (fun ht => ?_) hne2 hp2, fun _ => hA⟩
      rcases ht with h1 | h1 <;> (rw [hs2] at h1; exact absurd h1 (by decide))
  · rw [if_neg hc]
    exact h
end Go.Proofs.Ytnhnpfhfcbmmlaa
