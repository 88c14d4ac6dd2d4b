/- A store of pairs in memory; what is left to be visited of a map. No conditions but those stated. -/
import Derived.Test.YtbkpkakjfhkfaaaSbR
namespace Go.Proofs.Ytbkpkakjfhkfaaa
open Go Go.RowKit Go.Maps
set_option linter.unusedVariables false
set_option linter.unusedSimpArgs false

theorem put_row {w : World} {g i : Nat} {cs : Array Value} {t : TypeId} (h : w.heap[g]? = some (.cells cs t (0, 0))) (v : Value) : (w.setCell ⟨g, i, none⟩ v).heap[g]? = some (.cells (cs.setIfInBounds i v) t (0, 0)) := heap_setCell_same w g i cs t v h
abbrev tyS : TypeId := 155
abbrev cOf (c : Option Nat) : Value := .map c
abbrev stO (size : Int) (c1 c2 : Option Nat) (n : Nat) : Obj := .cells #[.int .i64 size, cOf c1, cOf c2, .int .i64 (n : Int)] tyS
def SAt (w : World) (p : Nat) (size : Int) (c1 c2 : Option Nat) (n : Nat) : Prop := w.heap[p]? = some (stO size c1 c2 n)
section
variable {w w' : World} {p : Nat} {size : Int} {c1 c2 : Option Nat} {n : Nat}
theorem SAt.cs (h : SAt w p size c1 c2 n) : w.cell? ⟨p, 0, none⟩ = some (.int .i64 size) ∧ w.cell? ⟨p, 1, none⟩ = some (.map c1) ∧ w.cell? ⟨p, 2, none⟩ = some (.map c2) ∧ w.cell? ⟨p, 3, none⟩ = some (.int .i64 (n : Int)) := by
  have h2 : w.heap[p]? = some (.cells #[.int .i64 size, .map c1, .map c2, .int .i64 (n : Int)] tyS (0, 0)) := h
  refine ⟨?_, ?_, ?_, ?_⟩ <;> (rw [cell_of_row w p _ _ _ _ h2]; rfl)
theorem SAt.free (h : SAt w p size c1 c2 n) (o : Nat) : w.frozen? ⟨p, o, none⟩ = false := frozen_of_row w p o _ _ h
theorem SAt.tch {T : Nat → Prop} (h : SAt w p size c1 c2 n) (ht : Tch T w w') (hn : ¬ T p) : SAt w' p size c1 c2 n := ht.at h hn
theorem SAt.lt (h : SAt w p size c1 c2 n) : p < w.heap.size := lt_of_block h
theorem SAt.noRow (h : SAt w p size c1 c2 n) : NoRow w p := fun cs fr e => by
  unfold SAt at h
  rw [h] at e
  simp only [Option.some.injEq, Obj.cells.injEq] at e
  exact absurd e.2.1 (by decide)
theorem SAt.noMap (h : SAt w p size c1 c2 n) {F : Nat → Prop} {B b : Nat} {l : List Pr} (hm : MapS w F B b l) : b ≠ p := fun e => by
  obtain ⟨_, D, ⟨es, clock, h1, _⟩, _⟩ := hm
  unfold SAt at h
  rw [e, h] at h1
  cases h1
theorem SAt.set1 (h : SAt w p size c1 c2 n) (c : Option Nat) : SAt (w.setCell ⟨p, 1, none⟩ (.map c)) p size c c2 n := by
  have h2 : w.heap[p]? = some (.cells #[.int .i64 size, .map c1, .map c2, .int .i64 (n : Int)] tyS (0, 0)) := h
  have := put_row (i := 1) h2 (.map c)
  unfold SAt
  simpa using this
theorem SAt.set2 (h : SAt w p size c1 c2 n) (c : Option Nat) : SAt (w.setCell ⟨p, 2, none⟩ (.map c)) p size c1 c n := by
  have h2 : w.heap[p]? = some (.cells #[.int .i64 size, .map c1, .map c2, .int .i64 (n : Int)] tyS (0, 0)) := h
  have := put_row (i := 2) h2 (.map c)
  unfold SAt
  simpa using this
theorem SAt.set3 (h : SAt w p size c1 c2 n) (m : Nat) : SAt (w.setCell ⟨p, 3, none⟩ (.int .i64 (m : Int))) p size c1 c2 m := by
  have h2 : w.heap[p]? = some (.cells #[.int .i64 size, .map c1, .map c2, .int .i64 (n : Int)] tyS (0, 0)) := h
  have := put_row (i := 3) h2 (.int .i64 (m : Int))
  unfold SAt
  simpa using this
end
/-- A store whose maps are these, with the used number k. -/
structure StK (w : World) (B : Nat) (F : Nat → Prop) (p : Nat) (size : Int) (k : Nat) (c1 c2 : Option Nat) (l m : List Pr) : Prop where
  srt : SrtP l ∧ SrtP m
  ok : (∀ e ∈ l, OkP e) ∧ (∀ e ∈ m, OkP e)
  sz : 0 ≤ size ∧ size ≤ 67108864
  used : (usedP l : Int) ≤ size ∧ (usedP m : Int) ≤ size
  here : F p
  blocks : ∀ k, F k → B ≤ k ∧ k < w.heap.size
  cells : SAt w p size c1 c2 k
  cur : MapO w F B c1 l
  syn : MapO w F B c2 m
  nils : c1 = none ↔ c2 = none
  none_ : c1 = none → size = 0
  apart : ∀ b, c1 = some b → c2 ≠ some b
/-- A store of the program's. -/
def St (w : World) (B : Nat) (F : Nat → Prop) (p : Nat) (size : Int) (l m : List Pr) : Prop := ∃ c1 c2, StK w B F p size (usedP l) c1 c2 l m
section
variable {w w' : World} {B : Nat} {F : Nat → Prop} {p : Nat} {size : Int} {k : Nat} {c1 c2 : Option Nat} {l m : List Pr}
theorem StK.lens (h : StK w B F p size k c1 c2 l m) : l.length ≤ 67108864 ∧ m.length ≤ 67108864 ∧ usedP l ≤ 67108864 ∧ usedP m ≤ 67108864 := by
  have h1 := len_used h.ok.1
  have h2 := len_used h.ok.2
  have h3 := h.used
  have h4 := h.sz
  omega
theorem StK.row (h : StK w B F p size k c1 c2 l m) {k r} (hf : findP k l = some r) : k.length + r.length ≤ 67108864 := by
  have h1 := sz_used (findP_mem hf)
  have h2 := h.lens.2.2.1
  simp only [szP] at h1
  omega
theorem StK.row2 (h : StK w B F p size k c1 c2 l m) {k r} (hf : findP k m = some r) : k.length + r.length ≤ 67108864 := by
  have h1 := sz_used (findP_mem hf)
  have h2 := h.lens.2.2.2
  simp only [szP] at h1
  omega
/-- Which blocks of a store hold no row: its own, its maps'. -/
theorem StK.no1 (h : StK w B F p size k c1 c2 l m) : ∀ b, c1 = some b → NoRow w b := fun b e => by
  have := h.cur
  rw [e] at this
  exact MapS.noRow this
theorem StK.no2 (h : StK w B F p size k c1 c2 l m) : ∀ b, c2 = some b → NoRow w b := fun b e => by
  have := h.syn
  rw [e] at this
  exact MapS.noRow this
theorem StK.ne1 (h : StK w B F p size k c1 c2 l m) : ∀ b, c1 = some b → b ≠ p ∧ F b := fun b e => by
  have := h.cur
  rw [e] at this
  exact ⟨h.cells.noMap this, this.1⟩
theorem StK.ne2 (h : StK w B F p size k c1 c2 l m) : ∀ b, c2 = some b → b ≠ p ∧ F b := fun b e => by
  have := h.syn
  rw [e] at this
  exact ⟨h.cells.noMap this, this.1⟩
theorem StK.keep {T : Nat → Prop} (h : StK w B F p size k c1 c2 l m) (ht : Tch T w w') (hn : ∀ k, F k → ¬ T k) : StK w' B F p size k c1 c2 l m :=
  ⟨h.srt, h.ok, h.sz, h.used, h.here, fun k hk => ⟨(h.blocks k hk).1, Nat.lt_of_lt_of_le (h.blocks k hk).2 ht.size⟩, h.cells.tch ht (hn p h.here),
    h.cur.tch ht (fun b e => hn b (h.ne1 b e).2) (fun k hT hF => absurd hT (hn k hF)), h.syn.tch ht (fun b e => hn b (h.ne2 b e).2) (fun k hT hF => absurd hT (hn k hF)), h.nils, h.none_, h.apart⟩
theorem StK.base {B' : Nat} (h : StK w B F p size k c1 c2 l m) (hb : B' ≤ B) : StK w B' F p size k c1 c2 l m :=
  ⟨h.srt, h.ok, h.sz, h.used, h.here, fun k hk => ⟨Nat.le_trans hb (h.blocks k hk).1, (h.blocks k hk).2⟩, h.cells, h.cur.base hb, h.syn.base hb, h.nils, h.none_, h.apart⟩
theorem StK.nil_l (h : StK w B F p size k none c2 l m) : l = [] ∧ m = [] := by
  have h1 : l = [] := h.cur
  have h2 := h.nils.1 rfl
  have h3 := h.syn
  rw [h2] at h3
  exact ⟨h1, h3⟩
end
theorem St.keep {T : Nat → Prop} {w w' : World} {B : Nat} {F : Nat → Prop} {p : Nat} {size : Int} {l m : List Pr} (h : St w B F p size l m) (ht : Tch T w w') (hn : ∀ k, F k → ¬ T k) : St w' B F p size l m := by
  obtain ⟨c1, c2, hk⟩ := h
  exact ⟨c1, c2, hk.keep ht hn⟩
theorem St.base {w : World} {B B' : Nat} {F : Nat → Prop} {p : Nat} {size : Int} {l m : List Pr} (h : St w B F p size l m) (hb : B' ≤ B) : St w B' F p size l m := by
  obtain ⟨c1, c2, hk⟩ := h
  exact ⟨c1, c2, hk.base hb⟩
theorem St.blocks {w : World} {B : Nat} {F : Nat → Prop} {p : Nat} {size : Int} {l m : List Pr} (h : St w B F p size l m) : ∀ k, F k → B ≤ k ∧ k < w.heap.size := by
  obtain ⟨c1, c2, hk⟩ := h
  exact hk.blocks
/-- A receiver: nil, or a store. -/
def Rcv (w : World) (B : Nat) (F : Nat → Prop) (pv : Option Addr) (size : Int) (l m : List Pr) : Prop :=
  (pv = none ∧ size = 0 ∧ l = [] ∧ m = [] ∧ ∀ k, ¬ F k) ∨ ∃ p, pv = some ⟨p, 0, none⟩ ∧ St w B F p size l m
theorem Rcv.keep {T : Nat → Prop} {w w' : World} {B : Nat} {F : Nat → Prop} {pv : Option Addr} {size : Int} {l m : List Pr} (h : Rcv w B F pv size l m) (ht : Tch T w w') (hn : ∀ k, F k → ¬ T k) : Rcv w' B F pv size l m := by
  rcases h with h | ⟨p, e, h⟩
  · exact .inl h
  · exact .inr ⟨p, e, h.keep ht hn⟩
theorem Rcv.base {w : World} {B B' : Nat} {F : Nat → Prop} {pv : Option Addr} {size : Int} {l m : List Pr} (h : Rcv w B F pv size l m) (hb : B' ≤ B) : Rcv w B' F pv size l m := by
  rcases h with h | ⟨p, e, h⟩
  · exact .inl h
  · exact .inr ⟨p, e, h.base hb⟩
theorem Rcv.blocks {w : World} {B : Nat} {F : Nat → Prop} {pv : Option Addr} {size : Int} {l m : List Pr} (h : Rcv w B F pv size l m) : ∀ k, F k → B ≤ k ∧ k < w.heap.size := by
  rcases h with ⟨_, _, _, _, h⟩ | ⟨p, e, h⟩
  · exact fun k hk => absurd hk (h k)
  · exact h.blocks
/-- What a call leaves: a receiver whose pairs are these, in the old blocks and new ones. -/
def RTo (w : World) (B : Nat) (F : Nat → Prop) (pv : Option Addr) (size : Int) (l m : List Pr) (w' : World) : Prop :=
  ∃ F2, Rcv w' B F2 pv size l m ∧ (∀ k, F2 k → F k ∨ w.heap.size ≤ k) ∧ Tch F w w'
theorem Rcv.same {w w' : World} {B : Nat} {F : Nat → Prop} {pv : Option Addr} {size : Int} {l m : List Pr} (h : Rcv w B F pv size l m) (hb : Tch Non w w') : RTo w B F pv size l m w' :=
  ⟨F, h.keep hb (fun _ _ h => h), fun k hk => .inl hk, hb.mono (fun _ h => h.elim)⟩
/-- Behind orEmpty: the store itself, or a new one without room. -/
def RSt (w : World) (B : Nat) (F : Nat → Prop) (pv : Option Addr) (size : Int) (l m : List Pr) (G : Nat → Prop) (p : Nat) (w' : World) : Prop :=
  St w' B G p size l m ∧ Tch Non w w' ∧ ((pv = none ∧ (∀ k, ¬ F k) ∧ (∀ k, G k → k = p ∧ w.heap.size ≤ k)) ∨ (pv = some ⟨p, 0, none⟩ ∧ G = F))
/-- From the store to the receiver. -/
theorem RSt.back {w w1 w' : World} {B : Nat} {F G G2 : Nat → Prop} {pv : Option Addr} {p : Nat} {size : Int} {l m l2 m2 : List Pr} (h : RSt w B F pv size l m G p w1) (h2 : St w' B G2 p size l2 m2) (hg : ∀ k, G2 k → G k ∨ w1.heap.size ≤ k) (ht : Tch G w1 w') (hn : pv = none → size = 0 ∧ l2 = [] ∧ m2 = []) :
    RTo w B F pv size l2 m2 w' := by
  rcases h.2.2 with ⟨e, h3, h4⟩ | ⟨e, rfl⟩
  · obtain ⟨e1, e2, e3⟩ := hn e
    refine ⟨F, .inl ⟨e, e1, e2, e3, h3⟩, fun k hk => .inl hk, ?_⟩
    refine (h.2.1.mono (fun _ h => h.elim)).trans' ht (fun k hk hG => ?_)
    have := (h4 k hG).2
    omega
  · refine ⟨G2, .inr ⟨p, e, h2⟩, fun k hk => ?_, (h.2.1.mono (fun _ h => h.elim)).trans ht⟩
    rcases hg k hk with h5 | h5
    · exact .inl h5
    · exact .inr (Nat.le_trans h.2.1.size h5)
/-! ### What has been visited of a map -/
def sumV (left : Lit → Bool) (g : Pr → Nat) : List Pr → Nat
  | [] => 0
  | e :: l => cond (left (kI e.k)) 0 (g e) + sumV left g l
def sumA (g : Pr → Nat) : List Pr → Nat
  | [] => 0
  | e :: l => g e + sumA g l
theorem sumV_le (left : Lit → Bool) (g : Pr → Nat) (l : List Pr) : sumV left g l ≤ sumA g l := by
  induction l with
  | nil => exact Nat.le_refl _
  | cons e l ih =>
    simp only [sumV, sumA]
    cases left (kI e.k)
    · simp only [cond_false]; omega
    · simp only [cond_true]; omega
theorem sumV_start {left : Lit → Bool} {g : Pr → Nat} {l : List Pr} (h : ∀ e ∈ l, left (kI e.k) = true) : sumV left g l = 0 := by
  induction l with
  | nil => rfl
  | cons e l ih =>
    simp only [sumV]
    rw [h e List.mem_cons_self, cond_true, ih (fun x hx => h x (List.mem_cons_of_mem _ hx))]
theorem sumV_end {left : Lit → Bool} (g : Pr → Nat) (l : List Pr) (h : ∀ k, left k = false) : sumV left g l = sumA g l := by
  induction l with
  | nil => rfl
  | cons e l ih =>
    simp only [sumV, sumA, ih]
    rw [h, cond_false]
theorem sumV_step {left : Lit → Bool} {g : Pr → Nat} {l : List Pr} (hs : SrtP l) {k : Ky} {r : List Int} (hf : findP k l = some r) (hl : left (kI k) = true) :
    sumV (fun z => left z && !z.sameKey (kI k)) g l = sumV left g l + g ⟨k, r⟩ := by
  have other : ∀ {m : List Pr}, (∀ e ∈ m, e.k ≠ k) → sumV (fun z => left z && !z.sameKey (kI k)) g m = sumV left g m := by
    intro m
    induction m with
    | nil => intro _; rfl
    | cons e m ih =>
      intro hm
      simp only [sumV]
      rw [ih (fun x hx => hm x (List.mem_cons_of_mem _ hx)), sameKey_ne (key_ne (hm e List.mem_cons_self)), Bool.not_false, Bool.and_true]
  induction l with
  | nil => cases hf
  | cons e l ih =>
    obtain ⟨h1, h2⟩ := List.pairwise_cons.1 hs
    by_cases h : e.k = k
    · rw [findP_hit h] at hf
      have hm : ∀ x ∈ l, x.k ≠ k := fun x hx e2 => ky_irr _ (by have := h1 x hx; rw [h, e2] at this; exact this)
      have hx : (kI k).sameKey (kI k) = true := Go.WideAt.sameKey_self (key_lit k)
      have he : (⟨k, r⟩ : Pr) = e := by cases e; simp_all
      rw [he]
      simp only [sumV]
      rw [other hm, h, hl, hx, Bool.not_true, Bool.and_false, cond_false, cond_true]
      omega
    · rw [findP_miss h] at hf
      have := ih h2 hf
      simp only [sumV]
      rw [this, sameKey_ne (key_ne h), Bool.not_false, Bool.and_true]
      omega
theorem sumA_sz (l : List Pr) : sumA szP l = usedP l := by
  induction l with
  | nil => rfl
  | cons e l ih => simp only [sumA, usedP, ih]
theorem sumA_filter (p : Pr → Prop) [DecidablePred p] (l : List Pr) : sumA (fun e => if p e then 1 else 0) l = (l.filter (fun e => decide (p e))).length := by
  induction l with
  | nil => rfl
  | cons e l ih =>
    by_cases h : p e
    · rw [List.filter_cons_of_pos (by simp [h])]
      simp only [sumA, ih, if_pos h, List.length_cons]
      omega
    · rw [List.filter_cons_of_neg (by simp [h])]
      simp only [sumA, ih, if_neg h]
      omega
end Go.Proofs.Ytbkpkakjfhkfaaa
