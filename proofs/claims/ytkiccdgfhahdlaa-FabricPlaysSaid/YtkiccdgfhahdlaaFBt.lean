/- What the walks over scripts hold; sums of letters between nodes. No conditions but those stated. -/
import Derived.Test.YtkiccdgfhahdlaaSc8
namespace Go.Proofs.Ytkiccdgfhahdlaa
open Go Go.RowKit
set_option linter.unusedVariables false
set_option linter.unusedSimpArgs false

/-- Letters of nodes, each of few bytes. -/
def Okl (ls : List Lt) : Prop := ∀ x ∈ ls, (IsNode x.frm ∧ IsNode x.dst) ∧ x.bs.length ≤ 1048576
theorem Okl.put {ls : List Lt} {last : Nat} {l : Lt} (h : Okl ls) (h1 : IsNode l.frm ∧ IsNode l.dst) (h2 : l.bs.length ≤ 1048576) : Okl (putR ls last l).2.2.1 := by
  unfold putR
  split
  · exact h
  · intro x hx
    rcases List.mem_append.1 hx with hx | hx
    · exact h x hx
    · rw [List.mem_singleton] at hx
      subst hx
      exact ⟨h1, h2⟩
theorem Okl.send {ls : List Lt} {last : Nat} {frm dst : Int} {ctl : Bool} {bs : List Int} (h : Okl ls) (h2 : bs.length ≤ 1048576) : Okl (sendR ls last frm dst ctl bs).2.2.1 := by
  unfold sendR
  split
  · rename_i hn
    exact h.put hn h2
  · exact h
theorem Okl.left {ls : List Lt} {n : Int} (h : Okl ls) : Okl (leftR ls n) := fun x hx => h x (List.mem_of_mem_eraseIdx hx)
theorem Okl.get {ls : List Lt} {j : Nat} (h : Okl ls) (hj : j < ls.length) : (IsNode (ls.getD j lt0).frm ∧ IsNode (ls.getD j lt0).dst) ∧ (ls.getD j lt0).bs.length ≤ 1048576 := by
  rw [List.getD_eq_getElem?_getD, List.getElem?_eq_getElem hj]
  exact h _ (List.getElem_mem hj)
theorem Okl.copy {ls : List Lt} {last : Nat} {n : Int} (h : Okl ls) : Okl (copyR ls last n).2.2.1 := by
  unfold copyR
  split
  · exact h
  · rename_i hn
    have := h.get (plc_lt n (List.length_pos_iff.2 hn))
    exact h.put this.1 this.2
theorem Okl.few {ls : List Lt} (h : Okl ls) : ∀ x ∈ ls, x.bs.length ≤ 1048576 := fun x hx => (h x hx).2
theorem putR_grow {ls : List Lt} {last j : Nat} {l : Lt} (h : ls.length ≤ j) (h2 : last ≤ j) : (putR ls last l).2.2.1.length ≤ j + 1 ∧ (putR ls last l).2.2.2 ≤ j + 1 := by
  unfold putR
  split
  · exact ⟨Nat.le_succ_of_le h, Nat.le_succ_of_le h2⟩
  · simp
    omega
theorem sendR_grow {ls : List Lt} {last j : Nat} {frm dst : Int} {ctl : Bool} {bs : List Int} (h : ls.length ≤ j) (h2 : last ≤ j) : (sendR ls last frm dst ctl bs).2.2.1.length ≤ j + 1 ∧ (sendR ls last frm dst ctl bs).2.2.2 ≤ j + 1 := by
  unfold sendR
  split
  · exact putR_grow h h2
  · exact ⟨Nat.le_succ_of_le h, Nat.le_succ_of_le h2⟩
theorem copyR_grow {ls : List Lt} {last j : Nat} {n : Int} (h : ls.length ≤ j) (h2 : last ≤ j) : (copyR ls last n).2.2.1.length ≤ j + 1 ∧ (copyR ls last n).2.2.2 ≤ j + 1 := by
  unfold copyR
  split
  · exact ⟨Nat.le_succ_of_le h, Nat.le_succ_of_le h2⟩
  · exact putR_grow h h2
theorem leftR_grow {ls : List Lt} {n : Int} {j : Nat} (h : ls.length ≤ j) : (leftR ls n).length ≤ j + 1 := by
  unfold leftR
  have := List.length_eraseIdx_le ls (plc n ls.length)
  omega
/-- A fabric behind j calls. -/
structure StI (w0 w : World) (f j : Nat) (F : Nat → Prop) (ls : List Lt) (last : Nat) : Prop where
  st : FSt w w0.heap.size F f ls last
  ok : Okl ls
  len : ls.length ≤ j
  last : last ≤ j
  bel : Below w0.heap.size w0 w
theorem StI.base {w0 w : World} {f j last : Nat} {F : Nat → Prop} {ls : List Lt} (h : StI w0 w f j F ls last) : ∀ k, F k → w0.heap.size ≤ k := fun k hk => (h.st.blocks k hk).1
theorem StI.more {w0 w : World} {f j last : Nat} {F : Nat → Prop} {ls : List Lt} (h : StI w0 w f j F ls last) : StI w0 w f (j + 1) F ls last := ⟨h.st, h.ok, Nat.le_succ_of_le h.len, Nat.le_succ_of_le h.last, h.bel⟩
theorem StI.new {w0 w w' : World} {f j last : Nat} {F : Nat → Prop} {ls : List Lt} (h : StI w0 w f j F ls last) (hb : Below w.heap.size w w') : StI w0 w' f j F ls last :=
  ⟨h.st.keep (tch_new hb) (fun _ _ h => h), h.ok, h.len, h.last, h.bel.trans (hb.mono h.bel.size)⟩
/-- Letters between two nodes, summed. -/
def cnt (ls : List Lt) (a b : Nat) : Nat := (btw ls a b).length
def rowS (ls : List Lt) (a : Nat) : Nat → Nat
  | 0 => 0
  | b + 1 => rowS ls a b + cnt ls a b
def allS (ls : List Lt) : Nat → Nat
  | 0 => 0
  | a + 1 => allS ls a + rowS ls a 64
theorem cnt_cons (x : Lt) (ls : List Lt) (a b : Nat) : cnt (x :: ls) a b = cnt ls a b + (if x.frm = a ∧ x.dst = b then 1 else 0) := by
  unfold cnt btw
  rw [List.length_map, List.length_map, List.filter_cons]
  split
  · rename_i h
    rw [if_pos (of_decide_eq_true h)]
    rfl
  · rename_i h
    rw [if_neg (fun e => h (decide_eq_true e))]
    rfl
theorem rowS_cons (x : Lt) (ls : List Lt) (a : Nat) : ∀ b, rowS (x :: ls) a b = rowS ls a b + (if x.frm = a ∧ 0 ≤ x.dst ∧ x.dst < b then 1 else 0)
  | 0 => by
    rw [if_neg (by omega)]
    rfl
  | b + 1 => by
    have := rowS_cons x ls a b
    unfold rowS
    rw [this, cnt_cons]
    split <;> split <;> split <;> omega
theorem allS_cons (x : Lt) (ls : List Lt) (h0 : 0 ≤ x.dst) (h1 : x.dst < 64) : ∀ a, allS (x :: ls) a = allS ls a + (if 0 ≤ x.frm ∧ x.frm < a then 1 else 0)
  | 0 => by
    rw [if_neg (by omega)]
    rfl
  | a + 1 => by
    have := allS_cons x ls h0 h1 a
    unfold allS
    rw [this, rowS_cons]
    split <;> split <;> split <;> omega
theorem allS_all : ∀ {ls : List Lt}, Okl ls → allS ls 64 = ls.length
  | [], _ => by
    have h1 : ∀ a b, rowS [] a b = 0 := fun a b => by
      induction b with
      | zero => rfl
      | succ b ih => unfold rowS; rw [ih]; rfl
    have h2 : ∀ a, allS [] a = 0 := fun a => by
      induction a with
      | zero => rfl
      | succ a ih => unfold allS; rw [ih, h1]
    exact h2 64
  | x :: ls, h => by
    obtain ⟨⟨h1, h2⟩, _⟩ := h x List.mem_cons_self
    unfold IsNode at h1 h2
    rw [allS_cons x ls (by omega) (by omega), allS_all (fun y hy => h y (List.mem_cons_of_mem _ hy)), if_pos (by omega)]
    rfl
theorem cnt_le (ls : List Lt) (a b : Nat) : cnt ls a b ≤ ls.length := btw_len ls a b
theorem rowS_le (ls : List Lt) (a : Nat) : ∀ b, rowS ls a b ≤ b * ls.length
  | 0 => by simp [rowS]
  | b + 1 => by
    have := rowS_le ls a b
    have := cnt_le ls a b
    unfold rowS
    rw [Nat.succ_mul]
    omega
theorem allS_le (ls : List Lt) : ∀ a, allS ls a ≤ a * (64 * ls.length)
  | 0 => by simp [allS]
  | a + 1 => by
    have := allS_le ls a
    have := rowS_le ls a 64
    unfold allS
    rw [Nat.succ_mul]
    omega
/-- A letter's own number is between its nodes. -/
theorem btw_mem {ls : List Lt} {x : Lt} (h : x ∈ ls) : x.id ∈ btw ls x.frm x.dst := by
  unfold btw
  exact List.mem_map.2 ⟨x, List.mem_filter.2 ⟨h, by simp⟩, rfl⟩
end Go.Proofs.Ytkiccdgfhahdlaa
