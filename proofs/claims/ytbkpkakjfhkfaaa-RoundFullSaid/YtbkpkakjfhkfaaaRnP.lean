/- A round, plain: who is silent, the log that is chosen, what Promise and Accepted make of it. No program. -/
import Derived.Test.YtbkpkakjfhkfaaaVcA
import Derived.Test.YtbkpkakjfhkfaaaVbR
namespace Go.Proofs.Ytbkpkakjfhkfaaa
open Go Go.RowKit
set_option linter.unusedVariables false
set_option linter.unusedSimpArgs false

/-- The managers of the first n that haven't answered. -/
def silN (bs : List Bool) (n : Nat) : List Int := ((List.range n).filter (fun k => !bs.getD k false)).map (fun k : Nat => 16 + (k : Int))
theorem silN_zero (bs : List Bool) : silN bs 0 = [] := rfl
theorem silN_more (bs : List Bool) (n : Nat) : silN bs (n + 1) = silN bs n ++ (if bs.getD n false then [] else [16 + (n : Int)]) := by
  unfold silN
  rw [List.range_succ, List.filter_append, List.map_append]
  cases h : bs.getD n false with
  | true => rw [List.filter_cons_of_neg (by rw [h]; decide)]; rfl
  | false => rw [List.filter_cons_of_pos (by rw [h]; rfl)]; rfl
theorem silN_len (bs : List Bool) : ∀ n, (silN bs n).length ≤ n
  | 0 => by simp [silN_zero]
  | n + 1 => by
    have := silN_len bs n
    rw [silN_more, List.length_append]
    cases bs.getD n false <;> simp <;> omega
theorem silN_mem (bs : List Bool) (n : Nat) (x : Int) : x ∈ silN bs n ↔ 16 ≤ x ∧ x < 16 + (n : Int) ∧ bs.getD (x - 16).toNat false = false := by
  unfold silN
  simp only [List.mem_map, List.mem_filter, List.mem_range, Bool.not_eq_true']
  constructor
  · rintro ⟨k, ⟨hk, h⟩, rfl⟩
    have e : (16 + (k : Int) - 16).toNat = k := by omega
    rw [e]
    exact ⟨by omega, by omega, h⟩
  · rintro ⟨h1, h2, h3⟩
    exact ⟨(x - 16).toNat, ⟨by omega, h3⟩, by omega⟩
theorem silN_fit (bs : List Bool) {n : Nat} (hn : n ≤ 8) : fitI (silN bs n) := by
  intro x hx
  have := (silN_mem bs n x).1 hx
  omega
/-- A round: how many managers, who has answered, its ballot, the wanted command, its stage, the greatest ballot told, the log. -/
structure Rd where
  n : Nat
  ans : List Bool
  b : Bl
  want : List Cm
  stage : Int
  gr : Bl
  log : List Cm
def none8 : List Bool := List.replicate 8 false
/-- The place of the wanted command. -/
def wantsC (want : List Cm) (c : Cm) : Bool := want.any (fun x => c.nm == x.nm)
/-- The first place of which it holds, or -1. -/
def idxC (p : Cm → Bool) : List Cm → Int
  | [] => -1
  | x :: l => if p x then 0 else (if idxC p l = -1 then -1 else idxC p l + 1)
theorem idxC_low (p : Cm → Bool) : ∀ l, -1 ≤ idxC p l ∧ idxC p l < l.length
  | [] => by simp [idxC]
  | x :: l => by
    have := idxC_low p l
    unfold idxC
    simp only [List.length_cons]
    split
    · omega
    · split <;> omega
theorem idxC_miss {p : Cm → Bool} : ∀ {l : List Cm}, (∀ j, j < l.length → p (l.getD j cm0) = false) → idxC p l = -1
  | [], _ => rfl
  | x :: l, h => by
    have h0 := h 0 (by simp)
    have h1 : idxC p l = -1 := idxC_miss (fun j hj => by have := h (j + 1) (by simp; omega); simpa using this)
    unfold idxC
    rw [h1]
    simp at h0
    simp [h0]
theorem idxC_hit {p : Cm → Bool} : ∀ {l : List Cm} {i : Nat}, i < l.length → (∀ j, j < i → p (l.getD j cm0) = false) → p (l.getD i cm0) = true → idxC p l = i
  | [], i, hi, _, _ => by simp at hi
  | x :: l, 0, _, _, h => by
    simp at h
    simp [idxC, h]
  | x :: l, i + 1, hi, hn, h => by
    have h0 := hn 0 (by omega)
    simp at h0
    have h1 := idxC_hit (p := p) (l := l) (i := i) (by simp at hi; omega) (fun j hj => by have := hn (j + 1) (by omega); simpa using this) (by simpa using h)
    unfold idxC
    rw [h1]
    simp only [h0, Bool.false_eq_true, if_false]
    rw [if_neg (by omega)]
    omega
theorem idxC_none {p : Cm → Bool} {l : List Cm} : idxC p l = -1 ↔ ∀ x ∈ l, p x = false := by
  induction l with
  | nil => simp [idxC]
  | cons x l ih =>
    have := idxC_low p l
    unfold idxC
    cases hx : p x with
    | true => simp [hx]
    | false =>
      simp only [Bool.false_eq_true, if_false, List.mem_cons, forall_eq_or_imp, hx, true_and]
      rw [← ih]
      split <;> omega
def findR (r : Rd) : Int := 1 + idxC (wantsC r.want) r.log
/-- More than half of the crowd have answered. -/
def Most (r : Rd) : Prop := 2 * ((r.n : Int) - ((silN r.ans r.n).length : Int)) > (r.n : Int)
instance (r : Rd) : Decidable (Most r) := by unfold Most; infer_instance
/-- The stage Ask ends. -/
def chosenL (r : Rd) : List Cm := if findR r = 0 then r.log ++ r.want else r.log
def chooseR (r : Rd) : Rd := { r with log := chosenL r, stage := if (chosenL r).length > 256 then 4 else 2, ans := none8 }
/-- Who answers. -/
def heard (r : Rd) (node : Int) : Rd := { r with ans := r.ans.set (node - 16).toNat true }
def greater (r : Rd) (acc : Bl) (lg : List Cm) : Rd := if LtB r.gr acc then { r with gr := acc, log := lg } else r
def promR (r : Rd) (node : Int) (acc : Bl) (lg : List Cm) : Rd :=
  if r.stage = 1 ∧ GoodL lg ∧ node ∈ silN r.ans r.n then
    (if Most (greater (heard r node) acc lg) then chooseR (greater (heard r node) acc lg) else greater (heard r node) acc lg)
  else r
def accR (r : Rd) (node : Int) : Rd :=
  if r.stage = 2 ∧ node ∈ silN r.ans r.n then
    (if Most (heard r node) then { heard r node with stage := 3 } else heard r node)
  else r
/-- What a round is in any stage. -/
structure OkR (r : Rd) : Prop where
  n : 1 ≤ r.n ∧ r.n ≤ 8
  len : r.ans.length = 8
  b : TyB r.b
  gr : TyB r.gr
  one : r.want.length ≤ 1
  wgood : GoodL r.want
  wty : ∀ x ∈ r.want, TyC x
  lty : ∀ x ∈ r.log, TyC x
  few : r.log.length ≤ 257
  es : ∀ x ∈ r.log, x.es.length ≤ 64
  st : 1 ≤ r.stage ∧ r.stage ≤ 4
  ask : r.stage = 1 → GoodL r.log
theorem OkR.wes {r : Rd} (h : OkR r) : ∀ x ∈ r.want, x.es.length ≤ 64 := fun x hx => goodC_es (h.wgood.2.1 x hx)
theorem OkR.heard {r : Rd} (h : OkR r) (node : Int) : OkR (heard r node) :=
  ⟨h.n, by unfold Go.Proofs.Ytbkpkakjfhkfaaa.heard; simp [h.len], h.b, h.gr, h.one, h.wgood, h.wty, h.lty, h.few, h.es, h.st, h.ask⟩
theorem OkR.greater {r : Rd} (h : OkR r) {acc : Bl} (ha : TyB acc) {lg : List Cm} (hg : GoodL lg) (ht : ∀ x ∈ lg, TyC x) : OkR (greater r acc lg) := by
  unfold Go.Proofs.Ytbkpkakjfhkfaaa.greater
  split
  · exact ⟨h.n, h.len, h.b, ha, h.one, h.wgood, h.wty, ht, by have := hg.1; simp only; omega, fun x hx => goodC_es (hg.2.1 x hx), h.st, fun _ => hg⟩
  · exact h
theorem chosenL_mem {r : Rd} {x : Cm} (h : x ∈ chosenL r) : x ∈ r.log ∨ x ∈ r.want := by
  unfold chosenL at h
  split at h
  · exact List.mem_append.1 h
  · exact .inl h
theorem OkR.choose {r : Rd} (h : OkR r) (hl : r.log.length ≤ 256) : OkR (chooseR r) := by
  refine ⟨h.n, rfl, h.b, h.gr, h.one, h.wgood, h.wty, fun x hx => ?_, ?_, fun x hx => ?_, ?_, fun e => ?_⟩
  · rcases chosenL_mem hx with h2 | h2
    · exact h.lty x h2
    · exact h.wty x h2
  · show (chosenL r).length ≤ 257
    have := h.one
    unfold chosenL
    split
    · rw [List.length_append]; omega
    · omega
  · rcases chosenL_mem hx with h2 | h2
    · exact h.es x h2
    · exact h.wes x h2
  · show 1 ≤ (if (chosenL r).length > 256 then (4 : Int) else 2) ∧ (if (chosenL r).length > 256 then (4 : Int) else 2) ≤ 4
    split <;> omega
  · have e2 : (if (chosenL r).length > 256 then (4 : Int) else 2) = 1 := e
    split at e2 <;> omega
theorem greater_stage (r : Rd) (acc : Bl) (lg : List Cm) : (greater r acc lg).stage = r.stage ∧ (greater r acc lg).want = r.want ∧ (greater r acc lg).n = r.n ∧ (greater r acc lg).ans = r.ans ∧ (greater r acc lg).b = r.b := by
  unfold greater
  split <;> exact ⟨rfl, rfl, rfl, rfl, rfl⟩
theorem OkR.prom {r : Rd} (h : OkR r) {acc : Bl} (ha : TyB acc) (node : Int) {lg : List Cm} (ht : ∀ x ∈ lg, TyC x) : OkR (promR r node acc lg) := by
  unfold promR
  split
  · rename_i h1
    have h2 := (h.heard node).greater ha h1.2.1 ht
    split
    · exact h2.choose (h2.ask (by rw [(greater_stage _ _ _).1]; exact h1.1)).1
    · exact h2
  · exact h
theorem OkR.acc {r : Rd} (h : OkR r) (node : Int) : OkR (accR r node) := by
  unfold accR
  split
  · have h2 := h.heard node
    split
    · exact ⟨h2.n, h2.len, h2.b, h2.gr, h2.one, h2.wgood, h2.wty, h2.lty, h2.few, h2.es, by simp, fun e => by simp at e⟩
    · exact h2
  · exact h
end Go.Proofs.Ytbkpkakjfhkfaaa
