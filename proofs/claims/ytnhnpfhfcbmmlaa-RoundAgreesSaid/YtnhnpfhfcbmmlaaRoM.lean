/- Several rounds beside each other: to whom each block belongs. Conditions: those stated. -/
import Derived.Test.YtnhnpfhfcbmmlaaRoI
namespace Go.Proofs.Ytnhnpfhfcbmmlaa
open Go Go.RowKit
set_option linter.unusedVariables false
set_option linter.unusedSimpArgs false

/-- The blocks below n that aren't x's. -/
def Kf (f : Nat → Nat) (n x : Nat) : Nat → Prop := fun k => k < n ∧ f k ≠ x
/-- What is new is y's. -/
def upd (f : Nat → Nat) (n y : Nat) : Nat → Nat := fun k => if k < n then f k else y
theorem upd_old {f : Nat → Nat} {n y k : Nat} (h : k < n) : upd f n y k = f k := if_pos h
theorem upd_new {f : Nat → Nat} {n y k : Nat} (h : n ≤ k) : upd f n y k = y := if_neg (by omega)
theorem tch_kpz {a w w' : World} {B : Nat} {K : Nat → Prop} (h : Below B a w) (h' : Below B a w') (hk : Kpz K w w') : Tch (fun k => ¬ K k) w w' :=
  ⟨h'.os.trans h.os.symm, h'.tape.trans h.tape.symm, h'.output.trans h.output.symm, hk.2, fun k _ h2 => hk.1 k (Classical.not_not.1 h2)⟩
section
variable {w1 w w' : World} {p x y : Nat} {r : Rd} {f : Nat → Nat}
theorem ROn.fresh (h : ROn w w' p r (fun k => k < w.heap.size)) (hb : Below w1.heap.size w1 w) : ROn w1 w' p r (Kf (upd f w.heap.size x) w'.heap.size x) :=
  (h.rebase hb).less (fun k hk => by
    by_cases h2 : k < w.heap.size
    · exact h2
    · exact absurd (upd_new (by omega)) hk.2)
theorem ROn.beside (h : ROn w1 w p r (Kf f w.heap.size x)) (hb : Below w.heap.size w w') (hne : y ≠ x) : ROn w1 w' p r (Kf (upd f w.heap.size y) w'.heap.size x) :=
  (h.grow hb).less (fun k hk => by
    by_cases h2 : k < w.heap.size
    · exact .inl ⟨h2, by have := hk.2; rwa [upd_old h2] at this⟩
    · exact .inr ⟨by omega, hk.1⟩)
theorem ROn.self (h : ROn w1 w' p r (Kf f w.heap.size x)) : ROn w1 w' p r (Kf (upd f w.heap.size x) w'.heap.size x) :=
  h.less (fun k hk => by
    by_cases h2 : k < w.heap.size
    · exact ⟨h2, by have := hk.2; rwa [upd_old h2] at this⟩
    · exact absurd (upd_new (by omega)) hk.2)
theorem RX.grown {a1 : Option Addr} {c1 : Nat} {v1 : List Value} {a2 : Option Addr} {c2 : Nat} {v2 : List Value} {K K2 : Nat → Prop} (h : RX w1 w p r K a1 c1 v1 a2 c2 v2) (hb : Below w1.heap.size w1 w') (hk : Kpz K2 w w') (h2 : ∀ k, ¬ K k → k < w.heap.size → K2 k) : RX w1 w' p r (fun k => K k ∨ (w.heap.size ≤ k ∧ k < w'.heap.size)) a1 c1 v1 a2 c2 v2 := by
  have h1 := h.other hb hk h2
  refine ⟨h1.ob, h1.want, h1.log, h1.aprt, fun k hk hK => ?_, h1.base, fun k hk => ?_, h1.bel, h1.ok⟩
  · rcases hK with hK | hK
    · exact h.away k hk hK
    · have := (h.blk k hk).2; omega
  · rcases hk with hk | hk
    · exact h1.lt k hk
    · exact hk.2
theorem ROn.another (h : ROn w1 w p r (Kf f w.heap.size x)) (hb : Below w1.heap.size w1 w') (hk : Kpz (Kf f w.heap.size y) w w') (hne : y ≠ x) : ROn w1 w' p r (Kf (upd f w.heap.size y) w'.heap.size x) := by
  obtain ⟨a1, c1, v1, a2, c2, v2, h⟩ := h
  have h2 := h.grown hb hk (fun k h1 h2 => ⟨h2, fun e => h1 ⟨h2, by rw [e]; exact hne⟩⟩)
  refine ⟨a1, c1, v1, a2, c2, v2, h2.less (fun k hk => ?_)⟩
  by_cases h3 : k < w.heap.size
  · exact .inl ⟨h3, by have := hk.2; rwa [upd_old h3] at this⟩
  · exact .inr ⟨by omega, hk.1⟩
end
/-- A log that belongs to nobody. -/
structure Lone (w1 w : World) (f : Nat → Nat) (ls : List Cm) (ao : Option Addr) (c : Nat) (vs : List Value) : Prop where
  own : OwC w w1.heap.size ls ao c vs
  free : ∀ k, BkC ao vs k → f k = 0
section
variable {w1 w w' : World} {x : Nat} {f : Nat → Nat} {ls : List Cm} {ao : Option Addr} {c : Nat} {vs : List Value}
theorem Lone.beside (h : Lone w1 w f ls ao c vs) (hb : Below w.heap.size w w') (y : Nat) : Lone w1 w' (upd f w.heap.size y) ls ao c vs :=
  ⟨h.own.later hb, fun k hk => by rw [upd_old (h.own.blks k hk).2]; exact h.free k hk⟩
theorem Lone.another (h : Lone w1 w f ls ao c vs) (h1 : Below w1.heap.size w1 w) (hb : Below w1.heap.size w1 w') (hk : Kpz (Kf f w.heap.size x) w w') (hne : x ≠ 0) : Lone w1 w' (upd f w.heap.size x) ls ao c vs :=
  ⟨h.own.keep (tch_kpz h1 hb hk) (fun k hk2 hn => hn ⟨(h.own.blks k hk2).2, by rw [h.free k hk2]; exact fun e => hne e.symm⟩), fun k hk2 => by rw [upd_old (h.own.blks k hk2).2]; exact h.free k hk2⟩
theorem Lone.away (h : Lone w1 w f ls ao c vs) (hne : x ≠ 0) : ∀ k, BkC ao vs k → Kf f w.heap.size x k := fun k hk => ⟨(h.own.blks k hk).2, by rw [h.free k hk]; exact fun e => hne e.symm⟩
end
end Go.Proofs.Ytnhnpfhfcbmmlaa
