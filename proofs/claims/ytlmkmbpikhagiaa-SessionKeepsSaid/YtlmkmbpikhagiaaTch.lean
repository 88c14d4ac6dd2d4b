/- What a piece of a run touches; lists of rows of the call's own. No conditions but those stated. -/
import Derived.Test.YtlmkmbpikhagiaaGenB
namespace Go.Proofs.Ytlmkmbpikhagiaa
open Go Go.RowKit
set_option linter.unusedVariables false
set_option linter.unusedSimpArgs false

/-- Of the old blocks only those of T may have turned. -/
structure Tch (T : Nat → Prop) (w w' : World) : Prop where
  os : w'.os = w.os
  tape : w'.tape = w.tape
  output : w'.output = w.output
  size : w.heap.size ≤ w'.heap.size
  block : ∀ k, k < w.heap.size → ¬ T k → w'.heap[k]? = w.heap[k]?
abbrev Non : Nat → Prop := fun _ => False
theorem Tch.refl (T : Nat → Prop) (w : World) : Tch T w w := ⟨rfl, rfl, rfl, Nat.le_refl _, fun _ _ _ => rfl⟩
theorem Tch.mono {T U : Nat → Prop} {w w' : World} (h : Tch T w w') (hu : ∀ k, T k → U k) : Tch U w w' := ⟨h.os, h.tape, h.output, h.size, fun k hk hn => h.block k hk (fun ht => hn (hu k ht))⟩
theorem Tch.trans {T : Nat → Prop} {a b c : World} (h : Tch T a b) (h2 : Tch T b c) : Tch T a c :=
  ⟨h2.os.trans h.os, h2.tape.trans h.tape, h2.output.trans h.output, Nat.le_trans h.size h2.size, fun k hk hn => (h2.block k (Nat.lt_of_lt_of_le hk h.size) hn).trans (h.block k hk hn)⟩
theorem Tch.trans' {T U : Nat → Prop} {a b c : World} (h : Tch T a b) (h2 : Tch U b c) (hu : ∀ k, k < a.heap.size → U k → T k) : Tch T a c :=
  ⟨h2.os.trans h.os, h2.tape.trans h.tape, h2.output.trans h.output, Nat.le_trans h.size h2.size, fun k hk hn => (h2.block k (Nat.lt_of_lt_of_le hk h.size) (fun e => hn (hu k hk e))).trans (h.block k hk hn)⟩
theorem Tch.join {T U V : Nat → Prop} {a b c : World} (h : Tch T a b) (h2 : Tch U b c) (ht : ∀ k, T k → V k) (hu : ∀ k, U k → V k) : Tch V a c := (h.mono ht).trans (h2.mono hu)
theorem tch_below {B : Nat} {w w' : World} (h : Below B w w') : Tch (B ≤ ·) w w' := ⟨h.os, h.tape, h.output, h.size, fun k _ hn => h.block k (by simpa using hn)⟩
theorem tch_new {w w' : World} (h : Below w.heap.size w w') : Tch Non w w' := ⟨h.os, h.tape, h.output, h.size, fun k hk _ => h.block k hk⟩
theorem tch_grown {w w' : World} {r : Option Nat} (h : w.grownBy w' r) : Tch (fun k => some k = r) w w' := ⟨h.os, h.tape, h.output, h.size, fun k hk hn => h.block k hk hn⟩
theorem tch_set (w : World) (p : Addr) (v : Value) : Tch (· = p.block) w (w.setCell p v) := ⟨rfl, rfl, rfl, by simp, fun k _ hn => Below.heap_setCell w p v k hn⟩
theorem Tch.below {T : Nat → Prop} {w w' : World} {B : Nat} (h : Tch T w w') (hT : ∀ k, T k → B ≤ k) (hB : B ≤ w.heap.size) : Below B w w' :=
  ⟨h.os, h.tape, h.output, h.size, fun k hk => h.block k (by omega) (fun ht => by have := hT k ht; omega)⟩
theorem Tch.own {T : Nat → Prop} {w w' : World} (h : Tch T w w') {B size n : Nat} {e : TypeId} {v : Value} {xs : List Value} (ho : w.ownsRow B e size v n xs) (hn : ∀ g, v.ownBlock = some g → ¬ T g) : w'.ownsRow B e size v n xs := by
  refine ⟨ho.1, ?_⟩
  rcases ho.2 with h0 | ⟨g', cap', cur, hv, h1, h2, h3⟩
  · exact .inl h0
  · exact .inr ⟨g', cap', cur, hv, h1, (h.block g' (lt_of_block h2) (hn g' (by rw [hv]; rfl))).trans h2, h3⟩
theorem Tch.at {T : Nat → Prop} {w w' : World} (h : Tch T w w') {k : Nat} {o : Obj} (ho : w.heap[k]? = some o) (hn : ¬ T k) : w'.heap[k]? = some o := (h.block k (lt_of_block ho) hn).trans ho
theorem Tch.cell {T : Nat → Prop} {w w' : World} (h : Tch T w w') {p : Addr} {v : Value} (hc : w.cell? p = some v) (hn : ¬ T p.block) : w'.cell? p = some v :=
  (World.cell?_of_block (h.block p.block (World.block_lt_of_cell? _ _ hc) hn)).trans hc

/-- Two values lie in unlike blocks. -/
def Aprt (v u : Value) : Prop := ∀ g, v.ownBlock = some g → u.ownBlock ≠ some g
theorem Aprt.symm {v u : Value} (h : Aprt v u) : Aprt u v := fun g hu hv => h g hv hu
/-- Rows of bytes, of the call's own. -/
def Rws (w : World) (B : Nat) : List Value → List (List Int) → Prop
  | [], [] => True
  | v :: vs, p :: ps => (w.ownsRow B 5 1 v p.length (u8s p) ∧ fit p) ∧ Rws w B vs ps
  | _, _ => False
theorem Rws.len {w : World} {B : Nat} : ∀ {vs : List Value} {ps : List (List Int)}, Rws w B vs ps → vs.length = ps.length
  | [], [], _ => rfl
  | _ :: vs, _ :: ps, h => by rw [List.length_cons, List.length_cons, Rws.len h.2]
  | [], _ :: _, h => h.elim
  | _ :: _, [], h => h.elim
theorem Rws.app {w : World} {B : Nat} : ∀ {vs us : List Value} {ps qs : List (List Int)}, Rws w B vs ps → Rws w B us qs → Rws w B (vs ++ us) (ps ++ qs)
  | [], _, [], _, _, h => h
  | _ :: vs, _, _ :: ps, _, h, h2 => ⟨h.1, Rws.app h.2 h2⟩
  | [], _, _ :: _, _, h, _ => h.elim
  | _ :: _, _, [], _, h, _ => h.elim
theorem Rws.one {w : World} {B : Nat} {v : Value} {p : List Int} (h : w.ownsRow B 5 1 v p.length (u8s p)) (hf : fit p) : Rws w B [v] [p] := ⟨⟨h, hf⟩, trivial⟩
theorem Rws.fit {w : World} {B : Nat} : ∀ {vs : List Value} {ps : List (List Int)}, Rws w B vs ps → ∀ p ∈ ps, Go.Proofs.Ytlmkmbpikhagiaa.fit p
  | [], [], _, p, hp => by cases hp
  | _ :: vs, _ :: ps, h, p, hp => (List.mem_cons.1 hp).elim (fun e => e ▸ h.1.2) (fun hp => Rws.fit h.2 p hp)
  | [], _ :: _, h, _, _ => h.elim
  | _ :: _, [], h, _, _ => h.elim
theorem Rws.at {w : World} {B : Nat} : ∀ {vs : List Value} {ps : List (List Int)}, Rws w B vs ps → ∀ {j : Nat}, j < ps.length → w.ownsRow B 5 1 (vs.getD j undef) (ps.getD j []).length (u8s (ps.getD j [])) ∧ Go.Proofs.Ytlmkmbpikhagiaa.fit (ps.getD j [])
  | [], [], _, j, hj => by simp at hj
  | _ :: vs, _ :: ps, h, 0, _ => h.1
  | _ :: vs, _ :: ps, h, j + 1, hj => Rws.at h.2 (j := j) (by simpa using hj)
  | [], _ :: _, h, _, _ => h.elim
  | _ :: _, [], h, _, _ => h.elim
theorem Rws.map {w w' : World} {B B' : Nat} : ∀ {vs : List Value} {ps : List (List Int)}, Rws w B vs ps → (∀ v ∈ vs, ∀ n xs, w.ownsRow B 5 1 v n xs → w'.ownsRow B' 5 1 v n xs) → Rws w' B' vs ps
  | [], [], _, _ => trivial
  | v :: vs, _ :: ps, h, hm => ⟨⟨hm v (by simp) _ _ h.1.1, h.1.2⟩, Rws.map h.2 (fun u hu => hm u (by simp [hu]))⟩
  | [], _ :: _, h, _ => h.elim
  | _ :: _, [], h, _ => h.elim
theorem Rws.keep {T : Nat → Prop} {w w' : World} {B : Nat} {vs : List Value} {ps : List (List Int)} (h : Rws w B vs ps) (ht : Tch T w w') (hn : ∀ v ∈ vs, ∀ g, v.ownBlock = some g → ¬ T g) : Rws w' B vs ps :=
  h.map (fun v hv n xs ho => ht.own ho (hn v hv))
theorem Rws.base {w : World} {B B' : Nat} {vs : List Value} {ps : List (List Int)} (h : Rws w B vs ps) (hb : B' ≤ B) : Rws w B' vs ps := h.map (fun v _ n xs ho => own_base ho hb)
theorem Rws.blocks {w : World} {B : Nat} : ∀ {vs : List Value} {ps : List (List Int)}, Rws w B vs ps → ∀ v ∈ vs, ∀ g, v.ownBlock = some g → B ≤ g ∧ g < w.heap.size
  | [], [], _, v, hv, _, _ => by cases hv
  | u :: vs, _ :: ps, h, v, hv, g, hg => (List.mem_cons.1 hv).elim (fun e => by subst e; exact h.1.1.lt g hg) (fun hv => Rws.blocks h.2 v hv g hg)
  | [], _ :: _, h, _, _, _, _ => h.elim
  | _ :: _, [], h, _, _, _, _ => h.elim
theorem Rws.tail {w : World} {B : Nat} {v : Value} {vs : List Value} {p : List Int} {ps : List (List Int)} (h : Rws w B (v :: vs) (p :: ps)) : Rws w B vs ps := h.2
theorem Rws.drop {w : World} {B : Nat} : ∀ {vs : List Value} {ps : List (List Int)}, Rws w B vs ps → ∀ j, Rws w B (vs.drop j) (ps.drop j)
  | [], [], _, j => by simp [Rws]
  | _ :: _, _ :: _, h, 0 => h
  | _ :: vs, _ :: ps, h, j + 1 => Rws.drop h.2 j
  | [], _ :: _, h, _ => h.elim
  | _ :: _, [], h, _ => h.elim
/-- Rows whose blocks are newer are apart of older ones. -/
theorem aprt_new {w : World} {B : Nat} {vs us : List Value} (h1 : ∀ v ∈ vs, ∀ g, v.ownBlock = some g → g < B) (h2 : ∀ v ∈ us, ∀ g, v.ownBlock = some g → B ≤ g) : ∀ v ∈ vs, ∀ u ∈ us, Aprt v u := by
  intro v hv u hu g hg hg2
  have := h1 v hv g hg
  have := h2 u hu g hg2
  omega
end Go.Proofs.Ytlmkmbpikhagiaa
