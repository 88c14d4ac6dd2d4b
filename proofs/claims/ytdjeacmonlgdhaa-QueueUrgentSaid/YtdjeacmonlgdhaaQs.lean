/- The program's queue and lanes in memory, as the statements' walks take them. No conditions but those stated. -/
import Derived.Test.YtdjeacmonlgdhaaRqG
import Derived.Test.YtdjeacmonlgdhaaScr
import Derived.Test.YtdjeacmonlgdhaaQIn
namespace Go.Proofs.Ytdjeacmonlgdhaa
open Go Go.RowKit
set_option linter.unusedVariables false
set_option linter.unusedSimpArgs false

abbrev errnoQ (n : Int) : Value := .iface 30 (.int .i64 n)
/-- The program's queue: F, the blocks it lies in itself; its rows. -/
structure QSt (w : World) (B : Nat) (F : Nat → Prop) (q size : Nat) (vs : List Value) (ps : List (List Int)) : Prop where
  inn : Inn w F q size vs
  rows : Rws w B vs ps
  apart : vs.Pairwise Aprt
  far : ∀ v ∈ vs, ∀ k, v.ownBlock = some k → ¬ F k
  base : ∀ k, F k → B ≤ k ∧ k < w.heap.size
  le : ps.length ≤ size
theorem QSt.keep {T : Nat → Prop} {w w' : World} {B : Nat} {F : Nat → Prop} {q size : Nat} {vs : List Value} {ps : List (List Int)} (h : QSt w B F q size vs ps) (ht : Tch T w w') (hf : ∀ k, F k → ¬ T k) (hv : ∀ v ∈ vs, ∀ k, v.ownBlock = some k → ¬ T k) : QSt w' B F q size vs ps :=
  ⟨h.inn.keep ht hf, h.rows.keep ht hv, h.apart, h.far, fun k hk => ⟨(h.base k hk).1, Nat.lt_of_lt_of_le (h.base k hk).2 ht.size⟩, h.le⟩
theorem QSt.lower {w : World} {B B' : Nat} {F : Nat → Prop} {q size : Nat} {vs : List Value} {ps : List (List Int)} (h : QSt w B F q size vs ps) (hb : B' ≤ B) : QSt w B' F q size vs ps :=
  ⟨h.inn, h.rows.base hb, h.apart, h.far, fun k hk => ⟨Nat.le_trans hb (h.base k hk).1, (h.base k hk).2⟩, h.le⟩
/-- All its blocks. -/
def QB (F : Nat → Prop) (vs : List Value) (k : Nat) : Prop := F k ∨ ∃ v ∈ vs, v.ownBlock = some k
theorem QSt.blocks {w : World} {B : Nat} {F : Nat → Prop} {q size : Nat} {vs : List Value} {ps : List (List Int)} (h : QSt w B F q size vs ps) : ∀ k, QB F vs k → B ≤ k ∧ k < w.heap.size := fun k hk => by
  rcases hk with hk | ⟨v, hv, hk⟩
  · exact h.base k hk
  · exact h.rows.blocks v hv k hk
/-- Rows to be put. -/
structure RsP (w : World) (ao : Option Addr) (n : Nat) (us : List Value) (ps : List (List Int)) : Prop where
  len : ps.length = n
  here : n = 0 ∨ ∃ b off, ao = some ⟨b, off, none⟩ ∧ ∀ j, j < n → w.cell? ⟨b, off + j, none⟩ = some (us.getD j undef)
  rows : ∀ j, j < n → ∃ a k c, us.getD j undef = .slice a k c ∧ In w a k c (ps.getD j [])
theorem RsP.below {w w' : World} {ao : Option Addr} {n : Nat} {us : List Value} {ps : List (List Int)} (h : RsP w ao n us ps) (hb : Below w.heap.size w w') : RsP w' ao n us ps :=
  ⟨h.len, h.here.imp id (fun ⟨b, off, e, hc⟩ => ⟨b, off, e, fun j hj => cell_later hb (hc j hj)⟩), fun j hj => by
    obtain ⟨a, k, c, e, hi⟩ := h.rows j hj
    exact ⟨a, k, c, e, hi.below hb⟩⟩
theorem RsIn.rsp {w : World} {ao : Option Addr} {n cap : Nat} {us : List Value} {ps : List (List Int)} (h : RsIn w ao n cap us ps) : RsP w ao n us ps := by
  refine ⟨h.len, ?_, fun j hj => ?_⟩
  · rcases Nat.eq_zero_or_pos n with e | e
    · exact .inl e
    · obtain ⟨b, off, rfl⟩ := h.block e
      exact .inr ⟨b, off, rfl, fun j hj => h.cell hj⟩
  · exact h.rows.at (j := j) (by rw [h.len]; exact hj)
theorem rsp_copies {w : World} {B B' g n c : Nat} {vs : List Value} {ps : List (List Int)} (h : w.ownsRow B 42 1 (.slice (some ⟨g, 0, none⟩) n c) n vs) (hc : Cps w B' vs ps) : RsP w (some ⟨g, 0, none⟩) n vs ps := by
  have hl : ps.length = n := by have h1 := h.1; have h2 := hc.len; omega
  refine ⟨hl, .inr ⟨g, 0, rfl, fun j hj => by rw [Nat.zero_add]; exact own_at h hj⟩, fun j hj => ?_⟩
  obtain ⟨gj, e, ho, hf⟩ := hc.at (j := j) (by omega)
  exact ⟨_, _, _, e, own_marks ho rfl hf⟩
/-- What Put leaves. -/
def QPut (w : World) (B : Nat) (F : Nat → Prop) (q size : Nat) (vs : List Value) (ps qs : List (List Int)) (e : Ending) (w' : World) : Prop :=
  ∃ us, e = .returned (.int .i64 (fits ps.length size qs.length)) ∧ QSt w' B F q size (vs ++ us) (ps ++ qs.take (fits ps.length size qs.length)) ∧ Tch F w w' ∧ (∀ u ∈ us, ∀ k, u.ownBlock = some k → w.heap.size ≤ k)
/-- What Get leaves where there is a row. -/
def QGet (w : World) (B : Nat) (F : Nat → Prop) (q size : Nat) (vt : List Value) (p : List Int) (pt : List (List Int)) (v : Value) (e : Ending) (w' : World) : Prop :=
  e = .returned (.tuple #[v, .bool true]) ∧ QSt w' B F q size vt pt ∧ Tch F w w' ∧ w'.ownsRow B 5 1 v p.length (u8s p)
end Go.Proofs.Ytdjeacmonlgdhaa
