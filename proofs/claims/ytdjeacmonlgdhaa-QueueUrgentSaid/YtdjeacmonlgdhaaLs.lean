/- The program's lanes, as the statements' walks take them. No conditions but those stated. -/
import Derived.Test.YtdjeacmonlgdhaaQs
import Derived.Test.YtdjeacmonlgdhaaRqT
import Derived.Test.YtdjeacmonlgdhaaLIn
namespace Go.Proofs.Ytdjeacmonlgdhaa
open Go Go.RowKit
set_option linter.unusedVariables false
set_option linter.unusedSimpArgs false

/-- The program's lanes: F, the blocks they lie in themselves; the rows of each. -/
structure LSt (w : World) (B : Nat) (F : Nat → Prop) (l size : Nat) (us : List Value) (pu : List (List Int)) (vs : List Value) (pp : List (List Int)) : Prop where
  inn : InL w F l size us vs
  urg : Rws w B us pu
  pla : Rws w B vs pp
  apart : (us ++ vs).Pairwise Aprt
  far : ∀ v ∈ us ++ vs, ∀ k, v.ownBlock = some k → ¬ F k
  base : ∀ k, F k → B ≤ k ∧ k < w.heap.size
  leU : pu.length ≤ size
  leP : pp.length ≤ size
theorem LSt.keep {T : Nat → Prop} {w w' : World} {B : Nat} {F : Nat → Prop} {l size : Nat} {us vs : List Value} {pu pp : List (List Int)} (h : LSt w B F l size us pu vs pp) (ht : Tch T w w') (hn : ∀ k, QB F (us ++ vs) k → ¬ T k) : LSt w' B F l size us pu vs pp :=
  ⟨h.inn.keep ht (fun k hk => hn k (.inl hk)), h.urg.keep ht (fun v hv k hk => hn k (.inr ⟨v, List.mem_append_left _ hv, hk⟩)), h.pla.keep ht (fun v hv k hk => hn k (.inr ⟨v, List.mem_append_right _ hv, hk⟩)), h.apart, h.far, fun k hk => ⟨(h.base k hk).1, Nat.lt_of_lt_of_le (h.base k hk).2 ht.size⟩, h.leU, h.leP⟩
theorem LSt.lower {w : World} {B B' : Nat} {F : Nat → Prop} {l size : Nat} {us vs : List Value} {pu pp : List (List Int)} (h : LSt w B F l size us pu vs pp) (hb : B' ≤ B) : LSt w B' F l size us pu vs pp :=
  ⟨h.inn, h.urg.base hb, h.pla.base hb, h.apart, h.far, fun k hk => ⟨Nat.le_trans hb (h.base k hk).1, (h.base k hk).2⟩, h.leU, h.leP⟩
theorem LSt.blocks {w : World} {B : Nat} {F : Nat → Prop} {l size : Nat} {us vs : List Value} {pu pp : List (List Int)} (h : LSt w B F l size us pu vs pp) : ∀ k, QB F (us ++ vs) k → B ≤ k ∧ k < w.heap.size := fun k hk => by
  rcases hk with hk | ⟨v, hv, hk⟩
  · exact h.base k hk
  · rcases List.mem_append.1 hv with hv | hv
    · exact h.urg.blocks v hv k hk
    · exact h.pla.blocks v hv k hk
/-- What Urgent leaves. -/
def LUrg (w : World) (B : Nat) (F : Nat → Prop) (l size : Nat) (us : List Value) (pu : List (List Int)) (vs : List Value) (pp qs : List (List Int)) (e : Ending) (w' : World) : Prop :=
  ∃ xs, e = .returned (.int .i64 (fits pu.length size qs.length)) ∧ LSt w' B F l size (us ++ xs) (pu ++ qs.take (fits pu.length size qs.length)) vs pp ∧ Tch F w w' ∧ (∀ u ∈ xs, ∀ k, u.ownBlock = some k → w.heap.size ≤ k)
/-- What Plain leaves. -/
def LPla (w : World) (B : Nat) (F : Nat → Prop) (l size : Nat) (us : List Value) (pu : List (List Int)) (vs : List Value) (pp qs : List (List Int)) (e : Ending) (w' : World) : Prop :=
  ∃ xs, e = .returned (.int .i64 (fits pp.length size qs.length)) ∧ LSt w' B F l size us pu (vs ++ xs) (pp ++ qs.take (fits pp.length size qs.length)) ∧ Tch F w w' ∧ (∀ u ∈ xs, ∀ k, u.ownBlock = some k → w.heap.size ≤ k)
/-- What Get leaves where there is a row. -/
def LGot (w : World) (B : Nat) (F : Nat → Prop) (l size : Nat) (v : Value) (p : List Int) (t : Bool) (us : List Value) (pu : List (List Int)) (vs : List Value) (pp : List (List Int)) (e : Ending) (w' : World) : Prop :=
  e = .returned (.tuple #[v, .bool t, .bool true]) ∧ LSt w' B F l size us pu vs pp ∧ Tch F w w' ∧ w'.ownsRow B 5 1 v p.length (u8s p)
/-- What Take leaves that takes K rows. -/
def LTak (w : World) (B : Nat) (F : Nat → Prop) (l size : Nat) (us : List Value) (pu : List (List Int)) (vs : List Value) (pp : List (List Int)) (K : Nat) (e : Ending) (w' : World) : Prop :=
  ∃ ao c, e = .returned (.slice ao K c) ∧ w'.ownsRow w.heap.size 42 1 (.slice ao K c) K ((us ++ vs).take K) ∧ LSt w' B F l size (us.drop K) (pu.drop K) (vs.drop (K - us.length)) (pp.drop (K - us.length)) ∧ Tch F w w'
/-- Blocks of the two are apart. -/
def SepL (F : Nat → Prop) (vs : List Value) (m : Nat) (R : Nat → Prop) : Prop := ∀ k, QB F vs k → k ≠ m ∧ ¬ R k
/-- What QueueLanes holds in its loop. -/
def PlL (w0 : World) (F : Nat → Prop) (l m size : Nat) (w : World) : Prop :=
  ∃ us pu vs pp aU nU cU wU aP nP cP wP, LSt w w0.heap.size F l size us pu vs pp ∧ RfL w w0.heap.size m size aU nU cU wU pu aP nP cP wP pp ∧ SepL F (us ++ vs) m (RLB aU nU cU wU aP nP cP wP) ∧ w0.heap.size ≤ m ∧ Below w0.heap.size w0 w ∧ (∀ p ∈ pu, p.length ≤ 1048576) ∧ ∀ p ∈ pp, p.length ≤ 1048576
theorem pl_gen {w W w4 w5 w6 w7 : World} {F T6 T7 : Nat → Prop} {l m size : Nat} {us vs us2 vs2 : List Value} {pu pp pu2 pp2 : List (List Int)} {aU aP a1 a2 : Option Addr} {nU cU nP cP n1 c1 n2 c2 : Nat} {wU wP w1 w2 : List Value}
    (hL : LSt W w.heap.size F l size us pu vs pp) (hR : RfL W w.heap.size m size aU nU cU wU pu aP nP cP wP pp) (hS : SepL F (us ++ vs) m (RLB aU nU cU wU aP nP cP wP)) (hm : w.heap.size ≤ m) (hB : Below w.heap.size w W) (h4 : Below W.heap.size W w4)
    (hL5 : LSt w5 w.heap.size F l size us2 pu2 vs2 pp2) (ht5 : Tch F w4 w5) (hu : ∀ k, QB F (us2 ++ vs2) k → QB F (us ++ vs) k ∨ w4.heap.size ≤ k)
    (hR6 : RfL w6 w.heap.size m size a1 n1 c1 w1 pu2 a2 n2 c2 w2 pp2) (ht6 : Tch T6 w5 w6) (hT6 : ∀ k, T6 k → k = m ∨ RLB aU nU cU wU aP nP cP wP k) (ha : ∀ k, RLB a1 n1 c1 w1 a2 n2 c2 w2 k → RLB aU nU cU wU aP nP cP wP k ∨ w5.heap.size ≤ k)
    (ht7 : Tch T7 w6 w7) (hT7 : ∀ k, T7 k → W.heap.size ≤ k ∧ k < w4.heap.size) (hPu : ∀ p ∈ pu2, p.length ≤ 1048576) (hPp : ∀ p ∈ pp2, p.length ≤ 1048576) : PlL w F l m size w7 := by
  have s4 := h4.size
  have s5 := ht5.size
  have hml : m < W.heap.size := hR.lt
  have hrb : ∀ k, RLB aU nU cU wU aP nP cP wP k → k < W.heap.size := fun k hk => (hR.blocks k hk).2
  have hrB : ∀ k, RLB aU nU cU wU aP nP cP wP k → w.heap.size ≤ k := fun k hk => (hR.blocks k hk).1
  have hqb : ∀ k, QB F (us ++ vs) k → k < W.heap.size := fun k hk => (hL.blocks k hk).2
  have hqu : ∀ k, QB F (us2 ++ vs2) k → (QB F (us ++ vs) k) ∨ (w4.heap.size ≤ k ∧ k < w5.heap.size) := fun k hk => (hu k hk).imp id (fun h => ⟨h, (hL5.blocks k hk).2⟩)
  have n6 : ∀ k, QB F (us2 ++ vs2) k → ¬ T6 k := fun k hk h => by
    rcases hqu k hk with h1 | h1
    · rcases hT6 k h with h | h
      · exact (hS k h1).1 h
      · exact (hS k h1).2 h
    · rcases hT6 k h with h | h
      · omega
      · have := hrb k h; omega
  have n7 : ∀ k, QB F (us2 ++ vs2) k → ¬ T7 k := fun k hk h => by
    have h2 := hT7 k h
    rcases hqu k hk with hk | hk
    · have := hqb k hk; omega
    · omega
  have hL7 := (hL5.keep ht6 n6).keep ht7 n7
  have hR7 := hR6.keep ht7 (fun h => by have := hT7 m h; omega) (fun k hk h => by
    have h2 := hT7 k h
    rcases ha k hk with h1 | h1
    · have := hrb k h1; omega
    · omega)
  refine ⟨us2, pu2, vs2, pp2, a1, n1, c1, w1, a2, n2, c2, w2, hL7, hR7, ?_, hm, ?_, hPu, hPp⟩
  · intro k hk
    rcases hqu k hk with h1 | h1
    · refine ⟨(hS k h1).1, fun h => ?_⟩
      rcases ha k h with h | h
      · exact (hS k h1).2 h
      · have := hqb k h1; omega
    · refine ⟨by omega, fun h => ?_⟩
      rcases ha k h with h | h
      · have := hrb k h; omega
      · omega
  · have b4 : Below w.heap.size w w4 := hB.trans (h4.mono hB.size)
    have b5 := b4.trans (ht5.below (fun k hk => (hL.base k hk).1) b4.size)
    have b6 := b5.trans (ht6.below (fun k hk => by
      rcases hT6 k hk with hk | hk
      · omega
      · exact hrB k hk) b5.size)
    exact b6.trans (ht7.below (fun k hk => Nat.le_trans hB.size (hT7 k hk).1) b6.size)
theorem qb_app {F : Nat → Prop} {us vs xs : List Value} {k b : Nat} (hx : ∀ u ∈ xs, ∀ k, u.ownBlock = some k → b ≤ k) (h : QB F ((us ++ xs) ++ vs) k) : QB F (us ++ vs) k ∨ b ≤ k := by
  rcases h with h | ⟨v, hv, h⟩
  · exact .inl (.inl h)
  · rcases List.mem_append.1 hv with hv | hv
    · rcases List.mem_append.1 hv with hv | hv
      · exact .inl (.inr ⟨v, List.mem_append_left _ hv, h⟩)
      · exact .inr (hx v hv k h)
    · exact .inl (.inr ⟨v, List.mem_append_right _ hv, h⟩)
theorem qb_app2 {F : Nat → Prop} {us vs xs : List Value} {k b : Nat} (hx : ∀ u ∈ xs, ∀ k, u.ownBlock = some k → b ≤ k) (h : QB F (us ++ (vs ++ xs)) k) : QB F (us ++ vs) k ∨ b ≤ k := by
  rcases h with h | ⟨v, hv, h⟩
  · exact .inl (.inl h)
  · rcases List.mem_append.1 hv with hv | hv
    · exact .inl (.inr ⟨v, List.mem_append_left _ hv, h⟩)
    · rcases List.mem_append.1 hv with hv | hv
      · exact .inl (.inr ⟨v, List.mem_append_right _ hv, h⟩)
      · exact .inr (hx v hv k h)
theorem qb_sub {F : Nat → Prop} {us vs : List Value} {k : Nat} (hs : ∀ v ∈ us, v ∈ vs) (h : QB F us k) : QB F vs k := h.imp id (fun ⟨v, hv, e⟩ => ⟨v, hs v hv, e⟩)
end Go.Proofs.Ytdjeacmonlgdhaa
