/- Three rows apart. No conditions but those stated. -/
import Derived.Test.YtbfcgnggcgodhaaGenB
namespace Go.Proofs.Ytbfcgnggcgodhaa
open Go Go.RowKit
set_option linter.unusedVariables false
set_option linter.unusedSimpArgs false

def three (u v t : Value) (i : Nat) : Value := if i = 0 then u else if i = 1 then v else t
def three' (u v t : Nat) (i : Nat) : Nat := if i = 0 then u else if i = 1 then v else t
/-- Three rows of the call's own, each made behind the one before. -/
theorem geo3 {w w2 w3 : World} {B S T n m r k : Nat} {e f d : TypeId} {s t q : Nat} {u v x : Value} {xs ys zs : List Value} (h1 : w.ownsRow B e s u n xs) (h2 : w2.ownsRow S f t v m ys) (h3 : w3.ownsRow T d q x r zs) (hS : w.heap.size ≤ S) (hT : w2.heap.size ≤ T) (hST : S ≤ T) (hk : w3.heap.size ≤ k) (hTk : T ≤ k) : Geo B k 3 (three u v x) := by
  have apart : ∀ {u v : Value} {a b c d : Nat}, (∀ g, u.ownBlock = some g → g < b) → (∀ g, v.ownBlock = some g → c ≤ g) → b ≤ c → u.ownBlock = none ∨ u.ownBlock ≠ v.ownBlock := by
    intro u v a b c d hu hv hbc
    cases e : u.ownBlock with
    | none => exact .inl rfl
    | some g =>
      right
      intro e2
      have := hu g e
      have := hv g e2.symm
      omega
  have apart' : ∀ {u v : Value} {b c : Nat}, (∀ g, u.ownBlock = some g → g < b) → (∀ g, v.ownBlock = some g → c ≤ g) → b ≤ c → v.ownBlock = none ∨ v.ownBlock ≠ u.ownBlock := by
    intro u v b c hu hv hbc
    cases e : v.ownBlock with
    | none => exact .inl rfl
    | some g =>
      right
      intro e2
      have := hv g e
      have := hu g e2.symm
      omega
  have u1 : ∀ g, u.ownBlock = some g → g < w.heap.size := fun g hg => (h1.lt g hg).2
  have v1 : ∀ g, v.ownBlock = some g → S ≤ g := fun g hg => (h2.lt g hg).1
  have v2 : ∀ g, v.ownBlock = some g → g < w2.heap.size := fun g hg => (h2.lt g hg).2
  have x1 : ∀ g, x.ownBlock = some g → T ≤ g := fun g hg => (h3.lt g hg).1
  constructor
  · intro i j hi hj hij
    have : (i = 0 ∧ j = 1) ∨ (i = 1 ∧ j = 0) ∨ (i = 0 ∧ j = 2) ∨ (i = 2 ∧ j = 0) ∨ (i = 1 ∧ j = 2) ∨ (i = 2 ∧ j = 1) := by omega
    rcases this with ⟨rfl, rfl⟩ | ⟨rfl, rfl⟩ | ⟨rfl, rfl⟩ | ⟨rfl, rfl⟩ | ⟨rfl, rfl⟩ | ⟨rfl, rfl⟩
    · exact apart (a := 0) (d := 0) u1 v1 hS
    · exact apart' u1 v1 hS
    · exact apart (a := 0) (d := 0) u1 x1 (by omega)
    · exact apart' u1 x1 (by omega)
    · exact apart (a := 0) (d := 0) v2 x1 hT
    · exact apart' v2 x1 hT
  · intro i hi e
    have : i = 0 ∨ i = 1 ∨ i = 2 := by omega
    rcases this with rfl | rfl | rfl
    · have := (h1.lt k e).2; omega
    · have := (h2.lt k e).2; omega
    · have := (h3.lt k e).2; omega
theorem Geo.rot {B k : Nat} {u v x : Value} (h : Geo B k 3 (three u v x)) : Geo B k 3 (three v x u) := by
  have e : ∀ i, i < 3 → three v x u i = three u v x ((i + 1) % 3) := fun i hi => by
    have : i = 0 ∨ i = 1 ∨ i = 2 := by omega
    rcases this with rfl | rfl | rfl <;> rfl
  constructor
  · intro i j hi hj hij
    rw [e i hi, e j hj]
    exact h.dist _ _ (by omega) (by omega) (by omega)
  · intro i hi
    rw [e i hi]
    exact h.away _ (by omega)
/-- Apart of two rows and of an older one. -/
theorem apart_three {w0 w1 w2 w4 : World} {B S T n1 n2 n3 c1 c2 c3 : Nat} {a1 a2 a3 : Option Addr} {X L1 L2 : List Int} (hX : w0.ownsRow B 5 1 (.slice a3 n3 c3) n3 (u8s X)) (h1 : w1.ownsRow S 5 1 (.slice a1 n1 c1) n1 (u8s L1)) (h2 : w2.ownsRow T 5 1 (.slice a2 n2 c2) n2 (u8s L2))
    (l3 : n3 = X.length) (l1 : n1 = L1.length) (l2 : n2 = L2.length) (hS : w0.heap.size ≤ S) (hT : w1.heap.size ≤ T) (hST : S ≤ T) (b0 : Below w0.heap.size w0 w4) (b1 : Below w1.heap.size w1 w4) (b2 : Below w2.heap.size w2 w4) (hB : B ≤ S) (hTk : T ≤ w4.heap.size) (k1 : n1 ≤ 1048576) (k2 : n2 ≤ 1048576) (k3 : n3 ≤ 1048576) :
    Calls Try.prog 24 #[.slice (some ⟨w4.heap.size, 0, none⟩) 3 3] (w4.alloc (.cells #[.slice a1 n1 c1, .slice a2 n2 c2, .slice a3 n3 c3] 23)) fun e w' => e = .returned (.bool true) ∧ Below B (w4.alloc (.cells #[.slice a1 n1 c1, .slice a2 n2 c2, .slice a3 n3 c3] 23)) w' := by
  have s2 := b2.size
  have G := (geo3 (k := w4.heap.size) hX h1 h2 hS hT hST s2 hTk).rot
  refine apart_any _ B w4.heap.size 3 3 (three (.slice a1 n1 c1) (.slice a2 n2 c2) (.slice a3 n3 c3)) (three' n1 n2 n3) (by omega) G ?_ ?_ ?_ (by simp) (by simp; omega)
  · intro i hi
    have : i = 0 ∨ i = 1 ∨ i = 2 := by omega
    rcases this with rfl | rfl | rfl
    · exact cells_new w4 [.slice a1 n1 c1, .slice a2 n2 c2, .slice a3 n3 c3] 23 (0, 0) 0 _ rfl
    · exact cells_new w4 [.slice a1 n1 c1, .slice a2 n2 c2, .slice a3 n3 c3] 23 (0, 0) 1 _ rfl
    · exact cells_new w4 [.slice a1 n1 c1, .slice a2 n2 c2, .slice a3 n3 c3] 23 (0, 0) 2 _ rfl
  · intro i hi
    have : i = 0 ∨ i = 1 ∨ i = 2 := by omega
    rcases this with rfl | rfl | rfl
    · exact ⟨L1, l1.symm, own_base ((owns_bel h1 b1).alloc _) hB⟩
    · exact ⟨L2, l2.symm, own_base ((owns_bel h2 b2).alloc _) (by omega)⟩
    · exact ⟨X, l3.symm, (owns_bel hX b0).alloc _⟩
  · intro i hi
    have : i = 0 ∨ i = 1 ∨ i = 2 := by omega
    rcases this with rfl | rfl | rfl
    · show n1 ≤ _; omega
    · show n2 ≤ _; omega
    · show n3 ≤ _; omega
end Go.Proofs.Ytbfcgnggcgodhaa
