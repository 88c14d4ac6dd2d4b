/- Boxes of leases in memory, and a lease stored in its box. No conditions but those stated. -/
import Derived.Test.YtanajblldlgalaaDoorLsM
namespace Go.Proofs.YtanajblldlgalaaDoor
open Go Go.RowKit
set_option linter.unusedVariables false
set_option linter.unusedSimpArgs false

def BxL (w : World) (q : Nat) (x : Ls) : Prop := w.heap[q]? = some (.cells #[.int .u32 x.vip, .int .i64 x.first, .int .u32 x.dip, .int .i64 x.exp] tyL (0, 0))
theorem bxL_new (w : World) (x : Ls) : BxL (w.alloc x.obj) w.heap.size x := heap_alloc_new w _
theorem BxL.at {w : World} {q : Nat} {x : Ls} (h : BxL w q x) : w.cell? ⟨q, 0, none⟩ = some (.int .u32 x.vip) ∧ w.cell? ⟨q, 1, none⟩ = some (.int .i64 x.first) ∧ w.cell? ⟨q, 2, none⟩ = some (.int .u32 x.dip) ∧ w.cell? ⟨q, 3, none⟩ = some (.int .i64 x.exp) :=
  ⟨cell_of_row w q 0 _ _ _ h, cell_of_row w q 1 _ _ _ h, cell_of_row w q 2 _ _ _ h, cell_of_row w q 3 _ _ _ h⟩
theorem BxL.free {w : World} {q : Nat} {x : Ls} (h : BxL w q x) : w.frozen? ⟨q, 0, none⟩ = false ∧ w.frozen? ⟨q, 1, none⟩ = false ∧ w.frozen? ⟨q, 2, none⟩ = false ∧ w.frozen? ⟨q, 3, none⟩ = false :=
  ⟨frozen_of_row w q 0 _ _ h, frozen_of_row w q 1 _ _ h, frozen_of_row w q 2 _ _ h, frozen_of_row w q 3 _ _ h⟩
theorem BxL.lt {w : World} {q : Nat} {x : Ls} (h : BxL w q x) : q < w.heap.size := lt_of_block h
theorem BxL.below {w w' : World} {B q : Nat} {x : Ls} (h : BxL w q x) (hb : Below B w w') (hB : q < B) : BxL w' q x := (hb.block q hB).trans h
theorem BxL.later {w w' : World} {q : Nat} {x : Ls} (h : BxL w q x) (hb : Below w.heap.size w w') : BxL w' q x := h.below hb h.lt
/-- A lease stored in a box. -/
abbrev stL (w : World) (q : Nat) (x : Ls) : World := (((w.setCell ⟨q, 0, none⟩ (.int .u32 x.vip)).setCell ⟨q, 1, none⟩ (.int .i64 x.first)).setCell ⟨q, 2, none⟩ (.int .u32 x.dip)).setCell ⟨q, 3, none⟩ (.int .i64 x.exp)
theorem stL_bx {w : World} {q : Nat} {y : Ls} (h : BxL w q y) (x : Ls) : BxL (stL w q x) q x := by
  have h1 := heap_setCell_same w q 0 _ _ (.int .u32 x.vip) h
  have h2 := heap_setCell_same _ q 1 _ _ (.int .i64 x.first) h1
  have h3 := heap_setCell_same _ q 2 _ _ (.int .u32 x.dip) h2
  exact heap_setCell_same _ q 3 _ _ (.int .i64 x.exp) h3
theorem bl_stL {B q : Nat} {w w' : World} (h : Below B w w') (hB : B ≤ q) (x : Ls) : Below B w (stL w' q x) :=
  (((h.setCell (p := ⟨q, 0, none⟩) hB _).setCell (p := ⟨q, 1, none⟩) hB _).setCell (p := ⟨q, 2, none⟩) hB _).setCell (p := ⟨q, 3, none⟩) hB _
theorem own_stL {B q size n : Nat} {e : TypeId} {v : Value} {xs : List Value} {w : World} (h : w.ownsRow B e size v n xs) (hq : q < B) (x : Ls) : (stL w q x).ownsRow B e size v n xs := by
  have hs : ∀ (W : World) (j : Nat) (u : Value), W.ownsRow B e size v n xs → (W.setCell ⟨q, j, none⟩ u).ownsRow B e size v n xs := fun W j u ho => by
    refine ⟨ho.1, ?_⟩
    rcases ho.2 with h0 | ⟨g, cap, cur, hv, h1, h2, h3⟩
    · exact .inl h0
    · exact .inr ⟨g, cap, cur, hv, h1, (heap_setCell_other W ⟨q, j, none⟩ g u (by show g ≠ q; omega)).trans h2, h3⟩
  exact hs _ _ _ (hs _ _ _ (hs _ _ _ (hs _ _ _ h)))
theorem cell_stL {w : World} {q : Nat} (x : Ls) {p : Addr} {u : Value} (h : w.cell? p = some u) (hne : p.block ≠ q) : (stL w q x).cell? p = some u := by
  have hs : ∀ (W : World) (j : Nat) (y : Value), W.cell? p = some u → (W.setCell ⟨q, j, none⟩ y).cell? p = some u := fun W j y hc => (World.cell?_setCell_other _ _ _ _ (fun e => hne (by rw [← e]))).trans hc
  exact hs _ _ _ (hs _ _ _ (hs _ _ _ (hs _ _ _ h)))
end Go.Proofs.YtanajblldlgalaaDoor
