/- The worlds that a sort passes through, where its 'less' may make blocks of its own. No conditions but those stated. -/
import Derived.Test.YtpbgccidhpfmgaaFmL
import Derived.Shelf.SlSortFuncK.BreakPatternsK
import Derived.Shelf.SlSortFuncK.AtK
import Derived.Sort.AssemblyPlain
namespace Go.Proofs.Ytpbgccidhpfmgaa
open Go Go.RowKit Go.Sort
set_option linter.unusedVariables false
set_option linter.unusedSimpArgs false

variable {α : Type} [Inhabited α]
/-- What stays the same during a sort: the base world w0 with the row d0; 'less' is function g with lb, 'swap' function sf with sb. -/
structure Sgt (enc : α → List Value) (k : Nat) (lt : α → α → Bool) (g : Nat) (lb : Array Value) (sf : Nat) (sb : Array Value) (blk : Nat) (n : Nat) (w0 : World) (d0 : Array α) : Prop where
  hk : ∀ x, (enc x).length = k
  holds : HoldsK enc k w0 blk 0 d0
  inb : blk < w0.heap.size
  len : d0.size = n
  sz : n < 4611686018427387904
  eg : ∀ args w, (callFunc g args).run Try.prog w = .ok (.enter g args) w
  less : ∀ (m : Nat) (os : Array Obj) (dk : Array α), dk.size = n → ∀ i j : Nat, i < n → j < n →
    Calls Try.prog g (#[.int .i64 i, .int .i64 j] ++ lb) (sortWorldK enc k w0 blk 0 m dk os) fun e w' => e = .returned (.bool (lt dk[i]! dk[j]!)) ∧ Grw (sortWorldK enc k w0 blk 0 m dk os) w'
  swap : SwapSwapsK Try.prog sf sb enc k blk 0 n
/-- A world of the sort in which the row holds d, and an own box of two cells. -/
structure Sgw (enc : α → List Value) (k : Nat) (x y : Value) (blk : Nat) (n : Nat) (w0 : World) (w : World) (d : Array α) (W : World) : Prop where
  sw : SWK enc k w0 blk 0 d W
  len : d.size = n
  c0 : W.cell? ⟨w.heap.size, 0, none⟩ = some x
  c1 : W.cell? ⟨w.heap.size, 1, none⟩ = some y
  lt : w.heap.size < W.heap.size
  tch : Tch (· = blk) w W
section
variable {enc : α → List Value} {k : Nat} {lt : α → α → Bool} {g : Nat} {lb : Array Value} {sf : Nat} {sb : Array Value} {blk n : Nat} {w0 w W : World} {d0 d : Array α} {x y : Value}
theorem swk_grw (h : SWK enc k w0 blk 0 d W) {W' : World} (hg : Grw W W') : SWK enc k w0 blk 0 d W' := by
  obtain ⟨q, os, rfl⟩ := hg
  obtain ⟨m, os1, e⟩ := h.drewN q
  exact ⟨m, os1 ++ os, by rw [e]; unfold sortWorldK; rw [grow_grow]⟩
theorem tch_cells (b : Nat) : ∀ (vs : List Value) (o : Nat) (w : World), Tch (· = b) w (w.setCells b o vs)
  | [], _, w => Tch.refl _ w
  | v :: r, o, w => (tch_cell w b o v).trans (tch_cells b r (o + 1) _)
theorem Sgw.step (h : Sgw enc k x y blk n w0 w d W) (hb : w.heap.size ≠ blk) {W' : World} {d' : Array α} (hs : SWK enc k w0 blk 0 d' W') (hl : d'.size = n) (ht : Tch (· = blk) W W') : Sgw enc k x y blk n w0 w d' W' :=
  ⟨hs, hl, ht.cell h.c0 (fun e => hb e), ht.cell h.c1 (fun e => hb e), Nat.lt_of_lt_of_le h.lt ht.size, h.tch.trans ht⟩
theorem Sgw.grw (h : Sgw enc k x y blk n w0 w d W) (hb : w.heap.size ≠ blk) {W' : World} (hg : Grw W W') : Sgw enc k x y blk n w0 w d W' :=
  h.step hb (swk_grw h.sw hg) h.len (tch_grw _ hg)
/-- At a function's start: its box is made. -/
theorem Sgw.start (hs : SWK enc k w0 blk 0 d w) (hl : d.size = n) (t : TypeId) (x y : Value) : Sgw enc k x y blk n w0 w d (w.alloc (.cells #[x, y] t)) :=
  ⟨hs.alloc _, hl, by simp, by simp, by simp, tch_grw _ ((Grw.refl w).alloc _)⟩
theorem Sgt.less' (S : Sgt enc k lt g lb sf sb blk n w0 d0) (h : SWK enc k w0 blk 0 d W) (hl : d.size = n) (i j : Nat) (hi : i < n) (hj : j < n) :
    Calls Try.prog g (#[.int .i64 i, .int .i64 j] ++ lb) W fun e w' => e = .returned (.bool (lt d[i]! d[j]!)) ∧ Grw W w' := by
  obtain ⟨m, os, rfl⟩ := h
  exact S.less m os d hl i j hi hj
theorem Sgt.swap' (S : Sgt enc k lt g lb sf sb blk n w0 d0) (h : SWK enc k w0 blk 0 d W) (hl : d.size = n) (i j : Nat) (hi : i < n) (hj : j < n) :
    ∃ W', (callFunc sf (#[.int .i64 i, .int .i64 j] ++ sb)).run Try.prog W = .ok (.value (.tuple #[])) W' ∧ SWK enc k w0 blk 0 (swp d i j) W' ∧ (swp d i j).size = n ∧ Tch (· = blk) W W' := by
  refine ⟨_, S.swap W d (h.holds S.inb S.holds (hl.trans S.len.symm)) hl i j hi hj, h.swap S.hk S.inb i j (by omega) (by omega), by rw [size_swp]; exact hl, ?_⟩
  exact (tch_cells blk _ _ _).trans (tch_cells blk _ _ _)
end
/-- What a function of the sort leaves: from a world of the sort to a world of the sort. -/
def Sgo (enc : α → List Value) (k : Nat) (blk n : Nat) (w0 W : World) (d' : Array α) (W' : World) : Prop := SWK enc k w0 blk 0 d' W' ∧ d'.size = n ∧ Tch (· = blk) W W'
theorem Sgw.end_ {enc : α → List Value} {k : Nat} {blk n : Nat} {w0 w W : World} {d : Array α} {x y : Value} (h : Sgw enc k x y blk n w0 w d W) : Sgo enc k blk n w0 w d W := ⟨h.sw, h.len, h.tch⟩
end Go.Proofs.Ytpbgccidhpfmgaa
