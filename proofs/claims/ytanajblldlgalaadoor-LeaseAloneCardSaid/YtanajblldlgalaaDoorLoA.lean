/- LeaseAlone: the script in memory, and what each round keeps, plainly. No conditions but those stated. -/
import Derived.Test.YtanajblldlgalaaDoorLfW
namespace Go.Proofs.YtanajblldlgalaaDoor
open Go Go.RowKit
set_option linter.unusedVariables false
set_option linter.unusedSimpArgs false

structure Opn where
  kind : Int
  vip : Int
  dip : Int
  nth : Int
  wait : Int
def opn0 : Opn := ⟨0, 0, 0, 0, 0⟩
def TyO (x : Opn) : Prop := i64b x.kind ∧ (0 ≤ x.vip ∧ x.vip < 4294967296) ∧ (0 ≤ x.dip ∧ x.dip < 4294967296) ∧ i64b x.nth ∧ i64b x.wait
def OpAt (w : World) (b off : Nat) (x : Opn) : Prop := w.cell? ⟨b, off, none⟩ = some (.int .i64 x.kind) ∧ w.cell? ⟨b, off + 1, none⟩ = some (.int .u32 x.vip) ∧ w.cell? ⟨b, off + 2, none⟩ = some (.int .u32 x.dip) ∧ w.cell? ⟨b, off + 3, none⟩ = some (.int .i64 x.nth) ∧ w.cell? ⟨b, off + 4, none⟩ = some (.int .i64 x.wait)
/-- A script that came in. -/
structure InO (w : World) (a : Option Addr) (n cap : Nat) (f : Nat → Opn) : Prop where
  room : n ≤ cap
  here : n = 0 ∨ ∃ b off, a = some ⟨b, off, none⟩ ∧ ∀ j, j < n → OpAt w b (off + j * 5) (f j) ∧ TyO (f j)
theorem OpAt.later {w w' : World} {b off : Nat} {x : Opn} (h : OpAt w b off x) (hb : Below w.heap.size w w') : OpAt w' b off x := by
  have hk : ∀ {p : Addr} {u : Value}, w.cell? p = some u → w'.cell? p = some u := fun {p u} hc => (hb.cell (p := p) (block_lt_of_cell hc)).trans hc
  exact ⟨hk h.1, hk h.2.1, hk h.2.2.1, hk h.2.2.2.1, hk h.2.2.2.2⟩
theorem InO.below {w w' : World} {a : Option Addr} {n cap : Nat} {f : Nat → Opn} (h : InO w a n cap f) (hb : Below w.heap.size w w') : InO w' a n cap f := by
  refine ⟨h.room, ?_⟩
  rcases h.here with h0 | ⟨b, off, ha, hc⟩
  · exact .inl h0
  · exact .inr ⟨b, off, ha, fun j hj => ⟨(hc j hj).1.later hb, (hc j hj).2⟩⟩
theorem InO.block {w : World} {a : Option Addr} {n c : Nat} {f : Nat → Opn} (h : InO w a n c f) (hn : 0 < n) : ∃ b off, a = some ⟨b, off, none⟩ := by
  rcases h.here with h0 | ⟨b, off, ha, _⟩
  · omega
  · exact ⟨b, off, ha⟩
theorem InO.cell {w : World} {b off n c : Nat} {f : Nat → Opn} (h : InO w (some ⟨b, off, none⟩) n c f) {j : Nat} (hj : j < n) : OpAt w b (off + j * 5) (f j) ∧ TyO (f j) := by
  rcases h.here with h0 | ⟨b', off', ha, hc⟩
  · omega
  · cases ha
    exact hc j hj
abbrev Opn.obj (x : Opn) : Obj := .cells #[.int .i64 x.kind, .int .u32 x.vip, .int .u32 x.dip, .int .i64 x.nth, .int .i64 x.wait] 50
theorem opAt_new (w : World) (x : Opn) : ∃ W q, W = w.alloc x.obj ∧ q = w.heap.size ∧ OpAt W q 0 x ∧ Below w.heap.size w W :=
  ⟨_, _, rfl, rfl, ⟨cells_new w _ _ (0, 0) 0 _ rfl, cells_new w _ _ (0, 0) 1 _ rfl, cells_new w _ _ (0, 0) 2 _ rfl, cells_new w _ _ (0, 0) 3 _ rfl, cells_new w _ _ (0, 0) 4 _ rfl⟩, bl_al (Below.refl _ _) _⟩
/-- What LeaseAlone's rounds keep: both rows, their plain lists, the time. -/
structure Rnd (w : World) (i : Nat) (t : Int) (v g : Value) (L G : List Ls) (wr : World) : Prop where
  alo : Alo t L G
  tt : t ≤ 100 * (i : Int)
  ll : L.length ≤ i
  lg : G.length ≤ i
  ty : ∀ x ∈ L, TyL x
  tg : ∀ x ∈ G, TyL x
  rl : wr.ownsRow w.heap.size tyL 4 v L.length (cellsL L)
  rg : wr.ownsRow w.heap.size tyL 4 g G.length (cellsL G)
  bel : Below w.heap.size w wr
theorem Rnd.later {w wr W : World} {i : Nat} {t : Int} {v g : Value} {L G : List Ls} (h : Rnd w i t v g L G wr) (hb : Below wr.heap.size wr W) : Rnd w i t v g L G W :=
  ⟨h.alo, h.tt, h.ll, h.lg, h.ty, h.tg, owns_bel h.rl hb, owns_bel h.rg hb, bl_tr h.bel hb⟩
theorem Rnd.waits {w wr : World} {i : Nat} {t t' : Int} {v g : Value} {L G : List Ls} (h : Rnd w i t v g L G wr) (h1 : t ≤ t') (h2 : t' ≤ t + 99) : Rnd w (i + 1) t' v g L G wr :=
  ⟨h.alo.later h1, by have := h.tt; omega, by have := h.ll; omega, by have := h.lg; omega, h.ty, h.tg, h.rl, h.rg, h.bel⟩
end Go.Proofs.YtanajblldlgalaaDoor
