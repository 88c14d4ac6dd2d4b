/- Rows of ballots as cells; ranges of a block that are wiped. No program. -/
import Derived.Test.YtnhnpfhfcbmmlaaScV
import Derived.Deep.MidRow
import Derived.Test.YtnhnpfhfcbmmlaaVtC
namespace Go.Proofs.Ytnhnpfhfcbmmlaa
open Go Go.RowKit
set_option linter.unusedVariables false
set_option linter.unusedSimpArgs false

theorem infoB2 : (Try.prog.info? 61).map (fun i => (i.zero, i.size, i.bytes)) = some (some (.agg #[.int .i64 0, .int .i64 0]), 2, 16) := by kernel_rfl
def Bl.cs (b : Bl) : List Value := [.int .i64 b.n, .int .i64 b.node]
def cellsB (bs : List Bl) : List Value := bs.flatMap Bl.cs
theorem cellsB_len (bs : List Bl) : (cellsB bs).length = bs.length * 2 := by
  induction bs with
  | nil => rfl
  | cons e es ih =>
    have : cellsB (e :: es) = e.cs ++ cellsB es := rfl
    rw [this, List.length_append, ih, List.length_cons]
    simp only [Bl.cs, List.length_cons, List.length_nil]
    omega
theorem cellsB_at : ∀ {es : List Bl} {j i : Nat}, j < es.length → i < 2 → (cellsB es)[j * 2 + i]? = ((es.getD j bl0).cs)[i]?
  | [], j, i, hj, _ => by simp at hj
  | e :: es, 0, i, _, hi => by
    have : cellsB (e :: es) = e.cs ++ cellsB es := rfl
    rw [this, Nat.zero_mul, Nat.zero_add, List.getD_cons_zero]
    exact List.getElem?_append_left (by simp [Bl.cs]; omega)
  | e :: es, j + 1, i, hj, hi => by
    have h := cellsB_at (es := es) (j := j) (i := i) (by simpa using hj) hi
    have : cellsB (e :: es) = e.cs ++ cellsB es := rfl
    rw [this, List.getD_cons_succ, List.getElem?_append_right (by simp [Bl.cs]; omega), ← h]
    congr 1
    simp [Bl.cs]
    omega
theorem cellsB_one' (es : List Bl) : ∀ u ∈ cellsB es, u.oneCell' = true := by
  intro u hu
  unfold cellsB at hu
  obtain ⟨e, _, he⟩ := List.mem_flatMap.1 hu
  simp only [Bl.cs, List.mem_cons, List.not_mem_nil, or_false] at he
  rcases he with rfl | rfl <;> rfl
theorem InBl.cells {w : World} {a : Option Addr} {n c : Nat} {bs : List Bl} (h : InBl w a n c bs) : ∀ ad, a = some ad → ∀ j u, (cellsB bs)[j]? = some u → w.cell? (ad.add j) = some u := by
  intro ad ha t u hu
  have ht : t < bs.length * 2 := by rw [← cellsB_len]; exact (List.getElem?_eq_some_iff.1 hu).1
  have hl := h.len
  obtain ⟨b, off, e, hc⟩ := h.at (by omega)
  rw [e] at ha
  cases ha
  have h1 : t = t / 2 * 2 + t % 2 := by omega
  have hj : t / 2 < bs.length := by omega
  rw [h1, cellsB_at hj (by omega)] at hu
  rw [Go.WideShapes.add_plain]
  obtain ⟨k0, k1⟩ := hc (t / 2) (by omega)
  rcases (show t % 2 = 0 ∨ t % 2 = 1 by omega) with h2 | h2
  · rw [h2] at hu
    cases hu
    rw [show off + t = off + t / 2 * 2 by omega]
    exact k0
  · rw [h2] at hu
    cases hu
    rw [show off + t = off + t / 2 * 2 + 1 by omega]
    exact k1
theorem own_inBl {w : World} {B n c : Nat} {ao : Option Addr} {bs : List Bl} (h : w.ownsRow B tyB2 2 (.slice ao n c) n (cellsB bs)) (ht : ∀ b ∈ bs, TyB b) : InBl w ao n c bs := by
  have hl : bs.length = n := by have := h.1; rw [cellsB_len] at this; omega
  rcases h.2 with ⟨e, h0⟩ | ⟨g, cap, cur, e, _, hg, h1, h2, h3, h4⟩
  · simp only [Value.slice.injEq] at e
    obtain ⟨rfl, rfl, rfl⟩ := e
    exact ⟨hl, Nat.le_refl _, .inl rfl, ht⟩
  · simp only [Value.slice.injEq] at e
    obtain ⟨rfl, _, rfl⟩ := e
    have hc : ∀ t u, (cellsB bs)[t]? = some u → w.cell? ⟨g, 0 + t, none⟩ = some u := fun t u hu => by
      rw [Nat.zero_add, cell_of_row w g t _ _ _ hg, ← Array.getElem?_toList]
      rw [← h4, List.getElem?_take] at hu
      split at hu
      · exact hu
      · cases hu
    refine ⟨hl, h1, .inr ⟨g, 0, rfl, fun j hj => ?_⟩, ht⟩
    have k0 := cellsB_at (es := bs) (j := j) (i := 0) (by omega) (by omega)
    have k1 := cellsB_at (es := bs) (j := j) (i := 1) (by omega) (by omega)
    exact ⟨hc (j * 2) _ k0, hc (j * 2 + 1) _ k1⟩
theorem own_litB (w : World) (B : Nat) (hB : B ≤ w.heap.size) : (w.alloc (.cells #[] tyB2)).ownsRow B tyB2 2 (.slice (some ⟨w.heap.size, 0, none⟩) 0 0) 0 [] :=
  ⟨rfl, .inr ⟨w.heap.size, 0, _, rfl, hB, heap_alloc_new w _, Nat.le_refl _, by unfold maxLen; omega, by simp, by simp⟩⟩
theorem tch_setCells (b : Nat) : ∀ (vs : List Value) (w : World) (o : Nat), Tch (· = b) w (w.setCells b o vs)
  | [], w, o => Tch.refl _ _
  | v :: vs, w, o => (tch_set w ⟨b, o, none⟩ v).trans (tch_setCells b vs (w.setCell ⟨b, o, none⟩ v) (o + 1))
theorem own_there {w : World} {B n c size : Nat} {e : TypeId} {ao : Option Addr} {xs : List Value} (h : w.ownsRow B e size (.slice ao n c) n xs) : ∀ g, (Value.slice ao n c).ownBlock = some g → w.there g 0 (n * size) := by
  intro g hg j hj
  rcases h.2 with ⟨e1, h0⟩ | ⟨g1, cap, cur, e1, _, hb, h1, h2, h3, h4⟩
  · subst h0
    omega
  · simp only [Value.slice.injEq] at e1
    obtain ⟨rfl, _, rfl⟩ := e1
    have hgg : g1 = g := by simpa [Value.ownBlock] using hg
    subst hgg
    refine ⟨?_, frozen_of_row w g1 _ _ _ hb⟩
    rw [Nat.zero_add, cell_of_row w g1 j _ _ _ hb]
    have hjs : j < cur.size := by rw [h3]; exact Nat.lt_of_lt_of_le hj (Nat.mul_le_mul_right _ h1)
    rw [Array.getElem?_eq_getElem hjs]
    rfl
theorem there_sub {w : World} {g n : Nat} (h : w.there g 0 n) (o k : Nat) (hk : o + k ≤ n) : w.there g o k := by
  intro j hj
  have := h (o + j) (by omega)
  rwa [Nat.zero_add] at this
theorem LgK.and {a : Option Addr} {n : Nat} {vs : List Value} {K L : Nat → Prop} (h : LgK a n vs K) (h2 : LgK a n vs L) : LgK a n vs (fun k => K k ∧ L k) :=
  ⟨fun ad e hn => ⟨h.1 ad e hn, h2.1 ad e hn⟩, fun j hj ad k c e hk => ⟨h.2 j hj ad k c e hk, h2.2 j hj ad k c e hk⟩⟩
theorem LgK.mono {a : Option Addr} {n : Nat} {vs : List Value} {K L : Nat → Prop} (h : LgK a n vs K) (hk : ∀ k, K k → L k) : LgK a n vs L :=
  ⟨fun ad e hn => hk _ (h.1 ad e hn), fun j hj ad k c e h0 => hk _ (h.2 j hj ad k c e h0)⟩
abbrev zC : Array Value := #[.int .i64 0, .int .i64 0, .int .i64 0, .int .i64 0, .int .i64 0, .int .u32 0, .int .i64 0, .int .i64 0, .slice none 0 0, .int .u32 0, .int .u32 0, .bool false]
theorem infoZ : (Try.prog.info? 42).map (·.size) = some zC.size := by kernel_rfl
theorem zC_one : zC.all (·.oneCell') = true := by simp [zC, Value.oneCell']
abbrev zE : Array Value := #[.int .u32 0, .int .i64 0, .int .i64 0]
theorem infoZE : (Try.prog.info? 74).map (·.size) = some zE.size := by kernel_rfl
theorem zE_one : zE.all (·.oneCell') = true := by simp [zE, Value.oneCell']
end Go.Proofs.Ytnhnpfhfcbmmlaa
