/- Rows of bytes of the call's own and that came in, in worlds that have turned elsewhere; bits; packets cut. No conditions but those stated. -/
import Derived.Test.YtfbmeoiaedlgoaaNumA
import Derived.Test.YtfbmeoiaedlgoaaPkB
import Derived.Test.YtfbmeoiaedlgoaaWrC
import Derived.Test.YtfbmeoiaedlgoaaAptW
import Derived.Test.YtfbmeoiaedlgoaaRdC
namespace Go.Proofs.Ytfbmeoiaedlgoaa
open Go Go.RowKit
set_option linter.unusedVariables false
set_option linter.unusedSimpArgs false

set_option linter.unusedVariables false
set_option linter.unusedSimpArgs false

theorem is_short {l : List Int} (h : Is l) : (dec l).data.length ≤ 1480 := by
  have h1 := h.1.len
  unfold segLen at h1
  omega
set_option linter.unusedVariables false
set_option linter.unusedSimpArgs false

def flB (p q : Pk) : Bool := decide (p.proto = q.proto ∧ p.src = q.src ∧ p.sp = q.sp ∧ p.dst = q.dst ∧ p.dp = q.dp)
def sameP (p q : Pk) : Bool := (p.tos == q.tos) && ((p.id == q.id) && ((p.ttl == q.ttl) && (flB p q && ((p.seq == q.seq) && ((p.ack == q.ack) && ((p.flags == q.flags) && ((p.win == q.win) && same p.data q.data)))))))
theorem sameP_def (p q : Pk) : sameP p q = ((p.tos == q.tos) && ((p.id == q.id) && ((p.ttl == q.ttl) && (flB p q && ((p.seq == q.seq) && ((p.ack == q.ack) && ((p.flags == q.flags) && ((p.win == q.win) && same p.data q.data)))))))) := rfl
theorem sameP_self (p : Pk) : sameP p p = true := by simp [sameP, flB, same]
set_option linter.unusedVariables false
set_option linter.unusedSimpArgs false

theorem own_in {w : World} {B n c : Nat} {ao : Option Addr} {l : List Int} (h : w.ownsRow B 5 1 (.slice ao n c) n (u8s l)) (hl : l.length = n) (hf : fit l) : In w ao n c l := by
  have hA := At.own (w := w) (B := B) (v := .slice ao n c) (l := l) (by rw [hl]; exact h)
  rcases h.2 with ⟨e, h0⟩ | ⟨g, cap, cur, e, _, _, h1, _⟩
  · simp only [Value.slice.injEq] at e
    obtain ⟨rfl, rfl, rfl⟩ := e
    exact ⟨hl, Nat.le_refl _, fun _ => rfl, hA, hf⟩
  · simp only [Value.slice.injEq] at e
    obtain ⟨rfl, _, rfl⟩ := e
    exact ⟨hl, h1, (fun e => by cases e), hA, hf⟩
theorem in_nil (w : World) : In w none 0 0 [] := ⟨rfl, Nat.le_refl _, fun _ => rfl, At.nil _ _ _, by intro b hb; cases hb⟩
set_option linter.unusedVariables false
set_option linter.unusedSimpArgs false

theorem in_far {w w' : World} {a : Option Addr} {n c q : Nat} {l : List Int} (h : In w a n c l) (hg : w.grownBy w' (some q)) (hne : ∀ b off, a = some ⟨b, off, none⟩ → 0 < n → b ≠ q) : In w' a n c l := by
  refine ⟨h.len, h.room, h.none, ?_, h.fit⟩
  obtain ⟨a', cap', e, hA⟩ := h.here
  simp only [Value.slice.injEq] at e
  obtain ⟨rfl, _, rfl⟩ := e
  refine ⟨a, c, by rw [h.len], ?_⟩
  rcases hA with h0 | ⟨b, off, e, hc⟩
  · exact .inl h0
  · refine .inr ⟨b, off, e, fun j hj => ?_⟩
    have hn := hne b off e (by rw [← h.len]; omega)
    exact hg.cell (hc j hj) (by simp; exact hn)
/-- A row of bytes lies in no packet's block. -/
theorem in_ne {w : World} {a : Option Addr} {n c q : Nat} {l : List Int} (h : In w a n c l) {p : Pk} {ao : Option Addr} {k cp : Nat} (hq : w.heap[q]? = some (.cells (p.cs ao k cp) 49 (0, 0))) : ∀ b off, a = some ⟨b, off, none⟩ → 0 < n → b ≠ q := by
  rintro b off rfl hn rfl
  have h0 := in_cell h 0 hn
  rw [cell_of_row w b _ _ _ _ hq, ← Array.getElem?_toList] at h0
  have hm := List.mem_of_getElem? h0
  simp at hm
theorem own_far {w w' : World} {B g n size : Nat} {e : TypeId} {v : Value} {xs : List Value} (h : w.ownsRow B e size v n xs) (hg : w.grownBy w' (some g)) (hgB : g < B) : w'.ownsRow B e size v n xs := by
  refine h.kept hg ?_
  cases hv : v.ownBlock with
  | none => exact .inl rfl
  | some k => exact .inr (fun e => by have := (h.lt k hv).1; cases e; omega)
theorem Marked.in {w : World} {g n : Nat} {l : List Int} (h : Marked w g n l) (hn : l.length = n) (hf : fit l) : In w (some ⟨g, 0, none⟩) n (n + 2) l :=
  ⟨hn, by omega, (fun e => by cases e), h.at hn, hf⟩
theorem own_marks {w : World} {B g n : Nat} {l : List Int} (h : Own w B g (n + 2) (n + 2) (l ++ [165, 90])) (hn : l.length = n) (hf : fit l) : In w (some ⟨g, 0, none⟩) n (n + 2) l :=
  ⟨hn, by omega, (fun e => by cases e), (h.marked hn).at hn, hf⟩
theorem Marked.set {w : World} {g n : Nat} {l : List Int} (h : Marked w g n l) (p : Addr) (hp : p.block ≠ g) (v : Value) : Marked (w.setCell p v) g n l :=
  ⟨fun j hj => (World.cell?_setCell_other _ _ _ _ (fun e => hp (congrArg Addr.block e))).trans (h.1 j hj), (World.cell?_setCell_other _ _ _ _ (fun e => hp (congrArg Addr.block e))).trans h.2.1, (World.cell?_setCell_other _ _ _ _ (fun e => hp (congrArg Addr.block e))).trans h.2.2⟩
theorem PkAt.far {w w' : World} {q g : Nat} {p : Pk} {ao : Option Addr} {k cp : Nat} (h : PkAt w q p ao k cp) (hg : w.grownBy w' (some g)) (hne : q ≠ g) : PkAt w' q p ao k cp := by
  have hn : ∀ o, some (⟨q, o, none⟩ : Addr).block ≠ some g := fun o e => hne (by simpa using e)
  exact ⟨hg.cell h.c0 (hn _), hg.cell h.c1 (hn _), hg.cell h.c2 (hn _), hg.cell h.c3 (hn _), hg.cell h.c4 (hn _), hg.cell h.c5 (hn _), hg.cell h.c6 (hn _), hg.cell h.c7 (hn _), hg.cell h.c8 (hn _), hg.cell h.c9 (hn _), hg.cell h.c10 (hn _), hg.cell h.c11 (hn _), hg.cell h.c12 (hn _)⟩
set_option linter.unusedVariables false
set_option linter.unusedSimpArgs false

theorem own_set {w : World} {B g cap N : Nat} {l : List Int} (h : Own w B g cap N l) (j : Nat) (x : Int) : Own (w.setCell ⟨g, j, none⟩ (.int .u8 x)) B g cap N (l.set j x) := by
  have h1 := (h.1.stored j (.int .u8 x)).1
  rw [u8s_set] at h1
  exact ⟨h1, by rw [List.length_set]; exact h.2.1, h.2.2⟩
theorem i64_of {n : Int} (h : (Lit.int .i64 n).wf = true) : -9223372036854775808 ≤ n ∧ n ≤ 9223372036854775807 := by
  simpa [Lit.wf, IntKind.min, IntKind.max, IntKind.signed, IntKind.bits] using h
theorem same_two (w : World) : (binOp .eql 28 (errno 2) (.iface 47 (.int .i64 2))).run Try.prog w = .ok (.bool true) w := by kernel_rfl
theorem xor8 (x d : Int) (hx : 0 ≤ x ∧ x < 256) (hd : 0 < d ∧ d < 256) : (0 ≤ bits .xor .u8 x d ∧ bits .xor .u8 x d < 256) ∧ bits .xor .u8 x d ≠ x := by
  have h := u8_xor x d hx.1 hx.2 (by omega) hd.2
  have hl : x.toNat ^^^ d.toNat < 256 := Nat.xor_lt_two_pow (n := 8) (by omega) (by omega)
  rw [h]
  refine ⟨by omega, fun e => ?_⟩
  have e2 : x.toNat ^^^ d.toNat = x.toNat := by omega
  have e3 : x.toNat ^^^ (x.toNat ^^^ d.toNat) = x.toNat ^^^ x.toNat := by rw [e2]
  rw [← Nat.xor_assoc, Nat.xor_self, Nat.zero_xor] at e3
  omega
theorem bit8 {s : Nat} (h : s < 8) : 0 < (2 : Int) ^ s % 256 ∧ (2 : Int) ^ s % 256 < 256 := by
  have : s = 0 ∨ s = 1 ∨ s = 2 ∨ s = 3 ∨ s = 4 ∨ s = 5 ∨ s = 6 ∨ s = 7 := by omega
  rcases this with rfl | rfl | rfl | rfl | rfl | rfl | rfl | rfl <;> decide
set_option linter.unusedVariables false
set_option linter.unusedSimpArgs false

theorem cut_bad {l : List Int} (h : Is l) {k : Nat} (hk : k < l.length) : ¬ Is (l.take k) := by
  intro h2
  have s1 := h.size
  have s2 := h2.size
  have e : (l.take k).length = k := by rw [List.length_take]; omega
  rw [e] at s2
  have e2 : n2 (l.take k) 2 = n2 l 2 := by
    unfold n2
    simp only [List.getD_eq_getElem?_getD]
    rw [List.getElem?_take, List.getElem?_take, if_pos (by omega), if_pos (by omega)]
  rw [e2] at s2
  omega
theorem more_bad {l m : List Int} (h : Is l) (hm : 0 < m.length) : ¬ Is (l ++ m) := by
  intro h2
  have s1 := h.size
  have s2 := h2.size
  rw [List.length_append] at s2
  have e2 : n2 (l ++ m) 2 = n2 l 2 := by
    unfold n2
    simp only [List.getD_eq_getElem?_getD]
    rw [List.getElem?_append_left (by omega), List.getElem?_append_left (by omega)]
  rw [e2] at s2
  omega
def two (u v : Value) (i : Nat) : Value := if i = 0 then u else v
/-- Two rows of the call's own, one made behind the other. -/
theorem geo2 {w w2 : World} {B S n m k : Nat} {e f : TypeId} {s t : Nat} {u v : Value} {xs ys : List Value} (h1 : w.ownsRow B e s u n xs) (h2 : w2.ownsRow S f t v m ys) (hS : w.heap.size ≤ S) (hk : w2.heap.size ≤ k) (hk2 : w.heap.size ≤ k) : Geo B k 2 (two u v) := by
  constructor
  · intro i j hi hj hij
    have : (i = 0 ∧ j = 1) ∨ (i = 1 ∧ j = 0) := by omega
    rcases this with ⟨rfl, rfl⟩ | ⟨rfl, rfl⟩
    · show u.ownBlock = none ∨ u.ownBlock ≠ v.ownBlock
      cases hu : u.ownBlock with
      | none => exact .inl rfl
      | some g =>
        right
        intro e
        have := (h1.lt g hu).2
        have := (h2.lt g e.symm).1
        omega
    · show v.ownBlock = none ∨ v.ownBlock ≠ u.ownBlock
      cases hv : v.ownBlock with
      | none => exact .inl rfl
      | some g =>
        right
        intro e
        have := (h1.lt g e.symm).2
        have := (h2.lt g hv).1
        omega
  · intro i hi e
    have : i = 0 ∨ i = 1 := by omega
    rcases this with rfl | rfl
    · have := (h1.lt k e).2; omega
    · have := (h2.lt k e).2; omega
theorem owns_bel {w w' : World} {B n size : Nat} {e : TypeId} {v : Value} {xs : List Value} (h : w.ownsRow B e size v n xs) (hb : Below w.heap.size w w') : w'.ownsRow B e size v n xs := by
  refine ⟨h.1, ?_⟩
  rcases h.2 with hn | ⟨g', cap', cur, hv, h1, h2, h3⟩
  · exact .inl hn
  · exact .inr ⟨g', cap', cur, hv, h1, (hb.block g' (lt_of_block h2)).trans h2, h3⟩
end Go.Proofs.Ytfbmeoiaedlgoaa
