/- Rows of bytes of the call's own and that came in; strings of bytes; two rows apart. No conditions but those stated. -/
import Derived.Test.YtlmkmbpikhagiaaRow
import Derived.Deep.QuietTactic
import Derived.BigQuiet
import Derived.LoopTactic
import Derived.Test.YtlmkmbpikhagiaaByP
import Derived.WideShapes
namespace Go.Proofs.Ytlmkmbpikhagiaa
open Go Go.RowKit
set_option linter.unusedVariables false
set_option linter.unusedSimpArgs false

theorem own_in {w : World} {B n c : Nat} {ao : Option Addr} {l : List Int} (h : w.ownsRow B 5 1 (.slice ao n c) n (u8s l)) (hl : l.length = n) (hf : fit l) : In w ao n c l := by
  have hA := At.own (w := w) (B := B) (v := .slice ao n c) (l := l) (by rw [hl]; exact h)
  rcases h.2 with ⟨e, h0⟩ | ⟨g, cap, cur, e, _, _, h1, _⟩
  · simp only [Value.slice.injEq] at e
    obtain ⟨rfl, rfl, rfl⟩ := e
    exact ⟨hl, Nat.le_refl _, fun _ => rfl, hA, hf⟩
  · simp only [Value.slice.injEq] at e
    obtain ⟨rfl, _, rfl⟩ := e
    exact ⟨hl, h1, (fun e => by cases e), hA, hf⟩
theorem in_nil (w : World) : In w none 0 0 [] := ⟨rfl, Nat.le_refl _, fun _ => rfl, At.nil _ _ _, by intro b hb; cases hb⟩
theorem in_far {w w' : World} {a : Option Addr} {n c q : Nat} {l : List Int} (h : In w a n c l) (hg : w.grownBy w' (some q)) (hne : ∀ b off, a = some ⟨b, off, none⟩ → 0 < n → b ≠ q) : In w' a n c l := by
  refine ⟨h.len, h.room, h.none, ?_, h.fit⟩
  obtain ⟨a', cap', e, hA⟩ := h.here
  simp only [Value.slice.injEq] at e
  obtain ⟨rfl, _, rfl⟩ := e
  refine ⟨a, c, by rw [h.len], ?_⟩
  rcases hA with h0 | ⟨b, off, e, hc⟩
  · exact .inl h0
  · refine .inr ⟨b, off, e, fun j hj => ?_⟩
    have hn := hne b off e (by rw [← h.len]; omega)
    exact hg.cell (hc j hj) (by simp; exact hn)
theorem own_far {w w' : World} {B g n size : Nat} {e : TypeId} {v : Value} {xs : List Value} (h : w.ownsRow B e size v n xs) (hg : w.grownBy w' (some g)) (hgB : g < B) : w'.ownsRow B e size v n xs := by
  refine h.kept hg ?_
  cases hv : v.ownBlock with
  | none => exact .inl rfl
  | some k => exact .inr (fun e => by have := (h.lt k hv).1; cases e; omega)
theorem own_set {w : World} {B g cap N : Nat} {l : List Int} (h : Own w B g cap N l) (j : Nat) (x : Int) : Own (w.setCell ⟨g, j, none⟩ (.int .u8 x)) B g cap N (l.set j x) := by
  have h1 := (h.1.stored j (.int .u8 x)).1
  rw [u8s_set] at h1
  exact ⟨h1, by rw [List.length_set]; exact h.2.1, h.2.2⟩
theorem i64_of {n : Int} (h : (Lit.int .i64 n).wf = true) : -9223372036854775808 ≤ n ∧ n ≤ 9223372036854775807 := by
  simpa [Lit.wf, IntKind.min, IntKind.max, IntKind.signed, IntKind.bits] using h
theorem xor8 (x d : Int) (hx : 0 ≤ x ∧ x < 256) (hd : 0 < d ∧ d < 256) : (0 ≤ bits .xor .u8 x d ∧ bits .xor .u8 x d < 256) ∧ bits .xor .u8 x d ≠ x := by
  have h := u8_xor x d hx.1 hx.2 (by omega) hd.2
  have hl : x.toNat ^^^ d.toNat < 256 := Nat.xor_lt_two_pow (n := 8) (by omega) (by omega)
  rw [h]
  refine ⟨by omega, fun e => ?_⟩
  have e2 : x.toNat ^^^ d.toNat = x.toNat := by omega
  have e3 : x.toNat ^^^ (x.toNat ^^^ d.toNat) = x.toNat ^^^ x.toNat := by rw [e2]
  rw [← Nat.xor_assoc, Nat.xor_self, Nat.zero_xor] at e3
  omega
theorem bit8 {s : Nat} (h : s < 8) : 0 < (2 : Int) ^ s % 256 ∧ (2 : Int) ^ s % 256 < 256 := by
  have : s = 0 ∨ s = 1 ∨ s = 2 ∨ s = 3 ∨ s = 4 ∨ s = 5 ∨ s = 6 ∨ s = 7 := by omega
  rcases this with rfl | rfl | rfl | rfl | rfl | rfl | rfl | rfl <;> decide
def two (u v : Value) (i : Nat) : Value := if i = 0 then u else v
theorem owns_bel {w w' : World} {B n size : Nat} {e : TypeId} {v : Value} {xs : List Value} (h : w.ownsRow B e size v n xs) (hb : Below w.heap.size w w') : w'.ownsRow B e size v n xs := by
  refine ⟨h.1, ?_⟩
  rcases h.2 with hn | ⟨g', cap', cur, hv, h1, h2, h3⟩
  · exact .inl hn
  · exact .inr ⟨g', cap', cur, hv, h1, (hb.block g' (lt_of_block h2)).trans h2, h3⟩
theorem At.sub {w : World} {b off n c : Nat} {l : List Int} (h : At w (.slice (some ⟨b, off, none⟩) n c) l) (hn : l.length = n) (lo hi : Nat) (h1 : lo ≤ hi) (h2 : hi ≤ n) (k c2 off2 : Nat) (hk : k = hi - lo) (ho : off2 = off + lo) : At w (.slice (some ⟨b, off2, none⟩) k c2) ((l.drop lo).take k) := by
  subst hk ho
  have hl : ((l.drop lo).take (hi - lo)).length = hi - lo := by rw [List.length_take, List.length_drop]; omega
  refine ⟨_, c2, by rw [hl], ?_⟩
  obtain ⟨a', cap', e, hA⟩ := h
  simp only [Value.slice.injEq] at e
  obtain ⟨rfl, _, rfl⟩ := e
  rcases hA with h0 | ⟨b', off', e, hc⟩
  · rw [h0]; exact .inl (by simp)
  · cases e
    refine .inr ⟨b, off + lo, rfl, fun j hj => ?_⟩
    rw [hl] at hj
    rw [Nat.add_assoc, hc (lo + j) (by omega), List.getD_eq_getElem?_getD, List.getD_eq_getElem?_getD, List.getElem?_take, if_pos hj, List.getElem?_drop]
theorem fit_sub {l : List Int} (h : fit l) (lo k : Nat) : fit ((l.drop lo).take k) := fun x hx => h x (List.mem_of_mem_drop (List.mem_of_mem_take hx))
theorem in_cell {w : World} {b off n c : Nat} {l : List Int} (h : In w (some ⟨b, off, none⟩) n c l) (j : Nat) (hj : j < n) : w.cell? ⟨b, off + j, none⟩ = some (.int .u8 (l.getD j 0)) := by
  obtain ⟨a', cap', e, hA⟩ := h.here
  simp only [Value.slice.injEq] at e
  obtain ⟨rfl, _, rfl⟩ := e
  rcases hA with h0 | ⟨b', off', e, hc⟩
  · have := h.len
    rw [h0] at this
    simp at this
    omega
  · cases e
    exact hc j (by rw [h.len]; exact hj)
theorem in_block {w : World} {a : Option Addr} {n c : Nat} {l : List Int} (h : In w a n c l) (hn : 0 < n) : ∃ b off, a = some ⟨b, off, none⟩ := by
  obtain ⟨a', cap', e, h0 | ⟨b, off, ha, hc⟩⟩ := h.here
  · have := h.len; rw [h0] at this; simp at this; omega
  · simp only [Value.slice.injEq] at e
    exact ⟨b, off, by rw [e.1, ha]⟩
theorem own_lit (w : World) (l : List Int) (C : Array Value) (hC : C = (l.map (Value.int .u8)).toArray) (n B : Nat) (hn : n = l.length) (hB : B ≤ w.heap.size) (hm : n ≤ maxLen) :
    (w.alloc (.cells C 5)).ownsRow B 5 1 (.slice (some ⟨w.heap.size, 0, none⟩) n n) n (u8s l) := by
  subst hC hn
  exact ⟨by simp [u8s], .inr ⟨w.heap.size, l.length, _, rfl, hB, heap_alloc_new w _, Nat.le_refl _, hm, by simp, by simp only [u8s, Nat.mul_one]; exact List.take_of_length_le (by simp)⟩⟩
theorem str_inj : ∀ {l m : List Int}, fit l → fit m → strOfNums l = strOfNums m → l = m := by
  intro l m hl hm h
  have h2 : (strOfNums l).data.toList = (strOfNums m).data.toList := by rw [h]
  rw [strOfNums_data, strOfNums_data] at h2
  clear h
  induction l generalizing m with
  | nil => cases m with
    | nil => rfl
    | cons y m => simp at h2
  | cons x l ih => cases m with
    | nil => simp at h2
    | cons y m =>
      simp only [List.map_cons, List.cons.injEq] at h2
      have hx := hl x (by simp)
      have hy := hm y (by simp)
      have e : (UInt8.ofNat x.toNat).toNat = (UInt8.ofNat y.toNat).toNat := by rw [h2.1]
      rw [UInt8.toNat_ofNat', UInt8.toNat_ofNat', Nat.mod_eq_of_lt (by omega), Nat.mod_eq_of_lt (by omega)] at e
      rw [ih (fun b hb => hl b (by simp [hb])) (fun b hb => hm b (by simp [hb])) h2.2]
      congr 1
      omega
/-- Are two rows the same? -/
def same (l m : List Int) : Bool := decide (l = m)
theorem str_eq {l m : List Int} (hl : fit l) (hm : fit m) : ((strOfNums l).toList == (strOfNums m).toList) = same l m := by
  unfold same
  rw [ByteArray.toList_eq, ByteArray.toList_eq]
  by_cases h : l = m
  · subst h; simp
  · rw [decide_eq_false h, beq_eq_false_iff_ne]
    exact fun e => h (str_inj hl hm (Go.WideShapes.bytes_inj e))
theorem own_base {w : World} {B B' size n : Nat} {e : TypeId} {v : Value} {xs : List Value} (h : w.ownsRow B e size v n xs) (hb : B' ≤ B) : w.ownsRow B' e size v n xs :=
  ⟨h.1, h.2.imp id fun ⟨g, cap, cur, h1, h2, h3⟩ => ⟨g, cap, cur, h1, Nat.le_trans hb h2, h3⟩⟩
/-- Fewer bytes of a row of the call's own. -/
theorem own_shorter {w : World} {B n m g cap : Nat} {l : List Int} (h : w.ownsRow B 5 1 (.slice (some ⟨g, 0, none⟩) n cap) n (u8s l)) (hm : m ≤ n) : w.ownsRow B 5 1 (.slice (some ⟨g, 0, none⟩) m cap) m (u8s (l.take m)) := by
  obtain ⟨h1, h2⟩ := h
  rcases h2 with ⟨e, _⟩ | ⟨g', cap', cur, e, hb, hg, h3, h4, h5, h6⟩
  · simp at e
  · simp only [Value.slice.injEq, Option.some.injEq] at e
    obtain ⟨e1, _, rfl⟩ := e
    cases e1
    have hl : l.length = n := by simpa [u8s] using h1
    refine ⟨by simp [u8s, List.length_take]; omega, .inr ⟨g, cap, cur, rfl, hb, hg, by omega, h4, h5, ?_⟩⟩
    have : u8s (l.take m) = (u8s l).take m := by unfold u8s; rw [List.map_take]
    rw [this, ← h6, List.take_take, Nat.mul_one, Nat.mul_one, Nat.min_eq_left hm]
end Go.Proofs.Ytlmkmbpikhagiaa
