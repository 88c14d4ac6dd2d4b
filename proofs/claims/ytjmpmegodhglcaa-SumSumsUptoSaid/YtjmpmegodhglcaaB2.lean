/- A row of words that is owned: what one word changed makes of its sum, and of memory. Condition: the word lies in the row. -/
import Derived.Test.YtjmpmegodhglcaaB1
namespace Go.Proofs.Ytjmpmegodhglcaa
open Go Go.RowKit

/-- Word I becomes the bytes x, y. -/
def setw (l : List Int) (I : Nat) (x y : Int) : List Int := (l.set (2 * I) x).set (2 * I + 1) y
def wordAt (l : List Int) (I : Nat) : Int := 256 * l.getD (2 * I) 0 + l.getD (2 * I + 1) 0
theorem setw_len (l : List Int) (I : Nat) (x y : Int) : (setw l I x y).length = l.length := by unfold setw; simp
theorem ws_setw : ∀ (l : List Int) (I : Nat) (x y : Int), 2 * I + 1 < l.length → ws (setw l I x y) + wordAt l I = ws l + (256 * x + y)
  | [], _, _, _, h => by simp at h
  | [_], _, _, _, h => by simp at h
  | a :: b :: r, 0, x, y, _ => by simp [setw, wordAt, ws]; omega
  | a :: b :: r, I + 1, x, y, h => by
    have ih := ws_setw r I x y (by simp at h; omega)
    have e1 : setw (a :: b :: r) (I + 1) x y = a :: b :: setw r I x y := by
      unfold setw
      rw [show 2 * (I + 1) + 1 = (2 * I + 1) + 1 + 1 by omega, show 2 * (I + 1) = 2 * I + 1 + 1 by omega]
      rfl
    have e2 : wordAt (a :: b :: r) (I + 1) = wordAt r I := by
      unfold wordAt
      rw [show 2 * (I + 1) + 1 = (2 * I + 1) + 1 + 1 by omega, show 2 * (I + 1) = 2 * I + 1 + 1 by omega]
      rfl
    rw [e1, e2]
    simp only [ws]
    omega
theorem fit_setw {l : List Int} (hf : fit l) (I : Nat) {x y : Int} (hx : 0 ≤ x ∧ x < 256) (hy : 0 ≤ y ∧ y < 256) : fit (setw l I x y) := fit_set (fit_set hf _ hx) _ hy
theorem wordAt_set {l : List Int} {I : Nat} (x y : Int) (h : 2 * I + 1 < l.length) : wordAt (setw l I x y) I = 256 * x + y := by
  unfold wordAt setw
  simp only [List.getD_eq_getElem?_getD]
  rw [List.getElem?_set_ne (by omega), List.getElem?_set_self (by omega), List.getElem?_set_self (by simp; omega)]
  rfl
theorem wordAt_other {l : List Int} {I J : Nat} (x y : Int) (h : I ≠ J) : wordAt (setw l I x y) J = wordAt l J := by
  unfold wordAt setw
  simp only [List.getD_eq_getElem?_getD]
  rw [List.getElem?_set_ne (by omega), List.getElem?_set_ne (by omega), List.getElem?_set_ne (by omega), List.getElem?_set_ne (by omega)]
theorem wordAt_fit {l : List Int} (hf : fit l) {I : Nat} (h : 2 * I + 1 < l.length) : w16 (wordAt l I) := by
  have h1 := fit_at hf (j := 2 * I) (by omega)
  have h2 := fit_at hf h
  unfold wordAt w16
  omega
/-- A row of words in memory that the call made. -/
def Own (w : World) (B g cap N : Nat) (l : List Int) : Prop := w.ownsRow B 5 1 (.slice (some ⟨g, 0, none⟩) N cap) N (u8s l) ∧ l.length = N ∧ B ≤ g
theorem Own.word {w : World} {B g cap N : Nat} {l : List Int} (h : Own w B g cap N l) {I : Nat} (hI : 2 * I + 1 < N) :
    w.cell? ⟨g, 2 * I, none⟩ = some (.int .u8 (l.getD (2 * I) 0)) ∧ w.cell? ⟨g, 2 * I + 1, none⟩ = some (.int .u8 (l.getD (2 * I + 1) 0)) ∧ w.frozen? ⟨g, 2 * I, none⟩ = false ∧ w.frozen? ⟨g, 2 * I + 1, none⟩ = false :=
  ⟨(h.1.cellAt _ (by omega)).trans (u8s_at (by rw [h.2.1]; omega)), (h.1.cellAt _ (by omega)).trans (u8s_at (by rw [h.2.1]; omega)), h.1.frozenAt _, h.1.frozenAt _⟩
theorem Own.put {w : World} {B g cap N : Nat} {l : List Int} (h : Own w B g cap N l) (I : Nat) (x y : Int) : Own ((w.setCell ⟨g, 2 * I, none⟩ (.int .u8 x)).setCell ⟨g, 2 * I + 1, none⟩ (.int .u8 y)) B g cap N (setw l I x y) := by
  have h1 := (h.1.stored (2 * I) (.int .u8 x)).1
  have h2 := (h1.stored (2 * I + 1) (.int .u8 y)).1
  rw [u8s_set, u8s_set] at h2
  exact ⟨h2, by rw [setw_len]; exact h.2.1, h.2.2⟩
theorem Own.at {w : World} {B g cap N : Nat} {l : List Int} (h : Own w B g cap N l) : At w (.slice (some ⟨g, 0, none⟩) N cap) l := by
  have := h.1
  rw [← h.2.1] at this
  rw [← h.2.1]
  exact At.own this
theorem Own.alloc {w : World} {B g cap N : Nat} {l : List Int} (h : Own w B g cap N l) (o : Obj) : Own (w.alloc o) B g cap N l := ⟨h.1.alloc o, h.2⟩
theorem Own.drewN {w : World} {B g cap N : Nat} {l : List Int} (h : Own w B g cap N l) (n : Nat) : Own (w.drewN n) B g cap N l := ⟨h.1, h.2⟩
theorem Own.below {w w' : World} {B g cap N : Nat} {l : List Int} (h : Own w B g cap N l) (hb : Below w.heap.size w w') : Own w' B g cap N l := by
  refine ⟨⟨h.1.1, ?_⟩, h.2⟩
  rcases h.1.2 with hn | ⟨g', cap', cur, hv, h1, h2, h3⟩
  · exact .inl hn
  · exact .inr ⟨g', cap', cur, hv, h1, (hb.block g' (lt_of_block h2)).trans h2, h3⟩
theorem bl_put {B : Nat} {w w' : World} (h : Below B w w') {g : Nat} (hg : B ≤ g) (i j : Nat) (x y : Value) : Below B w ((w'.setCell ⟨g, i, none⟩ x).setCell ⟨g, j, none⟩ y) :=
  (h.setCell (p := ⟨g, i, none⟩) hg x).setCell (p := ⟨g, j, none⟩) hg y

/-- The whole of what SumRows says, in numbers. -/
theorem good_own {R : Int} (hR : 0 ≤ R) {c : Int} (hc : c = 65535 - car R) : (65535 - car (R + c) == 0) = true := by
  rw [hc, car_own hR]
  rfl
theorem good_changed {r m n c d : Int} (hr : 0 ≤ r) (hm : w16 m) (hn : w16 n) (hc : c = 65535 - car (r + m)) (hd : d = up c (m, n)) (h0 : (65535 - car (r + n) == 65535) = false) : (65535 - car (r + n + d) == 0) = true := by
  have h1 : r + n ≠ 0 := by
    intro e
    rw [e] at h0
    simp [car] at h0
  have e : d = 65535 - car (car (r + m) + (65535 - m) + n) := by
    rw [hd]
    unfold up
    rw [hc]
    simp only
    rw [show 65535 - (65535 - car (r + m)) = car (r + m) by omega]
  rw [e, car_changed hr hm hn h1]
  rfl
theorem flat1 (l : List Int) : [l].flatten = l := by simp
end Go.Proofs.Ytjmpmegodhglcaa
