/- slices.BinarySearchFunc by byBlock, slices.Grow of nil, slices.Concat of three rows. Conditions: the rows came in; the list searched is in form. -/
import Derived.Test.YtanajblldlgalaaDoorLdC
import Derived.Test.YtanajblldlgalaaDoorLdP
import Derived.Deep.LoopGhost
namespace Go.Proofs.YtanajblldlgalaaDoor
open Go Go.RowKit
set_option linter.unusedVariables false
set_option linter.unusedSimpArgs false

/-- Where a lease's block has its place. -/
def At12 (x : Ls) (l : List Ls) (i : Nat) : Prop := i ≤ l.length ∧ (∀ t, t < i → ltL (l.getD t ls0) x = true) ∧ (∀ t, i ≤ t → t < l.length → ltL (l.getD t ls0) x = false)
def foundL (x : Ls) (l : List Ls) (i : Nat) : Bool := decide (i < l.length) && sameK (l.getD i ls0) x
theorem mono12 {x : Ls} {l : List Ls} (h : l.Pairwise (fun a b => ltL a b = true)) {a b : Nat} (hab : a ≤ b) (hb : b < l.length) (hl : ltL (l.getD b ls0) x = true) : ltL (l.getD a ls0) x = true := by
  by_cases e : a = b
  · rw [e]; exact hl
  · have h1 := List.pairwise_iff_getElem.1 h a b (by omega) hb (by omega)
    rw [List.getD_eq_getElem?_getD, List.getElem?_eq_getElem hb] at hl
    rw [List.getD_eq_getElem?_getD, List.getElem?_eq_getElem (by omega)]
    exact ltL_tr h1 hl
theorem up12 {x : Ls} {l : List Ls} (h : l.Pairwise (fun a b => ltL a b = true)) {k : Nat} (hk : k < l.length) (hl : ltL (l.getD k ls0) x = true) : ∀ t, t < k + 1 → ltL (l.getD t ls0) x = true := fun t ht => mono12 h (by omega) hk hl
theorem dn12 {x : Ls} {l : List Ls} (h : l.Pairwise (fun a b => ltL a b = true)) {k : Nat} (hl : ltL (l.getD k ls0) x = false) : ∀ t, k ≤ t → t < l.length → ltL (l.getD t ls0) x = false := fun t h1 h2 => by
  cases hz : ltL (l.getD t ls0) x with
  | false => rfl
  | true =>
    rw [mono12 h h1 h2 hz] at hl
    cases hl
theorem keep8 {w W : World} {b o q : Nat} {u0 u1 u2 u3 v0 v1 v2 v3 : Value} (h : (w.cell? ⟨b, o, none⟩ = some u0 ∧ w.cell? ⟨b, o + 1, none⟩ = some u1 ∧ w.cell? ⟨b, o + 2, none⟩ = some u2 ∧ w.cell? ⟨b, o + 3, none⟩ = some u3) ∧ w.cell? ⟨q, 0, none⟩ = some v0 ∧ w.cell? ⟨q, 1, none⟩ = some v1 ∧ w.cell? ⟨q, 2, none⟩ = some v2 ∧ w.cell? ⟨q, 3, none⟩ = some v3) (hb : Below w.heap.size w W) :
    (W.cell? ⟨b, o, none⟩ = some u0 ∧ W.cell? ⟨b, o + 1, none⟩ = some u1 ∧ W.cell? ⟨b, o + 2, none⟩ = some u2 ∧ W.cell? ⟨b, o + 3, none⟩ = some u3) ∧ W.cell? ⟨q, 0, none⟩ = some v0 ∧ W.cell? ⟨q, 1, none⟩ = some v1 ∧ W.cell? ⟨q, 2, none⟩ = some v2 ∧ W.cell? ⟨q, 3, none⟩ = some v3 := by
  have hk : ∀ {p : Addr} {u : Value}, w.cell? p = some u → W.cell? p = some u := fun {p u} hc => (hb.cell (p := p) (block_lt_of_cell hc)).trans hc
  exact ⟨⟨hk h.1.1, hk h.1.2.1, hk h.1.2.2.1, hk h.1.2.2.2⟩, hk h.2.1, hk h.2.2.1, hk h.2.2.2.1, hk h.2.2.2.2⟩
set_option maxRecDepth 100000 in
set_option maxHeartbeats 4000000 in
theorem bsearch_c (x : Ls) (l : List Ls) (a : Option Addr) (n c : Nat) (w : World) (hI : InL w a n c l) (hn : n ≤ 1048576) (hs : l.Pairwise (fun a b => ltL a b = true)) :
    Calls Tryd.prog 55 #[.slice a n c, x.val, .func (.func 41) #[] #[]] w fun e w' => (∃ i : Nat, e = .returned (.tuple #[.int .i64 i, .bool (foundL x l i)]) ∧ At12 x l i) ∧ Below w.heap.size w w' := by
  have hlen := hI.len
  obtain ⟨W, q, hW, hq, hA, hbW, hq4⟩ := boxed w x
  have HI := Lib.hid (hI.below hbW)
  have HA := Lib.hid hA
  have HBW := Lib.hid hbW
  have HS := Lib.hid hs
  have HW := Lib.hid (And.intro hW hq)
  have HQ := Lib.hid hq4
  have HC := Lib.hid (fun y W => byBlock_c y x W)
  have R0 : Hid ((∀ t, t < 0 → ltL (l.getD t ls0) x = true) ∧ (∀ t, n ≤ t → t < l.length → ltL (l.getD t ls0) x = false)) := Lib.hid ⟨fun t h => absurd h (Nat.not_lt_zero _), fun t h1 h2 => by omega⟩
  obtain ⟨x0, x1, x2, x3⟩ := x
  clear hW hq hA hbW hq4 hI hs
  go_enter Tryd.func55, Tryd.ntmps55
  go_upto_region 1 with fail
  rw [show w.alloc (.cells #[.int .u32 x0, .int .i64 x1, .int .u32 x2, .int .i64 x3] tyL) = W from HW.out.1.symm, ← HW.out.2]
  go_wp2
  go_loopg [9, 10] n (fun kx s9 s10 wr => ∃ lo hi : Nat, s9 = .int .i64 lo ∧ s10 = .int .i64 hi ∧ lo ≤ hi ∧ hi ≤ n ∧ hi - lo ≤ kx ∧ Hid (Below W.heap.size W wr) ∧ Hid ((∀ t, t < lo → ltL (l.getD t ls0) ⟨x0, x1, x2, x3⟩ = true) ∧ (∀ t, hi ≤ t → t < l.length → ltL (l.getD t ls0) ⟨x0, x1, x2, x3⟩ = false)))
  case atStart => exact ⟨0, n, rfl, rfl, Nat.zero_le _, Nat.le_refl _, by omega, Lib.hid (Below.refl _ _), R0⟩
  case round =>
    obtain ⟨lo, hi, rfl, rfl, hlh, hin, hg, HB, HR⟩ := hrel
    obtain ⟨w2, rfl⟩ : ∃ v, v = wr := ⟨_, rfl⟩
    clear R0
    obtain ⟨a0, a1, a2, a3⟩ := HA.out.below HB.out HQ.out
    by_cases hlt : lo < hi
    · obtain ⟨h, hh⟩ : ∃ h, h = (lo + hi) / 2 := ⟨_, rfl⟩
      have h1 : lo ≤ h := by omega
      have h2 : h < hi := by omega
      have hdiv : ((lo : Int) + (hi : Int)) / 2 = (h : Int) := by omega
      have hl1 : (lo : Int) < (hi : Int) := by omega
      have l0 : (0 : Int) ≤ (lo : Int) := by omega
      have l1 : (0 : Int) ≤ (hi : Int) := by omega
      have l2 : (0 : Int) ≤ (h : Int) := by omega
      have l3 : (h : Int) < (n : Int) := by omega
      obtain ⟨b, off, rfl⟩ := HI.out.block (by omega)
      obtain ⟨c0, c1, c2, c3⟩ := (HI.out.below HB.out).cell (j := h) (by omega)
      have HY1 := Lib.hid (fun e => up12 (x := ⟨x0, x1, x2, x3⟩) HS.out (k := h) (by omega) e)
      have HY2 := Lib.hid (fun e => dn12 (x := ⟨x0, x1, x2, x3⟩) HS.out (k := h) e)
      obtain ⟨y, hy⟩ : ∃ y, y = l.getD h ls0 := ⟨_, rfl⟩
      rw [← hy] at c0 c1 c2 c3 HY1 HY2
      have CB := Lib.hid (HC.out y)
      have HLN := Lib.hid (cfL_neg y ⟨x0, x1, x2, x3⟩)
      obtain ⟨cv, hcv⟩ : ∃ cv, cv = cfL y ⟨x0, x1, x2, x3⟩ := ⟨_, rfl⟩
      rw [← hcv] at CB HLN
      obtain ⟨y0, y1, y2, y3⟩ := y
      have HD := Lib.hid hdiv
      clear hy hcv hh
      have hS0 : (w2.drew.cell? ⟨b, off + h * 4, none⟩ = some (.int .u32 y0) ∧ w2.drew.cell? ⟨b, off + h * 4 + 1, none⟩ = some (.int .i64 y1) ∧ w2.drew.cell? ⟨b, off + h * 4 + 2, none⟩ = some (.int .u32 y2) ∧ w2.drew.cell? ⟨b, off + h * 4 + 3, none⟩ = some (.int .i64 y3)) ∧ w2.drew.cell? ⟨q, 0, none⟩ = some (.int .u32 x0) ∧ w2.drew.cell? ⟨q, 1, none⟩ = some (.int .i64 x1) ∧ w2.drew.cell? ⟨q, 2, none⟩ = some (.int .u32 x2) ∧ w2.drew.cell? ⟨q, 3, none⟩ = some (.int .i64 x3) := ⟨⟨c0, c1, c2, c3⟩, a0, a1, a2, a3⟩
      go_upto_region 5 with fail
      go_region_held3 (fun wx => (wx.cell? ⟨b, off + h * 4, none⟩ = some (.int .u32 y0) ∧ wx.cell? ⟨b, off + h * 4 + 1, none⟩ = some (.int .i64 y1) ∧ wx.cell? ⟨b, off + h * 4 + 2, none⟩ = some (.int .u32 y2) ∧ wx.cell? ⟨b, off + h * 4 + 3, none⟩ = some (.int .i64 y3)) ∧ wx.cell? ⟨q, 0, none⟩ = some (.int .u32 x0) ∧ wx.cell? ⟨q, 1, none⟩ = some (.int .i64 x1) ∧ wx.cell? ⟨q, 2, none⟩ = some (.int .u32 x2) ∧ wx.cell? ⟨q, 3, none⟩ = some (.int .i64 x3)) (first | (with_reducible exact hS0) | (with_reducible exact hS1) | (with_reducible assumption) | fail)
        (first | (go_at_call 41; (with_reducible refine (CB.out _).mono ?_); rintro e w7 ⟨rfl, hb7⟩; have hS1 := keep8 hS0 hb7; have HB7 := Lib.hid (bl_tr HB.out.drew hb7); clear hb7) | fail)
      clear hS0 c0 c1 c2 c3 a0 a1 a2 a3 CB
      by_cases q : cv < 0
      · have HR2 : Hid ((∀ t, t < h + 1 → ltL (l.getD t ls0) ⟨x0, x1, x2, x3⟩ = true) ∧ (∀ t, hi ≤ t → t < l.length → ltL (l.getD t ls0) ⟨x0, x1, x2, x3⟩ = false)) := Lib.hid ⟨HY1.out (HLN.out.1 q), HR.out.2⟩
        clear HY1 HY2 HR
        go_wp2
        go_roundg (hi - (h + 1))
        case measure => omega
        case rel => exact ⟨h + 1, hi, by go_num, rfl, by omega, hin, Nat.le_refl _, HB7, HR2⟩
      · have HR2 : Hid ((∀ t, t < lo → ltL (l.getD t ls0) ⟨x0, x1, x2, x3⟩ = true) ∧ (∀ t, h ≤ t → t < l.length → ltL (l.getD t ls0) ⟨x0, x1, x2, x3⟩ = false)) := Lib.hid ⟨HR.out.1, HY2.out (Bool.eq_false_iff.2 (fun e => q (HLN.out.2 e)))⟩
        clear HY1 HY2 HR
        go_wp2
        go_roundg (h - lo)
        case measure => omega
        case rel => exact ⟨lo, h, rfl, rfl, by omega, by omega, Nat.le_refl _, HB7, HR2⟩
    · obtain rfl : hi = lo := by omega
      have hl1 : ¬ (hi : Int) < (hi : Int) := by omega
      have HA2 : Hid (At12 ⟨x0, x1, x2, x3⟩ l hi) := Lib.hid ⟨by omega, HR.out.1, HR.out.2⟩
      have l1 : (0 : Int) ≤ (hi : Int) := by omega
      clear HR
      by_cases hnn : hi < n
      · have l3 : (hi : Int) < (n : Int) := by omega
        obtain ⟨b, off, rfl⟩ := HI.out.block (by omega)
        obtain ⟨c0, c1, c2, c3⟩ := (HI.out.below HB.out).cell (j := hi) (by omega)
        have HFo : Hid (foundL ⟨x0, x1, x2, x3⟩ l hi = sameK (l.getD hi ls0) ⟨x0, x1, x2, x3⟩) := Lib.hid (by unfold foundL; rw [decide_eq_true (by omega)]; rfl)
        obtain ⟨y, hy⟩ : ∃ y, y = l.getD hi ls0 := ⟨_, rfl⟩
        rw [← hy] at c0 c1 c2 c3 HFo
        have CB := Lib.hid (HC.out y)
        have HLN := Lib.hid (cfL_zero y ⟨x0, x1, x2, x3⟩)
        obtain ⟨cv, hcv⟩ : ∃ cv, cv = cfL y ⟨x0, x1, x2, x3⟩ := ⟨_, rfl⟩
        rw [← hcv] at CB HLN
        obtain ⟨y0, y1, y2, y3⟩ := y
        clear hy hcv
        have hS0 : (w2.drew.cell? ⟨b, off + hi * 4, none⟩ = some (.int .u32 y0) ∧ w2.drew.cell? ⟨b, off + hi * 4 + 1, none⟩ = some (.int .i64 y1) ∧ w2.drew.cell? ⟨b, off + hi * 4 + 2, none⟩ = some (.int .u32 y2) ∧ w2.drew.cell? ⟨b, off + hi * 4 + 3, none⟩ = some (.int .i64 y3)) ∧ w2.drew.cell? ⟨q, 0, none⟩ = some (.int .u32 x0) ∧ w2.drew.cell? ⟨q, 1, none⟩ = some (.int .i64 x1) ∧ w2.drew.cell? ⟨q, 2, none⟩ = some (.int .u32 x2) ∧ w2.drew.cell? ⟨q, 3, none⟩ = some (.int .i64 x3) := ⟨⟨c0, c1, c2, c3⟩, a0, a1, a2, a3⟩
        go_upto_region 8 with fail
        go_region_held3 (fun wx => (wx.cell? ⟨b, off + hi * 4, none⟩ = some (.int .u32 y0) ∧ wx.cell? ⟨b, off + hi * 4 + 1, none⟩ = some (.int .i64 y1) ∧ wx.cell? ⟨b, off + hi * 4 + 2, none⟩ = some (.int .u32 y2) ∧ wx.cell? ⟨b, off + hi * 4 + 3, none⟩ = some (.int .i64 y3)) ∧ wx.cell? ⟨q, 0, none⟩ = some (.int .u32 x0) ∧ wx.cell? ⟨q, 1, none⟩ = some (.int .i64 x1) ∧ wx.cell? ⟨q, 2, none⟩ = some (.int .u32 x2) ∧ wx.cell? ⟨q, 3, none⟩ = some (.int .i64 x3)) (first | (with_reducible exact hS0) | (with_reducible exact hS1) | (with_reducible assumption) | fail)
          (first | (go_at_call 41; (with_reducible refine (CB.out _).mono ?_); rintro e w7 ⟨rfl, hb7⟩; have hS1 := keep8 hS0 hb7; have HB7 := Lib.hid (bl_tr HB.out.drew hb7); clear hb7) | fail)
        clear hS0 c0 c1 c2 c3 a0 a1 a2 a3 CB
        have HF2 : Hid (foundL ⟨x0, x1, x2, x3⟩ l hi = (cv == 0)) := Lib.hid (by
          rw [HFo.out, Bool.eq_iff_iff, ← HLN.out]
          simp)
        clear HFo
        go_wp2
        go_ret2
        exact ⟨⟨hi, by rw [HF2.out]; rfl, HA2.out⟩, HBW.out.trans (HB7.out.mono HBW.out.size)⟩
      · have l3 : ¬ (hi : Int) < (n : Int) := by omega
        have HF2 : Hid (foundL ⟨x0, x1, x2, x3⟩ l hi = false) := Lib.hid (by unfold foundL; rw [decide_eq_false (by omega)]; rfl)
        clear a0 a1 a2 a3
        go_wp2
        go_quiet (fail)
        have HB9 := Lib.hid (below_drewNT HB.out nq)
        go_wp2
        go_ret2
        exact ⟨⟨hi, by rw [HF2.out]; rfl, HA2.out⟩, HBW.out.trans (HB9.out.mono HBW.out.size)⟩
end Go.Proofs.YtanajblldlgalaaDoor
