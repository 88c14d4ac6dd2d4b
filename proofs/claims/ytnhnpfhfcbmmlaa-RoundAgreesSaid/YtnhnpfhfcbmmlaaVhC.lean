/- The document's Like, Same: of like logs. Conditions: those stated. -/
import Derived.Test.YtnhnpfhfcbmmlaaVhB
namespace Go.Proofs.Ytnhnpfhfcbmmlaa
open Go Go.RowKit
set_option linter.unusedVariables false
set_option linter.unusedSimpArgs false

theorem inC_box {w wx : World} {b n c : Nat} {x : Cm} {a : Option Addr} (hB : BxC wx b x (.slice a n c)) (hE : InE w a n c x.es) (hb : Below w.heap.size w wx) (ht : TyC x) : InC wx (some ⟨b, 0, none⟩) 1 1 [x] [.slice a n c] := by
  refine ⟨rfl, rfl, Nat.le_refl _, (fun e => by cases e), .inr ⟨b, 0, rfl, fun t u hu => ?_⟩, fun j hj => ?_, fun y hy => ?_⟩
  · rw [cellsC_one] at hu
    rw [Nat.zero_add, cell_of_row wx b t _ _ _ hB, ← Array.getElem?_toList]
    exact hu
  · obtain rfl : j = 0 := by omega
    exact ⟨a, n, c, rfl, hE.below hb⟩
  · rw [List.mem_singleton] at hy
    rw [hy]
    exact ht
theorem bytes1_c {w wx : World} {b n c : Nat} {x : Cm} {a : Option Addr} (hB : BxC wx b x (.slice a n c)) (hE : InE w a n c x.es) (hb : Below w.heap.size w wx) (ht : TyC x) (hn : n ≤ 400) :
    Calls Try.prog 60 #[.slice (some ⟨b, 0, none⟩) 1 1] wx (GotN8 wx (bytesL [x])) :=
  bytesR_c [x] [.slice a n c] _ 1 1 wx (inC_box hB hE hb ht) (by omega) (fun y hy => by rw [List.mem_singleton] at hy; rw [hy, hE.len]; exact hn)
theorem bxC_top {w1 : World} {b : Nat} {x : Cm} {v : Value} (h : b = w1.heap.size) : BxC (w1.alloc (x.obj v)) b x v := by
  rw [h]
  exact bxC_new w1 x v
theorem bxC_under {w1 : World} {b : Nat} {x : Cm} {v : Value} (o : Obj) (h : BxC w1 b x v) : BxC (w1.alloc o) b x v := h.later (bl_al (Below.refl _ _) o)
theorem bxC_drew {w1 : World} {b : Nat} {x : Cm} {v : Value} (h : BxC w1 b x v) : BxC w1.drew b x v := h
theorem bl_up {w w1 : World} (o : Obj) (h : Below w.heap.size w w1) : Below w.heap.size w (w1.alloc o) := h.alloc h.size o
theorem bl_drw {w w1 : World} (h : Below w.heap.size w w1) : Below w.heap.size w w1.drew := h.drew
set_option maxRecDepth 100000 in
set_option maxHeartbeats 8000000 in
theorem likeR_c (x : Cm) (a a2 : Option Addr) (n c n2 c2 : Nat) (w : World) (hE : InE w a n c x.es) (hF : InE w a2 n2 c2 x.es) (ht : TyC x) (hn : n ≤ 400) (hn2 : n2 ≤ 400) :
    Calls Try.prog 61 #[x.val (.slice a n c), x.val (.slice a2 n2 c2)] w fun e w' => e = .returned (.bool true) ∧ Below w.heap.size w w' := by
  obtain ⟨p, hp⟩ : ∃ p, p = w.heap.size := ⟨_, rfl⟩
  obtain ⟨W, hW⟩ : ∃ W, W = (w.alloc (x.obj (.slice a n c))).alloc (x.obj (.slice a2 n2 c2)) := ⟨_, rfl⟩
  have hA0 := bxC_new w x (.slice a n c)
  have hA := hA0.later (bl_al (Below.refl _ _) (x.obj (.slice a2 n2 c2)))
  have hB := bxC_new (w.alloc (x.obj (.slice a n c))) x (.slice a2 n2 c2)
  have hb : Below w.heap.size w W := by rw [hW]; exact bl_al (bl_al (Below.refl _ _) _) _
  rw [← hW] at hA hB
  rw [← hp] at hA
  rw [show (w.alloc (x.obj (.slice a n c))).heap.size = p + 1 by simp [hp]] at hB
  have HE := Lib.hid hE
  have HF := Lib.hid hF
  have HT := Lib.hid ht
  have HA := Lib.hid hA
  have HB := Lib.hid hB
  have HW := Lib.hid (And.intro hW hp)
  have HBW := Lib.hid hb
  clear hA0 hA hB hb hW hE hF ht hp
  go_enter Try.func61, Try.ntmps61
  go_upto_region 1 with fail
  rw [show (w.alloc (.cells #[.int .i64 x.node, .int .i64 x.boot, .int .i64 x.seq, .int .i64 x.time, .int .i64 x.kind, .int .u32 x.vip, .int .i64 x.proto, .int .i64 x.port, .slice a n c, .int .u32 x.dip, .int .u32 x.cvip, .bool x.up] tyC)).alloc (.cells #[.int .i64 x.node, .int .i64 x.boot, .int .i64 x.seq, .int .i64 x.time, .int .i64 x.kind, .int .u32 x.vip, .int .i64 x.proto, .int .i64 x.port, .slice a2 n2 c2, .int .u32 x.dip, .int .u32 x.cvip, .bool x.up] tyC) = W from HW.out.1.symm, ← HW.out.2]
  have hSK : ∀ wx, Below W.heap.size W wx → (wx.cell? ⟨p, 0, none⟩ = some (.int .i64 x.node) ∧ wx.cell? ⟨p, 1, none⟩ = some (.int .i64 x.boot) ∧ wx.cell? ⟨p, 2, none⟩ = some (.int .i64 x.seq) ∧ wx.cell? ⟨p, 3, none⟩ = some (.int .i64 x.time) ∧ wx.cell? ⟨p, 4, none⟩ = some (.int .i64 x.kind) ∧ wx.cell? ⟨p, 5, none⟩ = some (.int .u32 x.vip) ∧ wx.cell? ⟨p, 6, none⟩ = some (.int .i64 x.proto) ∧ wx.cell? ⟨p, 7, none⟩ = some (.int .i64 x.port) ∧ wx.cell? ⟨p, 8, none⟩ = some (.slice a n c) ∧ wx.cell? ⟨p, 9, none⟩ = some (.int .u32 x.dip) ∧ wx.cell? ⟨p, 10, none⟩ = some (.int .u32 x.cvip) ∧ wx.cell? ⟨p, 11, none⟩ = some (.bool x.up)) ∧ (wx.cell? ⟨p + 1, 0, none⟩ = some (.int .i64 x.node) ∧ wx.cell? ⟨p + 1, 1, none⟩ = some (.int .i64 x.boot) ∧ wx.cell? ⟨p + 1, 2, none⟩ = some (.int .i64 x.seq) ∧ wx.cell? ⟨p + 1, 3, none⟩ = some (.int .i64 x.time) ∧ wx.cell? ⟨p + 1, 4, none⟩ = some (.int .i64 x.kind) ∧ wx.cell? ⟨p + 1, 5, none⟩ = some (.int .u32 x.vip) ∧ wx.cell? ⟨p + 1, 6, none⟩ = some (.int .i64 x.proto) ∧ wx.cell? ⟨p + 1, 7, none⟩ = some (.int .i64 x.port) ∧ wx.cell? ⟨p + 1, 8, none⟩ = some (.slice a2 n2 c2) ∧ wx.cell? ⟨p + 1, 9, none⟩ = some (.int .u32 x.dip) ∧ wx.cell? ⟨p + 1, 10, none⟩ = some (.int .u32 x.cvip) ∧ wx.cell? ⟨p + 1, 11, none⟩ = some (.bool x.up)) := by
    intro wx hx
    obtain ⟨k0, k1, k2, k3, k4, k5, k6, k7, k8, k9, k10, k11⟩ := (HA.out.later hx).at.lit
    obtain ⟨d0, d1, d2, d3, d4, d5, d6, d7, d8, d9, d10, d11⟩ := (HB.out.later hx).at.lit
    exact ⟨⟨k0, k1, k2, k3, k4, k5, k6, k7, k8, k9, k10, k11⟩, d0, d1, d2, d3, d4, d5, d6, d7, d8, d9, d10, d11⟩
  have m0 := fun (wx : World) (hx : Below W.heap.size W wx) => (hSK wx hx).1.1
  have m1 := fun (wx : World) (hx : Below W.heap.size W wx) => (hSK wx hx).1.2.1
  have m2 := fun (wx : World) (hx : Below W.heap.size W wx) => (hSK wx hx).1.2.2.1
  have m3 := fun (wx : World) (hx : Below W.heap.size W wx) => (hSK wx hx).1.2.2.2.1
  have m4 := fun (wx : World) (hx : Below W.heap.size W wx) => (hSK wx hx).1.2.2.2.2.1
  have m5 := fun (wx : World) (hx : Below W.heap.size W wx) => (hSK wx hx).1.2.2.2.2.2.1
  have m6 := fun (wx : World) (hx : Below W.heap.size W wx) => (hSK wx hx).1.2.2.2.2.2.2.1
  have m7 := fun (wx : World) (hx : Below W.heap.size W wx) => (hSK wx hx).1.2.2.2.2.2.2.2.1
  have m8 := fun (wx : World) (hx : Below W.heap.size W wx) => (hSK wx hx).1.2.2.2.2.2.2.2.2.1
  have m9 := fun (wx : World) (hx : Below W.heap.size W wx) => (hSK wx hx).1.2.2.2.2.2.2.2.2.2.1
  have m10 := fun (wx : World) (hx : Below W.heap.size W wx) => (hSK wx hx).1.2.2.2.2.2.2.2.2.2.2.1
  have m11 := fun (wx : World) (hx : Below W.heap.size W wx) => (hSK wx hx).1.2.2.2.2.2.2.2.2.2.2.2
  have t0 := fun (wx : World) (hx : Below W.heap.size W wx) => (hSK wx hx).2.1
  have t1 := fun (wx : World) (hx : Below W.heap.size W wx) => (hSK wx hx).2.2.1
  have t2 := fun (wx : World) (hx : Below W.heap.size W wx) => (hSK wx hx).2.2.2.1
  have t3 := fun (wx : World) (hx : Below W.heap.size W wx) => (hSK wx hx).2.2.2.2.1
  have t4 := fun (wx : World) (hx : Below W.heap.size W wx) => (hSK wx hx).2.2.2.2.2.1
  have t5 := fun (wx : World) (hx : Below W.heap.size W wx) => (hSK wx hx).2.2.2.2.2.2.1
  have t6 := fun (wx : World) (hx : Below W.heap.size W wx) => (hSK wx hx).2.2.2.2.2.2.2.1
  have t7 := fun (wx : World) (hx : Below W.heap.size W wx) => (hSK wx hx).2.2.2.2.2.2.2.2.1
  have t8 := fun (wx : World) (hx : Below W.heap.size W wx) => (hSK wx hx).2.2.2.2.2.2.2.2.2.1
  have t9 := fun (wx : World) (hx : Below W.heap.size W wx) => (hSK wx hx).2.2.2.2.2.2.2.2.2.2.1
  have t10 := fun (wx : World) (hx : Below W.heap.size W wx) => (hSK wx hx).2.2.2.2.2.2.2.2.2.2.2.1
  have t11 := fun (wx : World) (hx : Below W.heap.size W wx) => (hSK wx hx).2.2.2.2.2.2.2.2.2.2.2.2
  have b0 : Below W.heap.size W W.drew := bl_drw (Below.refl _ _)
  have b1 := fun (o : Obj) => bl_drw (bl_up o (Below.refl W.heap.size W))
  have b2 := fun (o o2 : Obj) => bl_drw (bl_up o2 (bl_up o (Below.refl W.heap.size W)))
  clear hSK
  go_region_with (first
    | (go_at_call 60; have hmark := hbw5; (with_reducible refine (bytes1_c (x := x) (a := a) (n := n) (c := c) (w := w) (by (repeat (first | exact bxC_top (by simp; first | done | fail) | refine bxC_drew ?_ | refine bxC_under _ ?_ | refine BxC.later ?_ hb5)); first | done | fail) HE.out (bl_tr HBW.out (by (repeat (first | exact Below.refl _ _ | exact hbw5 | refine bl_drw ?_ | refine bl_up _ ?_)); first | done | fail)) HT.out hn).mono ?_); rintro e w6 ⟨⟨a6, c6, rfl, ho6⟩, hb6⟩; have hbw6 := bl_tr (show Below W.heap.size W _ from (by (repeat (first | exact Below.refl _ _ | exact hbw5 | refine bl_drw ?_ | refine bl_up _ ?_)); first | done | fail)) hb6; have q2 := (fun (wx : World) (hx : Below w6.heap.size w6 wx) => str_of (w := wx) (At.own (w := wx) (owns_bel ho6 hx)) rfl) w6 (Below.refl _ _); have q3 := cv5 w6 (bl_tr (show Below w5.heap.size w5 _ from (by (repeat (first | exact Below.refl _ _ | refine bl_up _ ?_)); first | done | fail)) hb6))
    | (go_at_call 60; have hmark := hbw5; (with_reducible refine (bytes1_c (x := x) (a := a2) (n := n2) (c := c2) (w := w) (by (repeat (first | exact bxC_top (by simp; first | done | fail) | refine bxC_drew ?_ | refine bxC_under _ ?_ | refine BxC.later ?_ hb5)); first | done | fail) HF.out (bl_tr HBW.out (by (repeat (first | exact Below.refl _ _ | exact hbw5 | refine bl_drw ?_ | refine bl_up _ ?_)); first | done | fail)) HT.out hn2).mono ?_); rintro e w6 ⟨⟨a6, c6, rfl, ho6⟩, hb6⟩; have hbw6 := bl_tr (show Below W.heap.size W _ from (by (repeat (first | exact Below.refl _ _ | exact hbw5 | refine bl_drw ?_ | refine bl_up _ ?_)); first | done | fail)) hb6; have q2 := (fun (wx : World) (hx : Below w6.heap.size w6 wx) => str_of (w := wx) (At.own (w := wx) (owns_bel ho6 hx)) rfl) w6 (Below.refl _ _); have q3 := cv5 w6 (bl_tr (show Below w5.heap.size w5 _ from (by (repeat (first | exact Below.refl _ _ | refine bl_up _ ?_)); first | done | fail)) hb6))
    | (go_at_call 60; (with_reducible refine (bytes1_c (x := x) (a := a) (n := n) (c := c) (w := w) (by (repeat (first | exact bxC_top (by simp; first | done | fail) | refine bxC_drew ?_ | refine bxC_under _ ?_ | refine BxC.later ?_ hb5)); first | done | fail) HE.out (bl_tr HBW.out (by (repeat (first | exact Below.refl _ _ | exact hbw5 | refine bl_drw ?_ | refine bl_up _ ?_)); first | done | fail)) HT.out hn).mono ?_); rintro e w5 ⟨⟨a5, c5, rfl, ho5⟩, hb5⟩; have hbw5 := bl_tr (show Below W.heap.size W _ from (by (repeat (first | exact Below.refl _ _ | refine bl_drw ?_ | refine bl_up _ ?_)); first | done | fail)) hb5; have b5 := (fun o => bl_up o hbw5); have cv5 := (fun (wx : World) (hx : Below w5.heap.size w5 wx) => str_of (w := wx) (At.own (w := wx) (owns_bel ho5 hx)) rfl); have q0 := cv5 w5 (Below.refl _ _); have q1 := (fun o => cv5 (w5.alloc o) (bl_al (Below.refl _ _) o)))
    | (go_at_call 60; (with_reducible refine (bytes1_c (x := x) (a := a2) (n := n2) (c := c2) (w := w) (by (repeat (first | exact bxC_top (by simp; first | done | fail) | refine bxC_drew ?_ | refine bxC_under _ ?_ | refine BxC.later ?_ hb5)); first | done | fail) HF.out (bl_tr HBW.out (by (repeat (first | exact Below.refl _ _ | exact hbw5 | refine bl_drw ?_ | refine bl_up _ ?_)); first | done | fail)) HT.out hn2).mono ?_); rintro e w5 ⟨⟨a5, c5, rfl, ho5⟩, hb5⟩; have hbw5 := bl_tr (show Below W.heap.size W _ from (by (repeat (first | exact Below.refl _ _ | refine bl_drw ?_ | refine bl_up _ ?_)); first | done | fail)) hb5; have b5 := (fun o => bl_up o hbw5); have cv5 := (fun (wx : World) (hx : Below w5.heap.size w5 wx) => str_of (w := wx) (At.own (w := wx) (owns_bel ho5 hx)) rfl); have q0 := cv5 w5 (Below.refl _ _); have q1 := (fun o => cv5 (w5.alloc o) (bl_al (Below.refl _ _) o)))
    | fail)
  all_goals
    have HZ := Lib.hid (bl_tr HBW.out hbw6)
    clear hbw6 ho6 hb6 hmark ho5 hb5 hbw5
    go_wp2
    go_ret
    exact ⟨rfl, HZ.out⟩
end Go.Proofs.Ytnhnpfhfcbmmlaa
