/- The document's voter: GoodBallot, Prepare, Accept. Conditions: those stated. The document's voter: Accept. Conditions: those stated. Claim, and the document's. Conditions: those stated. -/
import Derived.Test.YtnhnpfhfcbmmlaaVuC
import Derived.Test.YtnhnpfhfcbmmlaaVfC
import Derived.Deep.RegionHeld3
import Derived.Test.YtnhnpfhfcbmmlaaVbK
import Derived.Test.YtnhnpfhfcbmmlaaVhF
import Derived.Laws.Small
import Derived.LoopTactic
namespace Go.Proofs.Ytnhnpfhfcbmmlaa
open Go Go.RowKit
set_option linter.unusedVariables false
set_option linter.unusedSimpArgs false

abbrev tyRV : TypeId := 63
abbrev rvA (node : Int) (pr ac : Bl) (v : Value) : Array Value := #[.int .i64 node, .int .i64 pr.n, .int .i64 pr.node, .int .i64 ac.n, .int .i64 ac.node, v]
def RVb (w : World) (q : Nat) (node : Int) (pr ac : Bl) (v : Value) : Prop := w.heap[q]? = some (.cells (rvA node pr ac v) tyRV (0, 0))
theorem RVb.cs {w : World} {q : Nat} {node : Int} {pr ac : Bl} {v : Value} (h : RVb w q node pr ac v) : w.cell? ⟨q, 0, none⟩ = some (.int .i64 node) ∧ w.cell? ⟨q, 1, none⟩ = some (.int .i64 pr.n) ∧ w.cell? ⟨q, 2, none⟩ = some (.int .i64 pr.node) ∧ w.cell? ⟨q, 3, none⟩ = some (.int .i64 ac.n) ∧ w.cell? ⟨q, 4, none⟩ = some (.int .i64 ac.node) ∧ w.cell? ⟨q, 5, none⟩ = some v :=
  ⟨cell_of_row w q 0 _ _ _ h, cell_of_row w q 1 _ _ _ h, cell_of_row w q 2 _ _ _ h, cell_of_row w q 3 _ _ _ h, cell_of_row w q 4 _ _ _ h, cell_of_row w q 5 _ _ _ h⟩
theorem RVb.free {w : World} {q : Nat} {node : Int} {pr ac : Bl} {v : Value} (h : RVb w q node pr ac v) (o : Nat) : w.frozen? ⟨q, o, none⟩ = false := frozen_of_row w q o _ _ h
theorem RVb.lt {w : World} {q : Nat} {node : Int} {pr ac : Bl} {v : Value} (h : RVb w q node pr ac v) : q < w.heap.size := lt_of_block h
theorem RVb.tch {T : Nat → Prop} {w w' : World} {q : Nat} {node : Int} {pr ac : Bl} {v : Value} (h : RVb w q node pr ac v) (ht : Tch T w w') (hn : ¬ T q) : RVb w' q node pr ac v := ht.at h hn
theorem RVb.later {w w' : World} {q : Nat} {node : Int} {pr ac : Bl} {v : Value} (h : RVb w q node pr ac v) (hb : Below w.heap.size w w') : RVb w' q node pr ac v := (hb.block q h.lt).trans h
theorem RVb.setPr {w : World} {q : Nat} {node : Int} {pr ac : Bl} {v : Value} (h : RVb w q node pr ac v) (b : Bl) : RVb ((w.setCell ⟨q, 1, none⟩ (.int .i64 b.n)).setCell ⟨q, 2, none⟩ (.int .i64 b.node)) q node b ac v :=
  put_row (i := 2) (put_row (i := 1) h (.int .i64 b.n)) (.int .i64 b.node)
theorem RVb.setAc {w : World} {q : Nat} {node : Int} {pr ac : Bl} {v : Value} (h : RVb w q node pr ac v) (b : Bl) : RVb ((w.setCell ⟨q, 3, none⟩ (.int .i64 b.n)).setCell ⟨q, 4, none⟩ (.int .i64 b.node)) q node pr b v :=
  put_row (i := 4) (put_row (i := 3) h (.int .i64 b.n)) (.int .i64 b.node)
theorem RVb.setLog {w : World} {q : Nat} {node : Int} {pr ac : Bl} {v : Value} (h : RVb w q node pr ac v) (u : Value) : RVb (w.setCell ⟨q, 5, none⟩ u) q node pr ac u :=
  put_row (i := 5) h u
theorem tch_two (w : World) (q i j : Nat) (x y : Value) : Tch (· = q) w ((w.setCell ⟨q, i, none⟩ x).setCell ⟨q, j, none⟩ y) := (tch_set w ⟨q, i, none⟩ x).trans (tch_set _ ⟨q, j, none⟩ y)
/-- What the document's Prepare leaves. -/
structure PrR (w : World) (q : Nat) (node : Int) (pr ac : Bl) (v : Value) (b : Bl) (e : Ending) (w' : World) : Prop where
  no : hearN b pr ≠ 0 → e = .returned (.tuple #[bl0.val, .slice none 0 0, .int .i64 (hearN b pr)]) ∧ RVb w' q node pr ac v
  yes : hearN b pr = 0 → e = .returned (.tuple #[ac.val, v, .int .i64 0]) ∧ RVb w' q node b ac v
  tch : Tch (· = q) w w'
set_option maxRecDepth 100000 in
set_option maxHeartbeats 4000000 in
theorem prepareR_c (w : World) (q : Nat) (node : Int) (pr ac : Bl) (ao : Option Addr) (n c : Nat) (b : Bl) (hb : TyB b) (h : RVb w q node pr ac (.slice ao n c)) :
    Calls Try.prog 32 #[.pointer (some ⟨q, 0, none⟩), b.val] w (PrR w q node pr ac (.slice ao n c) b) := by
  obtain ⟨w1, hw1⟩ : ∃ W, W = (w.alloc b.obj).alloc bl0.obj := ⟨_, rfl⟩
  obtain ⟨q3, hq3⟩ : ∃ p, p = w.heap.size := ⟨_, rfl⟩
  have hA : BxB w1 q3 b := by rw [hw1, hq3]; exact (bxB_new w b).later (bl_al (Below.refl _ _) _)
  have hR : BxB w1 (q3 + 1) bl0 := by
    have := bxB_new (w.alloc b.obj) bl0
    rw [World.size_alloc] at this
    rw [hw1, hq3]
    exact this
  have hb1 : Below w.heap.size w w1 := by rw [hw1]; exact bl_al (bl_al (Below.refl _ _) _) _
  have HV := Lib.hid (h.later hb1)
  have HB := Lib.hid hb1
  have HLT : Hid (q < q3) := Lib.hid (by rw [hq3]; exact h.lt)
  have HA := Lib.hid hA
  have HR := Lib.hid hR
  have HW1 := Lib.hid (And.intro hw1 hq3)
  have CG := Lib.hid (goodBallotR_c b hb w1)
  have CL := Lib.hid (fun W => lessR_c b pr W)
  have hne : ((some (⟨q, 0, none⟩ : Addr)) == none) = false := rfl
  obtain ⟨x, y⟩ := b
  obtain ⟨c0, c1⟩ := hA.at
  clear hw1 hq3 hA hR hb1 h hb
  go_enter Try.func32, Try.ntmps32
  go_upto_region 1 with fail
  rw [show (w.alloc (.cells #[.int .i64 x, .int .i64 y] tyB2)).alloc (.cells #[.int .i64 0, .int .i64 0] tyB2) = w1 from HW1.out.1.symm, ← HW1.out.2]
  go_wp2_with fail
  refine CG.out.mono ?_
  rintro e w2 ⟨rfl, hb2⟩
  have HB2 := Lib.hid (bl_tr HB.out hb2)
  have HA2 := Lib.hid (HA.out.later hb2)
  have HR2 := Lib.hid (HR.out.later hb2)
  have HV2 := Lib.hid (HV.out.later hb2)
  clear hb2 c0 c1 CG HA HR HV HB
  by_cases hok : OkB ⟨x, y⟩
  · rw [decide_eq_true hok]
    obtain ⟨c0, c1⟩ := HA2.out.at
    obtain ⟨v0, v1, v2, v3, v4, v5⟩ := HV2.out.cs
    have hS0 : w2.drew.cell? ⟨q3, 0, none⟩ = some (.int .i64 x) ∧ w2.drew.cell? ⟨q3, 1, none⟩ = some (.int .i64 y) ∧ w2.drew.cell? ⟨q, 1, none⟩ = some (.int .i64 pr.n) ∧ w2.drew.cell? ⟨q, 2, none⟩ = some (.int .i64 pr.node) := ⟨c0, c1, v1, v2⟩
    have HD := Lib.hid (show Below w2.heap.size w2 w2.drew from (Below.refl _ _).drew)
    go_upto_region 3 with fail
    go_region_held3 (fun wx => wx.cell? ⟨q3, 0, none⟩ = some (.int .i64 x) ∧ wx.cell? ⟨q3, 1, none⟩ = some (.int .i64 y) ∧ wx.cell? ⟨q, 1, none⟩ = some (.int .i64 pr.n) ∧ wx.cell? ⟨q, 2, none⟩ = some (.int .i64 pr.node)) (first | (with_reducible exact hS0) | (with_reducible assumption) | fail)
      (first
        | (go_at_call 81; (with_reducible refine (CL.out _).mono ?_); rintro e w3 ⟨rfl, hb3⟩; have hb23 := bl_tr HD.out hb3; have hS1 := (show w3.cell? ⟨q3, 0, none⟩ = some (.int .i64 x) ∧ w3.cell? ⟨q3, 1, none⟩ = some (.int .i64 y) ∧ w3.cell? ⟨q, 1, none⟩ = some (.int .i64 pr.n) ∧ w3.cell? ⟨q, 2, none⟩ = some (.int .i64 pr.node) from ⟨cell_later hb23 c0, cell_later hb23 c1, cell_later hb23 v1, cell_later hb23 v2⟩))
        | fail)
    all_goals
      have HB3 := Lib.hid (bl_tr HB2.out hb23)
      have HA3 := Lib.hid (HA2.out.later hb23)
      have HR3 := Lib.hid (HR2.out.later hb23)
      have HV3 := Lib.hid (HV2.out.later hb23)
      clear hS0 hS1 hb3 hb23 c0 c1 v0 v1 v2 v3 v4 v5 CL HD
      by_cases hlt : LtB ⟨x, y⟩ pr
      · rw [decide_eq_true hlt]
        have HN : Hid (hearN ⟨x, y⟩ pr = 8) := Lib.hid (by unfold hearN; rw [if_pos hok, if_pos hlt])
        obtain ⟨r0, r1⟩ := HR3.out.at
        have hfr := HR3.out.free
        have HF : Hid (RVb ((w3.setCell ⟨q3 + 1, 0, none⟩ (.int .i64 0)).setCell ⟨q3 + 1, 1, none⟩ (.int .i64 0)) q node pr ac (.slice ao n c) ∧ Tch (· = q) w ((w3.setCell ⟨q3 + 1, 0, none⟩ (.int .i64 0)).setCell ⟨q3 + 1, 1, none⟩ (.int .i64 0))) := Lib.hid (by
          have hT := tch_two w3 (q3 + 1) 0 1 (.int .i64 0) (.int .i64 0)
          refine ⟨HV3.out.tch hT (by have := HLT.out; omega), ?_⟩
          exact ((tch_new HB3.out).mono (fun _ h => h.elim)).trans' hT (fun k h1 h2 => by have := HW1.out.2; omega))
        clear hok hlt
        obtain ⟨W9, hW9⟩ : ∃ W, W = (w3.setCell ⟨q3 + 1, 0, none⟩ (.int .i64 0)).setCell ⟨q3 + 1, 1, none⟩ (.int .i64 0) := ⟨_, rfl⟩
        have hR9 := HR3.out.put 0 0
        rw [← hW9] at hR9 HF
        obtain ⟨y0, y1⟩ := hR9.at
        have HW9 := Lib.hid hW9
        clear hW9 hR9
        go_wp2
        rw [← HW9.out]
        refine bodyPost_ret (v := .tuple #[bl0.val, .slice none 0 0, .int .i64 8]) (by simp [results, Try.results32, go_sem, y0, y1, bl0]) rfl ?_
        exact ⟨fun _ => ⟨by rw [HN.out], HF.out.1⟩, fun h => absurd h (by rw [HN.out]; decide), HF.out.2⟩
      · rw [decide_eq_false hlt]
        have HN : Hid (hearN ⟨x, y⟩ pr = 0) := Lib.hid (by unfold hearN; rw [if_pos hok, if_neg hlt])
        obtain ⟨c0, c1⟩ := HA3.out.at
        obtain ⟨v0, v1, v2, v3, v4, v5⟩ := HV3.out.cs
        have hfv := HV3.out.free
        obtain ⟨w4, hw4⟩ : ∃ W, W = (w3.setCell ⟨q, 1, none⟩ (.int .i64 x)).setCell ⟨q, 2, none⟩ (.int .i64 y) := ⟨_, rfl⟩
        have hT4 := tch_two w3 q 1 2 (.int .i64 x) (.int .i64 y)
        rw [← hw4] at hT4
        have hV4 := HV3.out.setPr ⟨x, y⟩
        rw [← hw4] at hV4
        have HR4 := Lib.hid (hT4.at HR3.out (by have := HLT.out; omega))
        have HV4 := Lib.hid hV4
        have HT4 : Hid (Tch (· = q) w w4) := Lib.hid (((tch_new HB3.out).mono (fun _ h => h.elim)).trans hT4)
        have HW4 := Lib.hid hw4
        clear hok hlt hw4 hT4 hV4
        go_upto_region 6 with fail
        rw [← HW4.out]
        clear c0 c1 v0 v1 v2 v3 v4 v5 hfv
        obtain ⟨u, t⟩ := ac
        obtain ⟨v0, v1, v2, v3, v4, v5⟩ := HV4.out.cs
        have hR4 : BxB w4 (q3 + 1) bl0 := HR4.out
        obtain ⟨z0, z1⟩ := hR4.at
        have f0 := hR4.free 0
        have f1 := hR4.free 1
        have hS0 : w4.drew.cell? ⟨q, 3, none⟩ = some (.int .i64 u) ∧ w4.drew.cell? ⟨q, 4, none⟩ = some (.int .i64 t) ∧ w4.drew.cell? ⟨q, 5, none⟩ = some (.slice ao n c) := ⟨v3, v4, v5⟩
        have hqn : q ≠ q3 + 1 := by have := HLT.out; omega
        have hS2 := (fun (a b : Value) => (show ((w4.setCell ⟨q3 + 1, 0, none⟩ a).setCell ⟨q3 + 1, 1, none⟩ b).drew.cell? ⟨q, 3, none⟩ = some (.int .i64 u) ∧ ((w4.setCell ⟨q3 + 1, 0, none⟩ a).setCell ⟨q3 + 1, 1, none⟩ b).drew.cell? ⟨q, 4, none⟩ = some (.int .i64 t) ∧ ((w4.setCell ⟨q3 + 1, 0, none⟩ a).setCell ⟨q3 + 1, 1, none⟩ b).drew.cell? ⟨q, 5, none⟩ = some (.slice ao n c) from ⟨cell_set2 v3 hqn a b, cell_set2 v4 hqn a b, cell_set2 v5 hqn a b⟩))
        go_region_held3 (fun wx => wx.cell? ⟨q, 3, none⟩ = some (.int .i64 u) ∧ wx.cell? ⟨q, 4, none⟩ = some (.int .i64 t) ∧ wx.cell? ⟨q, 5, none⟩ = some (.slice ao n c)) (first | (with_reducible exact hS0) | (with_reducible assumption) | (with_reducible exact hS2 _ _) | fail) (fail)
        all_goals
          obtain ⟨w6, hw6⟩ : ∃ v, v = ((w4.setCell ⟨q3 + 1, 0, none⟩ (.int .i64 u)).setCell ⟨q3 + 1, 1, none⟩ (.int .i64 t)).drew := ⟨_, rfl⟩
          have hT6 : Tch (· = q3 + 1) w4 w6 := by rw [hw6]; exact (tch_two w4 (q3 + 1) 0 1 _ _).trans ((tch_new (Below.refl _ _).drew).mono (fun _ h => h.elim))
          have hA6 : BxB w6 (q3 + 1) ⟨u, t⟩ := by rw [hw6]; exact hR4.put u t
          have hV6 := HV4.out.tch hT6 hqn
          have HF : Hid (RVb w6 q node ⟨x, y⟩ ⟨u, t⟩ (.slice ao n c) ∧ Tch (· = q) w w6) := Lib.hid ⟨hV6, HT4.out.trans' hT6 (fun k h1 h2 => by have := HW1.out.2; omega)⟩
          obtain ⟨y0, y1⟩ := hA6.at
          rw [← hw6]
          clear hS0 hS2 hT6 hA6 hV6 hw6 hR4 z0 z1 f0 f1 v0 v1 v2 v3 v4 v5
          go_wp2
          refine bodyPost_ret (v := .tuple #[Bl.val ⟨u, t⟩, .slice ao n c, .int .i64 0]) (by simp [results, Try.results32, go_sem, y0, y1]) rfl ?_
          exact ⟨fun h => absurd HN.out h, fun _ => ⟨rfl, HF.out.1⟩, HF.out.2⟩
  · rw [decide_eq_false hok]
    have HN : Hid (hearN ⟨x, y⟩ pr = 9) := Lib.hid (by unfold hearN; rw [if_neg hok])
    obtain ⟨r0, r1⟩ := HR2.out.at
    have hfr := HR2.out.free
    have HF : Hid (RVb ((w2.setCell ⟨q3 + 1, 0, none⟩ (.int .i64 0)).setCell ⟨q3 + 1, 1, none⟩ (.int .i64 0)) q node pr ac (.slice ao n c) ∧ Tch (· = q) w ((w2.setCell ⟨q3 + 1, 0, none⟩ (.int .i64 0)).setCell ⟨q3 + 1, 1, none⟩ (.int .i64 0))) := Lib.hid (by
      have hT := tch_two w2 (q3 + 1) 0 1 (.int .i64 0) (.int .i64 0)
      refine ⟨HV2.out.tch hT (by have := HLT.out; omega), ?_⟩
      exact ((tch_new HB2.out).mono (fun _ h => h.elim)).trans' hT (fun k h1 h2 => by have := HW1.out.2; omega))
    clear hok
    obtain ⟨W9, hW9⟩ : ∃ W, W = (w2.setCell ⟨q3 + 1, 0, none⟩ (.int .i64 0)).setCell ⟨q3 + 1, 1, none⟩ (.int .i64 0) := ⟨_, rfl⟩
    have hR9 := HR2.out.put 0 0
    rw [← hW9] at hR9 HF
    obtain ⟨y0, y1⟩ := hR9.at
    have HW9 := Lib.hid hW9
    clear hW9 hR9
    go_wp2
    rw [← HW9.out]
    refine bodyPost_ret (v := .tuple #[bl0.val, .slice none 0 0, .int .i64 9]) (by simp [results, Try.results32, go_sem, y0, y1, bl0]) rfl ?_
    exact ⟨fun _ => ⟨by rw [HN.out], HF.out.1⟩, fun h => absurd h (by rw [HN.out]; decide), HF.out.2⟩
end Go.Proofs.Ytnhnpfhfcbmmlaa
namespace Go.Proofs.Ytnhnpfhfcbmmlaa
open Go Go.RowKit
set_option linter.unusedVariables false
set_option linter.unusedSimpArgs false

/-- The code of the document's Accept. -/
def acR (b pr : Bl) (lg : List Cm) : Int := if OkB b then (if GoodL lg then (if LtB b pr then 8 else 0) else 9) else 9
/-- What the document's Accept leaves. -/
structure AcR (w : World) (q : Nat) (node : Int) (pr ac : Bl) (v : Value) (b : Bl) (lg : List Cm) (e : Ending) (w' : World) : Prop where
  val : e = .returned (.int .i64 (acR b pr lg))
  no : acR b pr lg ≠ 0 → RVb w' q node pr ac v
  yes : acR b pr lg = 0 → ∃ ao c vs, RVb w' q node b b (.slice ao lg.length c) ∧ OwC w' w.heap.size lg ao c vs
  tch : Tch (· = q) w w'
set_option maxRecDepth 100000 in
set_option maxHeartbeats 4000000 in
theorem acceptR_c (w : World) (q : Nat) (node : Int) (pr ac : Bl) (v : Value) (b : Bl) (hb : TyB b) (h : RVb w q node pr ac v) (lg : List Cm) (us : List Value) (a : Option Addr) (n c : Nat) (hI : InC w a n c lg us) (hK : LgK a n us (· < q)) (hn : n ≤ 1048576) (hes : ∀ x ∈ lg, x.es.length ≤ 1048576) :
    Calls Try.prog 34 #[.pointer (some ⟨q, 0, none⟩), b.val, .slice a n c] w (AcR w q node pr ac v b lg) := by
  obtain ⟨w1, hw1⟩ : ∃ W, W = w.alloc b.obj := ⟨_, rfl⟩
  obtain ⟨q3, hq3⟩ : ∃ p, p = w.heap.size := ⟨_, rfl⟩
  have hA : BxB w1 q3 b := by rw [hw1, hq3]; exact bxB_new w b
  have hb1 : Below w.heap.size w w1 := by rw [hw1]; exact bl_al (Below.refl _ _) _
  have HV := Lib.hid (h.later hb1)
  have HB := Lib.hid hb1
  have HLT : Hid (q < q3) := Lib.hid (by rw [hq3]; exact h.lt)
  have HA := Lib.hid hA
  have HI := Lib.hid hI
  have HK := Lib.hid hK
  have HES := Lib.hid hes
  have HLN := Lib.hid hI.len
  have HW1 := Lib.hid (And.intro hw1 hq3)
  have CG := Lib.hid (goodBallotR_c b hb w1)
  have CL := Lib.hid (fun W => lessR_c b pr W)
  have hne : ((some (⟨q, 0, none⟩ : Addr)) == none) = false := rfl
  obtain ⟨x, y⟩ := b
  obtain ⟨c0, c1⟩ := hA.at
  clear hw1 hq3 hA hb1 h hb hI hK hes
  go_enter Try.func34, Try.ntmps34
  go_upto_region 1 with fail
  rw [show w.alloc (.cells #[.int .i64 x, .int .i64 y] tyB2) = w1 from HW1.out.1.symm, ← HW1.out.2]
  go_wp2_with fail
  refine CG.out.mono ?_
  rintro e w2 ⟨rfl, hb2⟩
  have HB2 := Lib.hid (bl_tr HB.out hb2)
  have HA2 := Lib.hid (HA.out.later hb2)
  have HV2 := Lib.hid (HV.out.later hb2)
  clear hb2 c0 c1 CG HA HV HB
  by_cases hok : OkB ⟨x, y⟩
  · rw [decide_eq_true hok]
    have CG := Lib.hid (goodLogR_c lg us a n c w2 (HI.out.below HB2.out) (by omega) (fun z hz => Nat.le_trans (HES.out z hz) (by decide)))
    have HOK := Lib.hid hok
    clear hok
    go_wp2_with fail
    refine CG.out.mono ?_
    rintro e w3 ⟨rfl, hb3⟩
    have HB3 := Lib.hid (bl_tr HB2.out hb3)
    have HA3 := Lib.hid (HA2.out.later hb3)
    have HV3 := Lib.hid (HV2.out.later hb3)
    clear hb3 CG HA2 HV2 HB2
    by_cases hg : GoodL lg
    · rw [decide_eq_true hg]
      have HG := Lib.hid hg
      obtain ⟨c0, c1⟩ := HA3.out.at
      obtain ⟨v0, v1, v2, v3, v4, v5⟩ := HV3.out.cs
      have hS0 : w3.drew.cell? ⟨q3, 0, none⟩ = some (.int .i64 x) ∧ w3.drew.cell? ⟨q3, 1, none⟩ = some (.int .i64 y) ∧ w3.drew.cell? ⟨q, 1, none⟩ = some (.int .i64 pr.n) ∧ w3.drew.cell? ⟨q, 2, none⟩ = some (.int .i64 pr.node) := ⟨c0, c1, v1, v2⟩
      have HD := Lib.hid (show Below w3.heap.size w3 w3.drew from (Below.refl _ _).drew)
      clear hg
      go_upto_region 3 with fail
      go_region_held3 (fun wx => wx.cell? ⟨q3, 0, none⟩ = some (.int .i64 x) ∧ wx.cell? ⟨q3, 1, none⟩ = some (.int .i64 y) ∧ wx.cell? ⟨q, 1, none⟩ = some (.int .i64 pr.n) ∧ wx.cell? ⟨q, 2, none⟩ = some (.int .i64 pr.node)) (first | (with_reducible exact hS0) | (with_reducible assumption) | fail)
        (first
          | (go_at_call 81; (with_reducible refine (CL.out _).mono ?_); rintro e w4 ⟨rfl, hb4⟩; have hb34 := bl_tr HD.out hb4; have hS1 := (show w4.cell? ⟨q3, 0, none⟩ = some (.int .i64 x) ∧ w4.cell? ⟨q3, 1, none⟩ = some (.int .i64 y) ∧ w4.cell? ⟨q, 1, none⟩ = some (.int .i64 pr.n) ∧ w4.cell? ⟨q, 2, none⟩ = some (.int .i64 pr.node) from ⟨cell_later hb34 c0, cell_later hb34 c1, cell_later hb34 v1, cell_later hb34 v2⟩))
          | fail)
      all_goals
        have HB4 := Lib.hid (bl_tr HB3.out hb34)
        have HA4 := Lib.hid (HA3.out.later hb34)
        have HV4 := Lib.hid (HV3.out.later hb34)
        clear hS0 hS1 hb4 hb34 c0 c1 v0 v1 v2 v3 v4 v5 CL HD HA3 HV3 HB3
        by_cases hlt : LtB ⟨x, y⟩ pr
        · rw [decide_eq_true hlt]
          have HN : Hid (acR ⟨x, y⟩ pr lg = 8) := Lib.hid (by unfold acR; rw [if_pos HOK.out, if_pos HG.out, if_pos hlt])
          have HT := Lib.hid ((tch_new HB4.out).mono (fun _ h => h.elim) : Tch (· = q) w w4)
          clear hlt
          go_wp2
          go_ret
          exact ⟨by rw [HN.out]; rfl, fun _ => HV4.out, fun h => absurd h (by rw [HN.out]; decide), HT.out⟩
        · rw [decide_eq_false hlt]
          have HN : Hid (acR ⟨x, y⟩ pr lg = 0) := Lib.hid (by unfold acR; rw [if_pos HOK.out, if_pos HG.out, if_neg hlt])
          obtain ⟨c0, c1⟩ := HA4.out.at
          obtain ⟨v0, v1, v2, v3, v4, v5⟩ := HV4.out.cs
          have hfv := HV4.out.free
          obtain ⟨w5, hw5⟩ : ∃ W, W = (w4.setCell ⟨q, 1, none⟩ (.int .i64 x)).setCell ⟨q, 2, none⟩ (.int .i64 y) := ⟨_, rfl⟩
          have hT5 := tch_two w4 q 1 2 (.int .i64 x) (.int .i64 y)
          rw [← hw5] at hT5
          have hV5 := HV4.out.setPr ⟨x, y⟩
          rw [← hw5] at hV5
          have HA5 := Lib.hid (HA4.out.tch hT5 (by have := HLT.out; omega))
          have HV5 := Lib.hid hV5
          have HT5 : Hid (Tch (· = q) w w5) := Lib.hid (((tch_new HB4.out).mono (fun _ h => h.elim)).trans hT5)
          have HW5 := Lib.hid hw5
          clear hlt hw5 hT5 hV5
          go_upto_region 6 with fail
          rw [← HW5.out]
          clear c0 c1 v0 v1 v2 v3 v4 v5 hfv
          obtain ⟨c0, c1⟩ := HA5.out.at
          obtain ⟨v0, v1, v2, v3, v4, v5⟩ := HV5.out.cs
          have hfv := HV5.out.free
          obtain ⟨w6, hw6⟩ : ∃ W, W = (w5.setCell ⟨q, 3, none⟩ (.int .i64 x)).setCell ⟨q, 4, none⟩ (.int .i64 y) := ⟨_, rfl⟩
          have hT6 := tch_two w5 q 3 4 (.int .i64 x) (.int .i64 y)
          rw [← hw6] at hT6
          have hV6 := HV5.out.setAc ⟨x, y⟩
          rw [← hw6] at hV6
          have HV6 := Lib.hid hV6
          have HT6 := Lib.hid (HT5.out.trans hT6)
          have HW6 := Lib.hid hw6
          have HI6 : Hid (InC w6 a n c lg us) := Lib.hid (HI.out.kptw (K := fun k => k < q) (fun k hk => HT6.out.block k (by have := HW1.out.2; have := HLT.out; omega) (by omega)) HK.out)
          have CP := Lib.hid (copyR_c lg us a n c w6 HI6.out hn HES.out)
          clear hw6 hT6 hV6
          go_upto_region 7 with fail
          rw [← HW6.out]
          clear c0 c1 v0 v1 v2 v3 v4 v5 hfv
          go_wp2_with fail
          refine CP.out.mono ?_
          rintro e w7 ⟨⟨ao, co, vo, rfl, hO⟩, hb7⟩
          have hV7 := HV6.out.later hb7
          obtain ⟨v0, v1, v2, v3, v4, v5⟩ := hV7.cs
          have hfv := hV7.free
          have hT8 : Tch (· = q) w7 (w7.setCell ⟨q, 5, none⟩ (.slice ao lg.length co)) := tch_set w7 ⟨q, 5, none⟩ _
          have HF : Hid (RVb (w7.setCell ⟨q, 5, none⟩ (.slice ao lg.length co)) q node ⟨x, y⟩ ⟨x, y⟩ (.slice ao lg.length co) ∧ OwC (w7.setCell ⟨q, 5, none⟩ (.slice ao lg.length co)) w.heap.size lg ao co vo ∧ Tch (· = q) w (w7.setCell ⟨q, 5, none⟩ (.slice ao lg.length co))) := Lib.hid ⟨hV7.setLog _, (hO.base HT6.out.size).one hT8 hV7 (by decide) (by decide), (HT6.out.trans ((tch_new hb7).mono (fun _ h => h.elim))).trans hT8⟩
          obtain ⟨m, hm⟩ : ∃ m, m = lg.length := ⟨_, rfl⟩
          rw [← hm] at HF ⊢
          have HM := Lib.hid hm
          clear hV7 hT8 hO hb7 CP hm
          go_wp2
          go_ret
          exact ⟨by rw [HN.out]; rfl, fun h => absurd HN.out h, fun _ => ⟨ao, co, vo, by rw [← HM.out]; exact HF.out.1, HF.out.2.1⟩, HF.out.2.2⟩
    · rw [decide_eq_false hg]
      have HN : Hid (acR ⟨x, y⟩ pr lg = 9) := Lib.hid (by unfold acR; rw [if_pos HOK.out, if_neg hg])
      have HT := Lib.hid ((tch_new HB3.out).mono (fun _ h => h.elim) : Tch (· = q) w w3)
      clear hg
      go_wp2
      go_ret
      exact ⟨by rw [HN.out]; rfl, fun _ => HV3.out, fun h => absurd h (by rw [HN.out]; decide), HT.out⟩
  · rw [decide_eq_false hok]
    have HN : Hid (acR ⟨x, y⟩ pr lg = 9) := Lib.hid (by unfold acR; rw [if_neg hok])
    have HT := Lib.hid ((tch_new HB2.out).mono (fun _ h => h.elim) : Tch (· = q) w w2)
    clear hok
    go_wp2
    go_ret
    exact ⟨by rw [HN.out]; rfl, fun _ => HV2.out, fun h => absurd h (by rw [HN.out]; decide), HT.out⟩
end Go.Proofs.Ytnhnpfhfcbmmlaa
namespace Go.Proofs.Ytnhnpfhfcbmmlaa
open Go Go.RowKit
set_option linter.unusedVariables false
set_option linter.unusedSimpArgs false

def mxB (n : Int) (bs : List Bl) : Int := bs.foldl (fun m b => max m b.n) n
theorem mxB_more (n : Int) {bs : List Bl} {i : Nat} (h : i < bs.length) : mxB n (bs.take (i + 1)) = max (mxB n (bs.take i)) (bs.getD i bl0).n := by
  rw [take_more bs bl0 h]
  simp [mxB, List.foldl_append]
theorem mxB_ty {n : Int} (hn : i64c n) {bs : List Bl} (h : ∀ b ∈ bs, TyB b) : i64c (mxB n bs) := by
  induction bs generalizing n with
  | nil => exact hn
  | cons b bs ih =>
    have hb := (h b List.mem_cons_self).1
    refine ih (n := max n b.n) ?_ (fun x hx => h x (List.mem_cons_of_mem _ hx))
    unfold i64c at *
    omega
def clmB (n node : Int) (bs : List Bl) : Bl := ⟨min (mxB n bs) 1099511627775 + 1, node⟩
theorem clmB_ty {n node : Int} (hn : i64c n) (hm : i64c node) {bs : List Bl} (h : ∀ b ∈ bs, TyB b) : TyB (clmB n node bs) := by
  have := mxB_ty hn h
  unfold i64c at this
  refine ⟨?_, hm⟩
  unfold i64c
  show _ ≤ min (mxB n bs) 1099511627775 + 1 ∧ min (mxB n bs) 1099511627775 + 1 ≤ _
  omega
set_option maxRecDepth 100000 in
set_option maxHeartbeats 4000000 in
theorem claim_c (w : World) (p s : Nat) (pr ac : Bl) (v : Value) (node : Int) (h : VOb w p pr ac v s node) (bs : List Bl) (a : Option Addr) (n c : Nat) (hI : InBl w a n c bs) (hp : i64c pr.n) (hn : n ≤ 4611686018427387904) :
    Calls Try.prog 35 #[.pointer (some ⟨p, 0, none⟩), .slice a n c] w fun e w' => e = .returned (clmB pr.n node bs).val ∧ Below w.heap.size w w' := by
  obtain ⟨w1, hw1⟩ : ∃ W, W = w.alloc bl0.obj := ⟨_, rfl⟩
  obtain ⟨q, hq⟩ : ∃ p, p = w.heap.size := ⟨_, rfl⟩
  have hA : BxB w1 q bl0 := by rw [hw1, hq]; exact bxB_new w bl0
  have hb1 : Below w.heap.size w w1 := by rw [hw1]; exact bl_al (Below.refl _ _) _
  have hV : VOb w1 p pr ac v s node := (hb1.block p h.lt).trans h
  have HV := Lib.hid hV
  have HA := Lib.hid hA
  have HB := Lib.hid hb1
  have HI := Lib.hid hI
  have HLN := Lib.hid hI.len
  have HPN := Lib.hid (mxB_ty hp hI.typ)
  have HPT := Lib.hid (fun (i : Nat) => mxB_ty hp (bs := bs.take i) (fun x hx => hI.typ x (List.mem_of_mem_take hx)))
  have HTY := Lib.hid hI.typ
  have hroom := hI.room
  have HPQ : Hid (p < q) := Lib.hid (by rw [hq]; exact h.lt)
  have HW1 := Lib.hid (And.intro hw1 hq)
  obtain ⟨c0, c1, c2, c3, c4, c5, c6⟩ := hV.cs
  have hne : ((some (⟨p, 0, none⟩ : Addr)) == none) = false := rfl
  obtain ⟨x, y⟩ := pr
  have S0 : Hid (mxB x (bs.take 0) = x) := Lib.hid rfl
  clear hw1 hq hA hb1 hV h hI hp
  go_enter Try.func35, Try.ntmps35
  go_upto_region 1 with fail
  rw [show w.alloc (.cells #[.int .i64 0, .int .i64 0] tyB2) = w1 from HW1.out.1.symm, ← HW1.out.2]
  go_wp2
  clear c0 c1 c2 c3 c4 c5 c6
  go_loopw [5, 7, 19] (fun gv _ iv wr => ∃ (i : Nat) (g : Int), i ≤ n ∧ iv = .int .i64 i ∧ gv = .int .i64 g ∧ Hid (mxB x (bs.take i) = g) ∧ Hid (Below w1.heap.size w1 wr)) (fun _ _ iv _ => n - (intOf iv).toNat)
  case atStart => exact ⟨0, x, by omega, rfl, rfl, S0, Lib.hid (Below.refl _ _)⟩
  case round =>
    obtain ⟨i, g, hi, rfl, rfl, HG, HR⟩ := hrel
    obtain ⟨w3, rfl⟩ : ∃ v, v = wr := ⟨_, rfl⟩
    clear S0
    by_cases hlt : i < n
    · have ii : (i : Int) < (n : Int) := by omega
      have i0 : (0 : Int) ≤ (i : Int) := by omega
      have ic : (i : Int) ≤ (c : Int) := by omega
      obtain ⟨bb, oo, rfl, hc⟩ := HI.out.at (by omega)
      obtain ⟨k0, k1⟩ := ((HI.out.below (bl_tr HB.out HR.out)).at (by omega)).elim (fun b h => h.elim (fun o h => by
        obtain ⟨e, h⟩ := h
        cases e
        exact h i hlt))
      have HM := Lib.hid (mxB_more x (bs := bs) (i := i) (by have := HLN.out; omega))
      obtain ⟨z, hz⟩ : ∃ z, z = bs.getD i bl0 := ⟨_, rfl⟩
      rw [← hz] at k0 k1 HM
      obtain ⟨z0, z1⟩ := z
      obtain ⟨g2, hg2⟩ : ∃ g2, g2 = max g z0 := ⟨_, rfl⟩
      have hmax : ∀ (ts : Array TypeId) (ty : TypeId) (V : World), (Builtin.max_ ts ty #[.int .i64 g, .int .i64 z0]).run Try.prog V = .ok (.int .i64 g2) V := by
        intro ts ty V
        rw [run_max_int2, hg2, show (if z0 > g then z0 else g) = max g z0 by split <;> omega]
      have HG2 : Hid (mxB x (bs.take (i + 1)) = g2) := Lib.hid (by rw [HM.out, HG.out, hg2])
      obtain ⟨w4, hw4⟩ : ∃ W, W = w3.alloc (.cells #[.int .i64 z0, .int .i64 z1] tyB2) := ⟨_, rfl⟩
      have hE := bxB_new w3 ⟨z0, z1⟩
      rw [show w3.alloc (Bl.obj ⟨z0, z1⟩) = w4 from hw4.symm] at hE
      obtain ⟨q4, hq4⟩ : ∃ q, q = w3.heap.size := ⟨_, rfl⟩
      rw [← hq4] at hE
      have HW4 := Lib.hid (And.intro hw4 hq4)
      have HR4 : Hid (Below w1.heap.size w1 w4) := Lib.hid (bl_tr HR.out (by rw [hw4]; exact bl_al (Below.refl _ _) _))
      obtain ⟨e0, e1⟩ := hE.at
      clear hz hg2 hc hw4 hq4 hE HM HG HR
      go_upto_region 7 with fail
      rw [show w3.alloc (.cells #[.int .i64 z0, .int .i64 z1] tyB2) = w4 from HW4.out.1.symm, ← HW4.out.2]
      clear k0 k1
      go_wp2
      go_roundw
      case rel => exact ⟨i + 1, g2, by omega, by go_num, rfl, HG2, HR4⟩
      case measure => simp [intOf]; omega
    · have ii : ¬ (i : Int) < (n : Int) := by omega
      obtain rfl : i = n := by omega
      have HG2 : Hid (mxB x bs = g) := Lib.hid (by have := HG.out; rwa [List.take_of_length_le (by rw [HLN.out]; exact Nat.le_refl _)] at this)
      have hgt : -9223372036854775808 ≤ g ∧ g ≤ 9223372036854775807 := by have := HPN.out; rw [HG2.out] at this; exact this
      obtain ⟨g2, hg2⟩ : ∃ g2, g2 = min g 1099511627775 := ⟨_, rfl⟩
      have hmin : ∀ (ts : Array TypeId) (ty : TypeId) (V : World), (Builtin.min_ ts ty #[.int .i64 g, .int .i64 1099511627775]).run Try.prog V = .ok (.int .i64 g2) V := by
        intro ts ty V
        rw [run_min_int2, hg2, show (if (1099511627775 : Int) < g then (1099511627775 : Int) else g) = min g 1099511627775 by split <;> omega]
      have hg2b : -9223372036854775808 ≤ g2 ∧ g2 ≤ 1099511627775 := by omega
      obtain ⟨g3, hg3⟩ : ∃ g3, g3 = g2 + 1 := ⟨_, rfl⟩
      have vg : ∀ [Inhabited Nat], IntKind.i64.wrap (g2 + 1) = g3 := by intro _; rw [IntWalk.i64_in _ (by omega)]; exact hg3.symm
      have vg2 : wrap64 (g2 + 1) = g3 := by unfold wrap64; omega
      have hV3 : VOb w3 p ⟨x, y⟩ ac v s node := (HR.out.block p HV.out.lt).trans HV.out
      obtain ⟨c0, c1, c2, c3, c4, c5, c6⟩ := hV3.cs
      have hA3 := HA.out.later HR.out
      obtain ⟨z0, z1⟩ := hA3.at
      have f0 := hA3.free 0
      have f1 := hA3.free 1
      have HCL : Hid (clmB x node bs = ⟨g3, node⟩) := Lib.hid (by unfold clmB; rw [HG2.out, hg3, hg2])
      obtain ⟨w9, hw9⟩ : ∃ W, W = (w3.setCell ⟨q, 0, none⟩ (.int .i64 g3)).setCell ⟨q, 1, none⟩ (.int .i64 node) := ⟨_, rfl⟩
      have hA9 := hA3.put g3 node
      rw [← hw9] at hA9
      have HA9 := Lib.hid hA9
      have HW9 := Lib.hid hw9
      have HB9 : Hid (Below w.heap.size w w9) := Lib.hid (by
        rw [hw9]
        exact bl_set (bl_set (bl_tr HB.out HR.out) (by have := HW1.out.2; omega) _) (by have := HW1.out.2; omega) _)
      clear hg2 hg2b hg3 hV3 hA3 hw9 hA9 HG HR HG2 hgt
      go_wp2
      first | rw [← HW9.out] | trace_state
      obtain ⟨y0, y1⟩ := HA9.out.at
      refine bodyPost_ret (v := Bl.val ⟨g3, node⟩) (by simp [results, Try.results35, go_sem, y0, y1]) rfl ?_
      exact ⟨by rw [HCL.out], HB9.out⟩
set_option maxRecDepth 100000 in
set_option maxHeartbeats 4000000 in
theorem claimR_c (w : World) (q0 : Nat) (node : Int) (pr ac : Bl) (v : Value) (h : RVb w q0 node pr ac v) (bs : List Bl) (a : Option Addr) (n c : Nat) (hI : InBl w a n c bs) (hp : i64c pr.n) (hn : n ≤ 4611686018427387904) :
    Calls Try.prog 36 #[.pointer (some ⟨q0, 0, none⟩), .slice a n c] w fun e w' => e = .returned (clmB pr.n node bs).val ∧ Below w.heap.size w w' := by
  obtain ⟨w1, hw1⟩ : ∃ W, W = w.alloc bl0.obj := ⟨_, rfl⟩
  obtain ⟨q, hq⟩ : ∃ p, p = w.heap.size := ⟨_, rfl⟩
  have hA : BxB w1 q bl0 := by rw [hw1, hq]; exact bxB_new w bl0
  have hb1 : Below w.heap.size w w1 := by rw [hw1]; exact bl_al (Below.refl _ _) _
  have hV := h.later hb1
  have HA := Lib.hid hA
  have HB := Lib.hid hb1
  have hI1 := hI.below hb1
  have HLN := Lib.hid hI.len
  have HPN := Lib.hid (mxB_ty hp hI.typ)
  have hroom := hI.room
  have HW1 := Lib.hid (And.intro hw1 hq)
  have HI := Lib.hid hI1
  obtain ⟨c0, c1, c2, c3, c4, c5⟩ := hV.cs
  have HV := Lib.hid hV
  have hne : ((some (⟨q0, 0, none⟩ : Addr)) == none) = false := rfl
  obtain ⟨x, y⟩ := pr
  have S0 : Hid (mxB x (bs.take 0) = x) := Lib.hid rfl
  clear hw1 hq hA hb1 hV h hI hI1 hp
  go_enter Try.func36, Try.ntmps36
  go_upto_region 1 with fail
  rw [show w.alloc (.cells #[.int .i64 0, .int .i64 0] tyB2) = w1 from HW1.out.1.symm, ← HW1.out.2]
  go_wp2
  clear c0 c1 c2 c3 c4 c5
  go_loopw [5, 6] (fun gv iv wr => ∃ (i : Nat) (g : Int), i ≤ n ∧ iv = .int .i64 i ∧ gv = .int .i64 g ∧ Hid (mxB x (bs.take i) = g) ∧ Hid (Below w1.heap.size w1 wr)) (fun _ iv _ => n - (intOf iv).toNat)
  case atStart => exact ⟨0, x, by omega, rfl, rfl, S0, Lib.hid (Below.refl _ _)⟩
  case round =>
    obtain ⟨i, g, hi, rfl, rfl, HG, HR⟩ := hrel
    obtain ⟨w3, rfl⟩ : ∃ v, v = wr := ⟨_, rfl⟩
    clear S0
    by_cases hlt : i < n
    · have ii : (i : Int) < (n : Int) := by omega
      have i0 : (0 : Int) ≤ (i : Int) := by omega
      have ic : (i : Int) ≤ (c : Int) := by omega
      obtain ⟨bb, oo, rfl, hc⟩ := HI.out.at (by omega)
      obtain ⟨k0, k1⟩ := ((HI.out.below HR.out).at (by omega)).elim (fun b h => h.elim (fun o h => by
        obtain ⟨e, h⟩ := h
        cases e
        exact h i hlt))
      have HM := Lib.hid (mxB_more x (bs := bs) (i := i) (by have := HLN.out; omega))
      obtain ⟨z, hz⟩ : ∃ z, z = bs.getD i bl0 := ⟨_, rfl⟩
      rw [← hz] at k0 k1 HM
      obtain ⟨z0, z1⟩ := z
      clear hz hc
      by_cases hgz : g < z0
      · have HG2 : Hid (mxB x (bs.take (i + 1)) = z0) := Lib.hid (by rw [HM.out, HG.out]; show max g z0 = z0; omega)
        clear HM HG
        go_wp2
        go_roundw
        case rel => exact ⟨i + 1, z0, by omega, by go_num, rfl, HG2, HR⟩
        case measure => simp [intOf]; omega
      · have HG2 : Hid (mxB x (bs.take (i + 1)) = g) := Lib.hid (by rw [HM.out, HG.out]; show max g z0 = g; omega)
        clear HM HG
        go_wp2
        go_roundw
        case rel => exact ⟨i + 1, g, by omega, by go_num, rfl, HG2, HR⟩
        case measure => simp [intOf]; omega
    · have ii : ¬ (i : Int) < (n : Int) := by omega
      obtain rfl : i = n := by omega
      have HG2 : Hid (mxB x bs = g) := Lib.hid (by have := HG.out; rwa [List.take_of_length_le (by rw [HLN.out]; exact Nat.le_refl _)] at this)
      have hgt : -9223372036854775808 ≤ g ∧ g ≤ 9223372036854775807 := by have := HPN.out; rw [HG2.out] at this; exact this
      have hV3 := HV.out.later HR.out
      obtain ⟨c0, c1, c2, c3, c4, c5⟩ := hV3.cs
      have hA3 := HA.out.later HR.out
      obtain ⟨z0, z1⟩ := hA3.at
      have f0 := hA3.free 0
      have f1 := hA3.free 1
      have hbel := bl_tr HB.out HR.out
      by_cases hbig : 1099511627776 ≤ g
      · have HCL : Hid (clmB x node bs = ⟨1099511627776, node⟩) := Lib.hid (by unfold clmB; rw [HG2.out, show min g 1099511627775 + 1 = 1099511627776 by omega])
        obtain ⟨w9, hw9⟩ : ∃ W, W = (w3.setCell ⟨q, 0, none⟩ (.int .i64 1099511627776)).setCell ⟨q, 1, none⟩ (.int .i64 node) := ⟨_, rfl⟩
        have hA9 := hA3.put 1099511627776 node
        rw [← hw9] at hA9
        have HA9 := Lib.hid hA9
        have HW9 := Lib.hid hw9
        have HB9 : Hid (Below w.heap.size w w9) := Lib.hid (by
          rw [hw9]
          exact bl_set (bl_set hbel (by have := HW1.out.2; omega) _) (by have := HW1.out.2; omega) _)
        clear hV3 hA3 hw9 hA9 HG HR HG2 hgt hbel
        go_wp2
        first | rw [← HW9.out] | trace_state
        obtain ⟨y0, y1⟩ := HA9.out.at
        refine bodyPost_ret (v := Bl.val ⟨1099511627776, node⟩) (by simp [results, Try.results36, go_sem, y0, y1]) rfl ?_
        exact ⟨by rw [HCL.out], HB9.out⟩
      · obtain ⟨g3, hg3⟩ : ∃ g3, g3 = g + 1 := ⟨_, rfl⟩
        have vg : ∀ [Inhabited Nat], IntKind.i64.wrap (g + 1) = g3 := by intro _; rw [IntWalk.i64_in _ (by omega)]; exact hg3.symm
        have vg2 : wrap64 (g + 1) = g3 := by unfold wrap64; omega
        have HCL : Hid (clmB x node bs = ⟨g3, node⟩) := Lib.hid (by unfold clmB; rw [HG2.out, hg3, show min g 1099511627775 = g by omega])
        obtain ⟨w9, hw9⟩ : ∃ W, W = (w3.setCell ⟨q, 0, none⟩ (.int .i64 g3)).setCell ⟨q, 1, none⟩ (.int .i64 node) := ⟨_, rfl⟩
        have hA9 := hA3.put g3 node
        rw [← hw9] at hA9
        have HA9 := Lib.hid hA9
        have HW9 := Lib.hid hw9
        have HB9 : Hid (Below w.heap.size w w9) := Lib.hid (by
          rw [hw9]
          exact bl_set (bl_set hbel (by have := HW1.out.2; omega) _) (by have := HW1.out.2; omega) _)
        clear hg3 hV3 hA3 hw9 hA9 HG HR HG2 hgt hbel
        go_wp2
        first | rw [← HW9.out] | trace_state
        obtain ⟨y0, y1⟩ := HA9.out.at
        refine bodyPost_ret (v := Bl.val ⟨g3, node⟩) (by simp [results, Try.results36, go_sem, y0, y1]) rfl ?_
        exact ⟨by rw [HCL.out], HB9.out⟩
end Go.Proofs.Ytnhnpfhfcbmmlaa
