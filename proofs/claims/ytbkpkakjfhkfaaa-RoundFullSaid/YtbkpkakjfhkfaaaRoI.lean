/- A round: the fixed fact. Conditions: those stated. -/
import Derived.Test.YtbkpkakjfhkfaaaRoH
import Derived.Test.YtbkpkakjfhkfaaaVdC
namespace Go.Proofs.Ytbkpkakjfhkfaaa
open Go Go.RowKit
set_option linter.unusedVariables false
set_option linter.unusedSimpArgs false

def hl2 (node seq : Int) : Cm := ⟨node, 0, seq, 0, 3, 0, 0, 0, [], 167837697, 0, true⟩
set_option maxRecDepth 100000 in
set_option maxHeartbeats 4000000 in
theorem health2_c (m n : Int) (w : World) : Calls Try.prog 48 #[.int .i64 m, .int .i64 n] w fun e w' => e = .returned ((hl2 m n).val (.slice none 0 0)) ∧ Below w.heap.size w w' := by
  obtain ⟨w1, hw1⟩ : ∃ W, W = w.alloc (cm0.obj (.slice none 0 0)) := ⟨_, rfl⟩
  have hA := bxC_new w cm0 (.slice none 0 0)
  rw [← hw1] at hA
  have hb1 : Below w.heap.size w w1 := by rw [hw1]; exact bl_al (Below.refl _ _) _
  obtain ⟨p, hp⟩ : ∃ q, q = w.heap.size := ⟨_, rfl⟩
  rw [← hp] at hA
  have HW1 := Lib.hid (And.intro hw1 hp)
  obtain ⟨z0, z1, z2, z3, z4, z5, z6, z7, z8, z9, z10, z11⟩ := hA.at.lit
  have hfr := hA.free
  have hbx := stC_bx hA (hl2 m n) (.slice none 0 0)
  have hT := tch_stC (Tch.refl (· = p) w1) (hl2 m n) (.slice none 0 0)
  obtain ⟨w2, hw2⟩ : ∃ W, W = stC w1 p (hl2 m n) (.slice none 0 0) := ⟨_, rfl⟩
  rw [← hw2] at hbx hT
  have HB := Lib.hid (hb1.trans (hT.below (B := w.heap.size) (fun k hk => by omega) hb1.size))
  have HBX := Lib.hid hbx
  have HW2 := Lib.hid hw2
  clear hw1 hA hb1 hp hbx hT hw2
  go_enter Try.func48, Try.ntmps48
  go_upto_region 1 with fail
  rw [show w.alloc (.cells #[.int .i64 0, .int .i64 0, .int .i64 0, .int .i64 0, .int .i64 0, .int .u32 0, .int .i64 0, .int .i64 0, .slice none 0 0, .int .u32 0, .int .u32 0, .bool false] tyC) = w1 from HW1.out.1.symm, ← HW1.out.2]
  go_wp2
  have e18 := HW2.out
  unfold stC hl2 at e18
  simp only at e18
  rw [← e18]
  clear e18
  obtain ⟨y0, y1, y2, y3, y4, y5, y6, y7, y8, y9, y10, y11⟩ := HBX.out.at.lit
  refine bodyPost_ret (v := (hl2 m n).val (.slice none 0 0)) (by simp [results, Try.results48, go_sem, y0, y1, y2, y3, y4, y5, y6, y7, y8, y9, y10, y11]) rfl ?_
  exact ⟨rfl, HB.out⟩
theorem hl2_ty {m n : Int} (hm : i64c m) (h : i64c n) : TyC (hl2 m n) := by
  constructor
  case seq => exact h
  case node => exact hm
  case es => intro e he; cases he
  case few => show ([] : List En).length ≤ _; decide
  all_goals (unfold hl2; first | unfold i64c | unfold u32c); simp only; omega
theorem hl2_ok {m n : Int} (hm : IsMgr m) (h : IsTm n) : GoodC (hl2 m n) :=
  ⟨hm, by show IsTm 0; decide, h, by show IsTm 0; decide, .inr (.inr (.inl ⟨rfl, ⟨rfl, rfl, rfl, rfl⟩, by show IsDip 167837697; decide, rfl⟩))⟩
theorem hl2_good {m n : Int} (hm : IsMgr m) (h : IsTm n) : GoodL [hl2 m n] := by
  refine ⟨by simp, fun c hc => ?_, by simp⟩
  rw [List.mem_singleton] at hc
  rw [hc]
  exact hl2_ok hm h
theorem inC_box (w : World) (x : Cm) (hx : TyC x) (he : x.es = []) : InC (w.alloc (x.obj (.slice none 0 0))) (some ⟨w.heap.size, 0, none⟩) 1 1 [x] [.slice none 0 0] := by
  refine ⟨rfl, rfl, Nat.le_refl _, (fun e => by cases e), .inr ⟨w.heap.size, 0, rfl, fun t u hu => ?_⟩, fun j hj => ?_, fun c hc => by rw [List.mem_singleton] at hc; rw [hc]; exact hx⟩
  · rw [World.cell?_alloc_mark, Nat.zero_add]
    have : (x.arr (.slice none 0 0)) = (cellsC [x] [.slice none 0 0]).toArray := by simp [cellsC, Cm.cs]
    rw [this, List.getElem?_toArray]
    exact hu
  · obtain rfl : j = 0 := by omega
    exact ⟨none, 0, 0, rfl, by show InE _ none 0 0 x.es; rw [he]; exact inE_nil _⟩
theorem bl_eq2 (a b : Bl) (w : World) : (binOp .eql tyB2 a.val b.val).run Try.prog w = .ok (.bool (decide (a = b))) w := by
  obtain ⟨a1, a2⟩ := a
  obtain ⟨b1, b2⟩ := b
  have : decide ((⟨a1, a2⟩ : Bl) = ⟨b1, b2⟩) = decide (a1 = b1 ∧ a2 = b2) := decide_eq_decide.2 (by rw [Bl.mk.injEq])
  rw [this]
  by_cases h0 : a1 = b1
  · by_cases h1 : a2 = b2
    · go_simp
    · go_simp
  · go_simp
/-! The example, plain. -/
def x0 : Rd := newR 3 ⟨1, 16⟩ [hl2 16 1]
def x1 : Rd := { x0 with ans := [true, false, false, false, false, false, false, false] }
def x2 : Rd := { x0 with log := [hl2 16 1], stage := 2 }
def x3 : Rd := { x2 with ans := [false, false, true, false, false, false, false, false] }
def x4 : Rd := { x2 with ans := [true, false, true, false, false, false, false, false], stage := 3 }
theorem ex1 : promR x0 16 bl0 [] = x1 := by
  unfold promR
  rw [if_pos ⟨rfl, by decide, by decide⟩]
  rw [show greater (heard x0 16) bl0 [] = x1 from rfl, if_neg (by decide)]
theorem ex2 : promR x1 17 bl0 [] = x2 := by
  unfold promR
  rw [if_pos ⟨rfl, by decide, by decide⟩]
  rw [show greater (heard x1 17) bl0 [] = { x0 with ans := [true, true, false, false, false, false, false, false] } from rfl, if_pos (by decide)]
  rfl
theorem ex3 : accR x2 18 = x3 := by
  unfold accR
  rw [if_pos ⟨rfl, by decide⟩]
  rw [show heard x2 18 = x3 from rfl, if_neg (by decide)]
theorem ex4 : accR x3 16 = x4 := by
  unfold accR
  rw [if_pos ⟨rfl, by decide⟩]
  rw [show heard x3 16 = { x4 with stage := 2 } from rfl, if_pos (by decide)]
  rfl
set_option maxRecDepth 100000 in
set_option maxHeartbeats 8000000 in
theorem alive2_c (w : World) : Calls Try.prog 45 #[] w fun e w' => e = .returned (.bool true) ∧ Below w.heap.size w w' := by
  have CH := Lib.hid (health2_c 16 1 w)
  have q0 := nilEl
  have q1 := nilNe
  go_enter Try.func45, Try.ntmps45
  go_wp2_with fail
  refine CH.out.mono ?_
  rintro e w1 ⟨rfl, hb1⟩
  obtain ⟨w2, hw2⟩ : ∃ w2, w2 = w1.alloc ((hl2 16 1).obj (.slice none 0 0)) := ⟨_, rfl⟩
  have hb2 : Below w1.heap.size w1 w2 := by rw [hw2]; exact bl_al (Below.refl _ _) _
  have hI2 := inC_box w1 (hl2 16 1) (hl2_ty ⟨by decide, by decide⟩ ⟨by decide, by decide⟩) rfl
  rw [← hw2] at hI2
  have HW2 : Hid (w2 = w1.alloc (.cells #[.int .i64 (hl2 16 1).node, .int .i64 (hl2 16 1).boot, .int .i64 (hl2 16 1).seq, .int .i64 (hl2 16 1).time, .int .i64 (hl2 16 1).kind, .int .u32 (hl2 16 1).vip, .int .i64 (hl2 16 1).proto, .int .i64 (hl2 16 1).port, .slice none 0 0, .int .u32 (hl2 16 1).dip, .int .u32 (hl2 16 1).cvip, .bool (hl2 16 1).up] tyC)) := Lib.hid hw2
  have HB2 := Lib.hid (bl_tr hb1 hb2)
  have CN := Lib.hid (newR_c 3 (by decide) ⟨1, 16⟩ ⟨⟨by decide, by decide⟩, ⟨by decide, by decide⟩⟩ [hl2 16 1] _ _ 1 1 w2 hI2 (by decide) (hl2_good (by decide) (by decide)))
  clear hb1 hb2 hw2 hI2 CH
  go_wp2_with fail
  rw [← HW2.out]
  refine CN.out.mono ?_
  rintro e w3 ⟨p, rfl, hR3, hb3⟩
  have hp0 : ((some (⟨p, 0, none⟩ : Addr)) == none) = false := rfl
  have HB3 := Lib.hid (bl_tr HB2.out hb3)
  obtain ⟨a1, c1, v1, a2, c2, v2, hX3⟩ := hR3
  have CP := Lib.hid (promiseR_c w2 w3 p x0 _ _ _ _ _ _ _ 16 bl0 ⟨⟨by decide, by decide⟩, ⟨by decide, by decide⟩⟩ [] [] none 0 0 hX3 (inC_nil w3) (fun k hk => by rcases hk with ⟨ad, h, _⟩ | ⟨v, hv, _⟩; cases h; cases hv) (by decide))
  rw [ex1] at CP
  clear hb3 hX3 CN
  go_wp2_with fail
  refine CP.out.mono ?_
  rintro e w4 ⟨rfl, hR4, _⟩
  obtain ⟨a1, c1, v1, a2, c2, v2, hX4⟩ := hR4
  have CP := Lib.hid (promiseR_c w2 w4 p x1 _ _ _ _ _ _ _ 17 bl0 ⟨⟨by decide, by decide⟩, ⟨by decide, by decide⟩⟩ [] [] none 0 0 hX4 (inC_nil w4) (fun k hk => by rcases hk with ⟨ad, h, _⟩ | ⟨v, hv, _⟩; cases h; cases hv) (by decide))
  rw [ex2] at CP
  rw [show x1.stage = 1 from rfl]
  clear hX4
  go_wp2_with fail
  refine CP.out.mono ?_
  rintro e w5 ⟨rfl, hR5, _⟩
  rw [show x2.stage = 2 from rfl]
  obtain ⟨a1, c1, v1, a2, c2, v2, hX5⟩ := hR5
  have CL := Lib.hid (log_cR w5 hX5)
  have HX5 := Lib.hid hX5
  clear hX5 CP
  go_wp2_with fail
  refine CL.out.mono ?_
  intro e w6 hL
  obtain ⟨⟨al, cl, vl, rfl, _⟩, hb6⟩ := hL.1 (.inl rfl)
  rw [show x2.log.length = 1 from rfl]
  have HX6 := Lib.hid (HX5.out.new hb6).1
  have CPl := Lib.hid (place_cR w6 HX6.out)
  rw [show placeR x2 = 1 from by decide] at CPl
  clear hL hb6 CL
  go_wp2_with fail
  refine CPl.out.mono ?_
  rintro e w7 ⟨rfl, hb7⟩
  have HX7 := Lib.hid (HX6.out.new hb7).1
  have CM := Lib.hid (missing_cR w7 HX7.out)
  clear hb7 CPl
  go_wp2_with fail
  refine CM.out.mono ?_
  intro e w8 hM
  obtain ⟨⟨am, cm, rfl, _⟩, hb8⟩ := hM.1 (.inr rfl)
  rw [show (silN x2.ans x2.n).length = 3 from by decide]
  have HX8 := Lib.hid (HX7.out.new hb8).1
  have CA := Lib.hid (acceptedR_c w2 w8 p x2 _ _ _ _ _ _ _ 18 HX8.out)
  rw [ex3] at CA
  clear hM hb8 CM
  go_wp2_with fail
  refine CA.out.mono ?_
  rintro e w9 ⟨rfl, hR9, _⟩
  obtain ⟨a1, c1, v1, a2, c2, v2, hX9⟩ := hR9
  have CA := Lib.hid (acceptedR_c w2 w9 p x3 _ _ _ _ _ _ _ 16 hX9)
  rw [ex4] at CA
  clear hX9
  go_wp2_with fail
  refine CA.out.mono ?_
  rintro e wa ⟨rfl, hRa, _⟩
  rw [show x4.stage = 3 from rfl]
  have HBa := Lib.hid (HB2.out.trans (hRa.bel.mono HB2.out.size))
  clear hRa CA
  go_wp2
  go_ret
  exact ⟨rfl, HBa.out⟩
end Go.Proofs.Ytbkpkakjfhkfaaa
