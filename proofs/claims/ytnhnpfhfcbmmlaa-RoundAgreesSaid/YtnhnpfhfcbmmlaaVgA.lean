/- opened, health, alive. No conditions but those stated. -/
import Derived.Test.YtnhnpfhfcbmmlaaVgP
namespace Go.Proofs.Ytnhnpfhfcbmmlaa
open Go Go.RowKit
set_option linter.unusedVariables false
set_option linter.unusedSimpArgs false

abbrev Old (w : World) : Nat → Prop := fun k => k < w.heap.size
theorem four_neq (w : World) : (binOp .neq 28 (errnoF 4) .nilIface).run Try.prog w = .ok (.bool true) w := by kernel_rfl
set_option maxRecDepth 100000 in
set_option maxHeartbeats 4000000 in
theorem opened_c (size node : Int) (w : World) (hz : OkZ size) (hn : i64c node) : Calls Try.prog 29 #[.int .i64 size, .int .i64 node] w fun e w' =>
    (IsMgr node → ∃ s p, e = .returned (.tuple #[.pointer (some ⟨s, 0, none⟩), .pointer (some ⟨p, 0, none⟩)]) ∧ VOn w w' p s size [] [] bl0 bl0 [] node (Old w)) ∧ (¬ IsMgr node → e = .returned (.tuple #[.pointer none, .pointer none])) ∧ Below w.heap.size w w' := by
  have CN := Lib.hid (new_c size w)
  have HZ := Lib.hid hz
  have HN := Lib.hid hn
  have q0 := nilNe
  have q9 := nine_neq
  clear hz hn
  go_enter Try.func29, Try.ntmps29
  go_wp2_with fail
  refine CN.out.mono ?_
  intro e w1 hO
  obtain ⟨s, rfl, hS, hk⟩ := SOn.made (K := Old w) HZ.out (Below.refl _ _) (fun k hk => hk) hO
  have CO := Lib.hid (open_c w w1 s size [] [] node (Old w) hS HN.out (fun k r _ h => by cases h))
  have HB := Lib.hid hS.bel
  have hne : ((some (⟨s, 0, none⟩ : Addr)) == none) = false := rfl
  clear hO hS hk CN
  go_wp2_with fail
  refine CO.out.mono ?_
  intro e w2 hP
  by_cases hm : IsMgr node
  · obtain ⟨p, rfl, hV⟩ := hP.yes hm bl0 bl0 [] rfl rfl
    have HV := Lib.hid hV
    have HM := Lib.hid hm
    clear hP hV hm CO
    go_wp2
    go_ret2
    exact ⟨fun _ => ⟨s, p, rfl, HV.out⟩, fun h => absurd HM.out h, HV.out.bel⟩
  · have e1 := hP.form hm
    subst e1
    have HM := Lib.hid hm
    have HB2 := Lib.hid hP.on.bel
    clear hP hm CO
    go_wp2
    go_ret2
    exact ⟨fun h => absurd h HM.out, fun _ => rfl, HB2.out⟩
/-- A command of health. -/
def hlt (n : Int) : Cm := ⟨16, 0, n, 0, 3, 0, 0, 0, [], 167837697, 0, true⟩
set_option maxRecDepth 100000 in
set_option maxHeartbeats 4000000 in
theorem health_c (n : Int) (w : World) : Calls Try.prog 41 #[.int .i64 n] w fun e w' => e = .returned ((hlt n).val (.slice none 0 0)) ∧ Below w.heap.size w w' := by
  obtain ⟨w1, hw1⟩ : ∃ W, W = w.alloc (cm0.obj (.slice none 0 0)) := ⟨_, rfl⟩
  have hA := bxC_new w cm0 (.slice none 0 0)
  rw [← hw1] at hA
  have hb1 : Below w.heap.size w w1 := by rw [hw1]; exact bl_al (Below.refl _ _) _
  obtain ⟨p, hp⟩ : ∃ q, q = w.heap.size := ⟨_, rfl⟩
  rw [← hp] at hA
  have HW1 := Lib.hid (And.intro hw1 hp)
  obtain ⟨z0, z1, z2, z3, z4, z5, z6, z7, z8, z9, z10, z11⟩ := hA.at.lit
  have hfr := hA.free
  have hbx := stC_bx hA (hlt n) (.slice none 0 0)
  have hT := tch_stC (Tch.refl (· = p) w1) (hlt n) (.slice none 0 0)
  obtain ⟨w2, hw2⟩ : ∃ W, W = stC w1 p (hlt n) (.slice none 0 0) := ⟨_, rfl⟩
  rw [← hw2] at hbx hT
  have HB := Lib.hid (hb1.trans (hT.below (B := w.heap.size) (fun k hk => by omega) hb1.size))
  have HBX := Lib.hid hbx
  have HW2 := Lib.hid hw2
  clear hw1 hA hb1 hp hbx hT hw2
  go_enter Try.func41, Try.ntmps41
  go_upto_region 1 with fail
  rw [show w.alloc (.cells #[.int .i64 0, .int .i64 0, .int .i64 0, .int .i64 0, .int .i64 0, .int .u32 0, .int .i64 0, .int .i64 0, .slice none 0 0, .int .u32 0, .int .u32 0, .bool false] tyC) = w1 from HW1.out.1.symm, ← HW1.out.2]
  go_wp2
  have e18 := HW2.out
  unfold stC hlt at e18
  simp only at e18
  rw [← e18]
  clear e18
  obtain ⟨y0, y1, y2, y3, y4, y5, y6, y7, y8, y9, y10, y11⟩ := HBX.out.at.lit
  refine bodyPost_ret (v := (hlt n).val (.slice none 0 0)) (by simp [results, Try.results41, go_sem, y0, y1, y2, y3, y4, y5, y6, y7, y8, y9, y10, y11]) rfl ?_
  exact ⟨rfl, HB.out⟩
theorem hlt_ty {n : Int} (h : i64c n) : TyC (hlt n) := by
  constructor
  case seq => exact h
  case es => intro e he; cases he
  case few => show ([] : List En).length ≤ _; decide
  all_goals (unfold hlt; first | unfold i64c | unfold u32c); simp only; omega
theorem hlt_good {n : Int} (h : IsTm n) : GoodL [hlt n] := by
  refine ⟨by simp, fun c hc => ?_, by simp⟩
  rw [List.mem_singleton] at hc
  rw [hc]
  exact ⟨by show IsMgr 16; decide, by show IsTm 0; decide, h, by show IsTm 0; decide, .inr (.inr (.inl ⟨rfl, ⟨rfl, rfl, rfl, rfl⟩, by show IsDip 167837697; decide, rfl⟩))⟩
theorem hlt_len (n : Int) : (bytesL [hlt n]).length = 104 := by rw [bytesL_len]; rfl
theorem inC_one (w : World) (x : Cm) (hx : TyC x) (he : x.es = []) : InC (w.alloc (x.obj (.slice none 0 0))) (some ⟨w.heap.size, 0, none⟩) 1 1 [x] [.slice none 0 0] := by
  refine ⟨rfl, rfl, Nat.le_refl _, (fun e => by cases e), .inr ⟨w.heap.size, 0, rfl, fun t u hu => ?_⟩, fun j hj => ?_, fun c hc => by rw [List.mem_singleton] at hc; rw [hc]; exact hx⟩
  · rw [World.cell?_alloc_mark, Nat.zero_add]
    have : (x.arr (.slice none 0 0)) = (cellsC [x] [.slice none 0 0]).toArray := by simp [cellsC, Cm.cs]
    rw [this, List.getElem?_toArray]
    exact hu
  · obtain rfl : j = 0 := by omega
    exact ⟨none, 0, 0, rfl, by show InE _ none 0 0 x.es; rw [he]; exact inE_nil _⟩
theorem lgK_one {K : Nat → Prop} {b : Nat} (h : K b) : LgK (some ⟨b, 0, none⟩) 1 [.slice none 0 0] K := by
  refine ⟨fun ad e _ => by cases e; exact h, fun j hj ad k c e _ => ?_⟩
  obtain rfl : j = 0 := by omega
  cases e
theorem err_eql (n m : Int) (w : World) : (binOp .eql 28 (errnoF n) (errnoF m)).run Try.prog w = .ok (.bool (n == m)) w := by
  first | kernel_rfl | go_simp
theorem bl_eql (a b : Bl) (w : World) : (binOp .eql tyB2 a.val b.val).run Try.prog w = .ok (.bool (decide (a = b))) w := by
  obtain ⟨a1, a2⟩ := a
  obtain ⟨b1, b2⟩ := b
  have : decide ((⟨a1, a2⟩ : Bl) = ⟨b1, b2⟩) = decide (a1 = b1 ∧ a2 = b2) := decide_eq_decide.2 (by rw [Bl.mk.injEq])
  rw [this]
  by_cases h0 : a1 = b1
  · by_cases h1 : a2 = b2
    · go_simp
    · go_simp
  · go_simp
end Go.Proofs.Ytnhnpfhfcbmmlaa
