/- readBallot. Condition: the row came in. -/
import Derived.Test.YtbkpkakjfhkfaaaVdR
import Derived.Deep.RegionLaw
namespace Go.Proofs.Ytbkpkakjfhkfaaa
open Go Go.RowKit
set_option linter.unusedVariables false
set_option linter.unusedSimpArgs false

/-- The ballot that a row begins with. -/
def rdB (b : List Int) : Bl := ⟨rd b, rd (rest b)⟩
theorem rdB_ty {b : List Int} (h : fit b) : TyB (rdB b) := ⟨rd_ty h, rd_ty (rest_fit h)⟩
theorem BxB.tch {T : Nat → Prop} {w w' : World} {p : Nat} {b : Bl} (h : BxB w p b) (ht : Tch T w w') (hn : ¬ T p) : BxB w' p b := ht.at h hn
theorem BxB.put {w : World} {p : Nat} {b : Bl} (h : BxB w p b) (x y : Int) : BxB ((w.setCell ⟨p, 0, none⟩ (.int .i64 x)).setCell ⟨p, 1, none⟩ (.int .i64 y)) p ⟨x, y⟩ := by
  have h1 := put_row (i := 0) h (.int .i64 x)
  have h2 := put_row (i := 1) h1 (.int .i64 y)
  exact h2
theorem BxB.free {w : World} {p : Nat} {b : Bl} (h : BxB w p b) (o : Nat) : w.frozen? ⟨p, o, none⟩ = false := frozen_of_row w p o _ _ h
set_option maxRecDepth 100000 in
set_option maxHeartbeats 4000000 in
theorem readBallot_c (b : List Int) (a : Option Addr) (n c : Nat) (w : World) (hI : In w a n c b) (hn : n ≤ 1048576) :
    Calls Try.prog 116 #[.slice a n c] w fun e w' => (∃ a2 n2 c2, e = .returned (.tuple #[(rdB b).val, .slice a2 n2 c2]) ∧ In w' a2 n2 c2 (rests 2 b) ∧ n2 ≤ n ∧ (∀ ad, a2 = some ad → 0 < n2 → ad.block < w.heap.size)) ∧ Below w.heap.size w w' := by
  obtain ⟨w1, hw1⟩ : ∃ W, W = w.alloc bl0.obj := ⟨_, rfl⟩
  have hA := bxB_new w bl0
  rw [← hw1] at hA
  have hb1 : Below w.heap.size w w1 := by rw [hw1]; exact bl_al (Below.refl _ _) _
  have hs1 : w1.heap.size = w.heap.size + 1 := by rw [hw1]; simp
  obtain ⟨w2, hw2⟩ : ∃ W, W = w1.alloc (.cells #[.slice a n c] tyN) := ⟨_, rfl⟩
  have hR := rdA_new w1 w.heap.size (hI.below hb1) hb1.size hn (in_blk hI)
  rw [← hw2] at hR
  have hb2 : Below w1.heap.size w1 w2 := by rw [hw2]; exact bl_al (Below.refl _ _) _
  have hA2 := hA.later hb2
  obtain ⟨p, hp⟩ : ∃ p, p = w.heap.size := ⟨_, rfl⟩
  obtain ⟨q, hq⟩ : ∃ q, q = w1.heap.size := ⟨_, rfl⟩
  rw [← hq] at hR
  rw [← hp] at hA2
  have HPQ : Hid (p = w.heap.size ∧ q = p + 1 ∧ q < w2.heap.size) := Lib.hid ⟨hp, by omega, by rw [hq, hw2]; simp⟩
  have HW1 := Lib.hid (And.intro hw1 hp)
  have HW2 := Lib.hid (And.intro hw2 hq)
  have HB2 := Lib.hid (bl_tr hb1 hb2)
  have HA2 := Lib.hid hA2
  have HR := Lib.hid hR
  have HLE := Lib.hid (rests_len 2 b)
  have HIL := Lib.hid hI.len
  clear hw1 hA hb1 hs1 hw2 hR hb2 hA2 hp hq hI
  go_enter Try.func116, Try.ntmps116
  go_upto_region 1 with fail
  rw [show w.alloc (.cells #[.int .i64 0, .int .i64 0] tyB2) = w1 from HW1.out.1.symm, ← HW1.out.2]
  go_upto_region 2 with fail
  rw [← HW2.out.1, ← HW2.out.2]
  go_wp2_with fail
  refine (read_a w.heap.size q b w2 HR.out HB2.out.size).mono ?_
  rintro e w3 ⟨rfl, hR3, hT3⟩
  have HR3 := Lib.hid hR3
  have HT3 := Lib.hid hT3
  have HA3 := Lib.hid (HA2.out.tch hT3 (by have := HPQ.out; omega))
  have HB3 := Lib.hid (HB2.out.trans (hT3.below (fun k hk => by have := HPQ.out; omega) HB2.out.size))
  clear hR3 hT3
  go_wp2_with fail
  refine (read_a w.heap.size q (rest b) w3 HR3.out HB3.out.size).mono ?_
  rintro e w4 ⟨rfl, hR4, hT4⟩
  obtain ⟨a4, n4, c4, hS4⟩ := hR4
  have HA4 := Lib.hid (HA3.out.tch hT4 (by have := HPQ.out; omega))
  have HB4 := Lib.hid (HB3.out.trans (hT4.below (fun k hk => by have := HPQ.out; omega) HB3.out.size))
  have HS4 := Lib.hid hS4
  obtain ⟨w5, hw5⟩ : ∃ W, W = w4.alloc (.cells #[.int .i64 (rd b), .int .i64 (rd (rest b))] tyB2) := ⟨_, rfl⟩
  have hB5 := bxB_new w4 ⟨rd b, rd (rest b)⟩
  rw [show w4.alloc (Bl.obj ⟨rd b, rd (rest b)⟩) = w5 from hw5.symm] at hB5
  have hb5 : Below w4.heap.size w4 w5 := by rw [hw5]; exact bl_al (Below.refl _ _) _
  have hA5 := HA4.out.later hb5
  have hS5 := (hS4.keep hb5).1
  have e5 := cell_of_one hS5.here
  have hp4 : p < w4.heap.size := HA4.out.lt
  have hq4 := hS4.qlt
  obtain ⟨p5, hp5⟩ : ∃ p, p = w4.heap.size := ⟨_, rfl⟩
  rw [← hp5] at hB5
  obtain ⟨d0, d1⟩ := hB5.at
  obtain ⟨r0, r1⟩ := hA5.at
  have f0 := hA5.free 0
  have f1 := hA5.free 1
  have HW5 := Lib.hid (And.intro hw5 hp5)
  have HA5 := Lib.hid hA5
  have HS5 := Lib.hid hS5
  have HB5 := Lib.hid (bl_tr HB4.out hb5)
  have hpp : p ≠ p5 := by omega
  have hqp : q ≠ p := by have := HPQ.out; omega
  clear hT4 hS4 hw5 hB5 hb5 hA5 hS5 hp5
  go_upto_region 3 with fail
  rw [show w4.alloc (.cells #[.int .i64 (rd b), .int .i64 (rd (rest b))] tyB2) = w5 from HW5.out.1.symm, ← HW5.out.2]
  go_region
  all_goals
    go_wp2
    have hA6 := HA5.out.put (rd b) (rd (rest b))
    have hb6 : Below w.heap.size w ((w5.setCell ⟨p, 0, none⟩ (.int .i64 (rd b))).setCell ⟨p, 1, none⟩ (.int .i64 (rd (rest b)))) := bl_set (bl_set HB5.out (by have := HPQ.out; omega) _) (by have := HPQ.out; omega) _
    have hI6 : In ((w5.setCell ⟨p, 0, none⟩ (.int .i64 (rd b))).setCell ⟨p, 1, none⟩ (.int .i64 (rd (rest b)))) a4 n4 c4 (rests 2 b) := by
      have hT : Tch (· = p) w5 ((w5.setCell ⟨p, 0, none⟩ (.int .i64 (rd b))).setCell ⟨p, 1, none⟩ (.int .i64 (rd (rest b)))) := (tch_set w5 ⟨p, 0, none⟩ _).trans (tch_set _ ⟨p, 1, none⟩ _)
      have hk : Kpt (fun k => k < w.heap.size) w5 ((w5.setCell ⟨p, 0, none⟩ (.int .i64 (rd b))).setCell ⟨p, 1, none⟩ (.int .i64 (rd (rest b)))) := fun k hk => hT.block k (by have := HB5.out.size; omega) (by have := HPQ.out; omega)
      exact HS5.out.row.kpt hk (fun ad e h2 => HS5.out.inB ad e h2)
    obtain ⟨w6, hw6⟩ : ∃ v, v = (w5.setCell ⟨p, 0, none⟩ (.int .i64 (rd b))).setCell ⟨p, 1, none⟩ (.int .i64 (rd (rest b))) := ⟨_, rfl⟩
    rw [← hw6] at hA6 hb6 hI6 ⊢
    obtain ⟨z0, z1⟩ := hA6.at
    refine bodyPost_ret (v := .tuple #[(rdB b).val, .slice a4 n4 c4]) (by simp [results, Try.results116, go_sem, z0, z1, rdB]) rfl ?_
    refine ⟨⟨a4, n4, c4, rfl, hI6.below (Below.refl _ _).drew, ?_, HS5.out.inB⟩, hb6.drew⟩
    have h1 := HS5.out.row.len
    have h2 : (rests 2 b).length ≤ b.length := HLE.out
    have h3 := HIL.out
    have h4 : (rest (rest b)).length = n4 := h1
    have h5 : rests 2 b = rest (rest b) := rfl
    rw [h5] at h2
    omega
end Go.Proofs.Ytbkpkakjfhkfaaa
