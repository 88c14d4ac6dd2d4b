/- Nobody says nothing: the body of SessionNone.
 Conditions: those stated. -/
import Derived.Test.YtlmkmbpikhagiaaAliB
import Derived.Test.YtlmkmbpikhagiaaO18
namespace Go.Proofs.Ytlmkmbpikhagiaa
open Go Go.RowKit Go.Lib
set_option linter.unusedVariables false
set_option linter.unusedSimpArgs false

set_option maxRecDepth 100000 in
set_option maxHeartbeats 8000000 in
theorem sessionNone_t (o : OpR) (w : World) (hO : OpOk w o) : Calls Try.prog 6 #[.agg o.cs.toArray] w fun e w' => e = .returned (.bool true) ∧ Below w.heap.size w w' := by
  obtain ⟨kind, va, vn, vc, vips, fr, m, a, n, c, b, k, d, now⟩ := o
  have HO := Lib.hid hO
  rw [show OpR.cs ⟨kind, va, vn, vc, vips, fr, m, a, n, c, b, k, d, now⟩ = [.int .i64 kind, .slice va vn vc, .int .i64 fr, .int .i64 m.kind, .slice a n c, .slice b k d, .int .i64 now] from rfl]
  obtain ⟨mk, hmk⟩ : ∃ x, x = m.kind := ⟨_, rfl⟩
  have HMK := Lib.hid hmk
  rw [← hmk]
  clear hO hmk
  obtain ⟨W, hW⟩ : ∃ W, W = w.alloc (.cells #[.int .i64 kind, .slice va vn vc, .int .i64 fr, .int .i64 mk, .slice a n c, .slice b k d, .int .i64 now] 42) := ⟨_, rfl⟩
  have hbW : Below w.heap.size w W := by rw [hW]; exact bl_al (Below.refl _ _) _
  have hp : W.heap[w.heap.size]? = some (.cells #[.int .i64 kind, .slice va vn vc, .int .i64 fr, .int .i64 mk, .slice a n c, .slice b k d, .int .i64 now] 42 (0, 0)) := by rw [hW]; exact heap_alloc_new _ _
  obtain ⟨p, hpe⟩ : ∃ p, p = w.heap.size := ⟨_, rfl⟩
  rw [← hpe] at hp
  have HW := Lib.hid hW
  have HBW := Lib.hid hbW
  have HP := Lib.hid hp
  have HPE := Lib.hid hpe
  clear hW hbW hp hpe
  go_enter Try.func6, Try.ntmps6
  go_wp2_with fail
  rw [← HPE.out, ← HW.out]
  have HBW' := HBW
  have HPW := HP
  have HOW := Lib.hid (HO.out.below HBW.out)
  have HBW0 := HBW
  refine (alive_c W).mono ?_
  rintro e w1 ⟨rfl, hb⟩
  have HBw1 := Lib.hid (bl_tr HBW.out hb)
  have HPw1 := Lib.hid ((hb.block p (lt_of_block HPW.out)).trans HPW.out)
  have HOw1 := Lib.hid (HOW.out.below hb)
  clear hb
  obtain ⟨r0, r1, r2, r3, r4, r5, r6⟩ : w1.cell? ⟨p, 0, none⟩ = some (.int .i64 kind) ∧ w1.cell? ⟨p, 1, none⟩ = some (.slice va vn vc) ∧ w1.cell? ⟨p, 2, none⟩ = some (.int .i64 fr) ∧ w1.cell? ⟨p, 3, none⟩ = some (.int .i64 mk) ∧ w1.cell? ⟨p, 4, none⟩ = some (.slice a n c) ∧ w1.cell? ⟨p, 5, none⟩ = some (.slice b k d) ∧ w1.cell? ⟨p, 6, none⟩ = some (.int .i64 now) := by
    have h := HPw1.out
    refine ⟨?_, ?_, ?_, ?_, ?_, ?_, ?_⟩ <;> (rw [cell_of_row w1 p _ _ _ _ h]; rfl)
  go_wp2_with fail
  refine (announce_n vips va vn vc w1 HOw1.out.vips HOw1.out.few).mono ?_
  rintro e w2 ⟨rfl, hb⟩
  have HBw2 := Lib.hid (bl_tr HBw1.out hb)
  have HPw2 := Lib.hid ((hb.block p (lt_of_block HPw1.out)).trans HPw1.out)
  have HOw2 := Lib.hid (HOw1.out.below hb)
  clear hb r0 r1 r2 r3 r4 r5 r6
  obtain ⟨r0, r1, r2, r3, r4, r5, r6⟩ : w2.cell? ⟨p, 0, none⟩ = some (.int .i64 kind) ∧ w2.cell? ⟨p, 1, none⟩ = some (.slice va vn vc) ∧ w2.cell? ⟨p, 2, none⟩ = some (.int .i64 fr) ∧ w2.cell? ⟨p, 3, none⟩ = some (.int .i64 mk) ∧ w2.cell? ⟨p, 4, none⟩ = some (.slice a n c) ∧ w2.cell? ⟨p, 5, none⟩ = some (.slice b k d) ∧ w2.cell? ⟨p, 6, none⟩ = some (.int .i64 now) := by
    have h := HPw2.out
    refine ⟨?_, ?_, ?_, ?_, ?_, ?_, ?_⟩ <;> (rw [cell_of_row w2 p _ _ _ _ h]; rfl)
  go_wp2_with fail
  rw [HMK.out]
  refine (recv_n m a n c b k d w2 HOw2.out.msg.nums (Nat.le_trans HOw2.out.len (by decide))).mono ?_
  rintro e w3 ⟨rfl, hb⟩
  have HBw3 := Lib.hid (bl_tr HBw2.out hb)
  have HPw3 := Lib.hid ((hb.block p (lt_of_block HPw2.out)).trans HPw2.out)
  have HOw3 := Lib.hid (HOw2.out.below hb)
  clear hb r0 r1 r2 r3 r4 r5 r6
  obtain ⟨r0, r1, r2, r3, r4, r5, r6⟩ : w3.cell? ⟨p, 0, none⟩ = some (.int .i64 kind) ∧ w3.cell? ⟨p, 1, none⟩ = some (.slice va vn vc) ∧ w3.cell? ⟨p, 2, none⟩ = some (.int .i64 fr) ∧ w3.cell? ⟨p, 3, none⟩ = some (.int .i64 mk) ∧ w3.cell? ⟨p, 4, none⟩ = some (.slice a n c) ∧ w3.cell? ⟨p, 5, none⟩ = some (.slice b k d) ∧ w3.cell? ⟨p, 6, none⟩ = some (.int .i64 now) := by
    have h := HPw3.out
    refine ⟨?_, ?_, ?_, ?_, ?_, ?_, ?_⟩ <;> (rw [cell_of_row w3 p _ _ _ _ h]; rfl)
  go_wp2_with fail
  refine (tick_n now w3).mono ?_
  rintro e w4 ⟨rfl, rfl⟩
  go_wp2_with fail
  rw [HMK.out]
  refine (recL_n fr m a n c b k d now w3 HOw3.out.msg.nums (Nat.le_trans HOw3.out.len (by decide))).mono ?_
  rintro e w4 ⟨rfl, hb⟩
  have HBw4 := Lib.hid (bl_tr HBw3.out hb)
  have HPw4 := Lib.hid ((hb.block p (lt_of_block HPw3.out)).trans HPw3.out)
  have HOw4 := Lib.hid (HOw3.out.below hb)
  clear hb r0 r1 r2 r3 r4 r5 r6
  obtain ⟨r0, r1, r2, r3, r4, r5, r6⟩ : w4.cell? ⟨p, 0, none⟩ = some (.int .i64 kind) ∧ w4.cell? ⟨p, 1, none⟩ = some (.slice va vn vc) ∧ w4.cell? ⟨p, 2, none⟩ = some (.int .i64 fr) ∧ w4.cell? ⟨p, 3, none⟩ = some (.int .i64 mk) ∧ w4.cell? ⟨p, 4, none⟩ = some (.slice a n c) ∧ w4.cell? ⟨p, 5, none⟩ = some (.slice b k d) ∧ w4.cell? ⟨p, 6, none⟩ = some (.int .i64 now) := by
    have h := HPw4.out
    refine ⟨?_, ?_, ?_, ?_, ?_, ?_, ?_⟩ <;> (rw [cell_of_row w4 p _ _ _ _ h]; rfl)
  go_wp2_with fail
  obtain ⟨w5, hw5⟩ : ∃ v, v = w4.alloc (.cells #[.int .i64 0, .slice none 0 0, .slice none 0 0] 40) := ⟨_, rfl⟩
  rw [← hw5]
  have hb5 : Below w4.heap.size w4 w5 := by rw [hw5]; exact bl_al (Below.refl _ _) _
  have hq5 : w5.heap[w4.heap.size]? = some (.cells #[.int .i64 0, .slice none 0 0, .slice none 0 0] 40 (0, 0)) := by rw [hw5]; exact heap_alloc_new _ _
  obtain ⟨q, hq⟩ : ∃ q, q = w4.heap.size := ⟨_, rfl⟩
  rw [← hq] at hq5
  rw [← hq]
  have HBw5 := Lib.hid (bl_tr HBw4.out hb5)
  have HPw5 := Lib.hid ((hb5.block p (lt_of_block HPw4.out)).trans HPw4.out)
  have m0 : w5.cell? ⟨q, 0, none⟩ = some (.int .i64 0) := by rw [cell_of_row w5 q _ _ _ _ hq5]; rfl
  clear hq hq5 hb5 hw5 r0 r1 r2 r3 r4 r5 r6
  obtain ⟨r0, r1, r2, r3, r4, r5, r6⟩ : w5.cell? ⟨p, 0, none⟩ = some (.int .i64 kind) ∧ w5.cell? ⟨p, 1, none⟩ = some (.slice va vn vc) ∧ w5.cell? ⟨p, 2, none⟩ = some (.int .i64 fr) ∧ w5.cell? ⟨p, 3, none⟩ = some (.int .i64 mk) ∧ w5.cell? ⟨p, 4, none⟩ = some (.slice a n c) ∧ w5.cell? ⟨p, 5, none⟩ = some (.slice b k d) ∧ w5.cell? ⟨p, 6, none⟩ = some (.int .i64 now) := by
    have h := HPw5.out
    refine ⟨?_, ?_, ?_, ?_, ?_, ?_, ?_⟩ <;> (rw [cell_of_row w5 p _ _ _ _ h]; rfl)
  refine (out_n _).mono ?_
  rintro e w6 ⟨rfl, rfl⟩
  go_wp2_with fail
  refine (open_n _).mono ?_
  rintro e w6 ⟨rfl, rfl⟩
  go_wp2_with fail
  refine (tickL_n now _).mono ?_
  rintro e w6 ⟨rfl, hb⟩
  have HBw6 := Lib.hid (bl_tr HBw5.out hb)
  clear hb
  go_wp2_with fail
  refine (muxes_n 16777216 _).mono ?_
  rintro e w7 ⟨rfl, hb⟩
  have HBw7 := Lib.hid (bl_tr HBw6.out hb)
  clear hb
  go_wp2_with fail
  refine (sess_n _).mono ?_
  rintro e w8 ⟨rfl, rfl⟩
  go_wp2_with fail
  exact bodyPost_ret (v := .bool true) (by simp [results, Try.results6, go_sem]) rfl ⟨rfl, HBw7.out⟩
end Go.Proofs.Ytlmkmbpikhagiaa
