/- Contract of towpathlaw06.alive: it returns true. No conditions. -/
import Derived.Test.YtbfcgnggcgodhaaCdc
import Derived.Deep.CutRange
namespace Go.Proofs.Ytbfcgnggcgodhaa
open Go Go.RowKit
set_option linter.unusedVariables false
set_option linter.unusedSimpArgs false

theorem GotM.in' {w w' : World} {m : Mg} {a : Option Addr} {n c : Nat} {b : Option Addr} {k d : Nat} (t : TyM m) (hn : n = m.nums.length) (hk : k = m.data.length) (h1 : w'.ownsRow w.heap.size 3 1 (.slice a n c) n (i64s m.nums)) (h2 : w'.ownsRow w.heap.size 5 1 (.slice b k d) k (u8s m.data)) : MIn w' a n c b k d m :=
  ⟨own_inI h1 hn.symm t.nums, own_in h2 hk.symm t.data⟩
theorem same33 (w : World) : (binOp .eql 30 (errnoM 3) (.iface 48 (.int .i64 3))).run Try.prog w = .ok (.bool true) w := by kernel_rfl
set_option maxRecDepth 100000 in
set_option maxHeartbeats 1000000 in
theorem alive6_any (w : World) : Calls Try.prog 10 #[] w fun e w' => e = .returned (.bool true) ∧ Below w.heap.size w w' := by
  have hok : OkM ⟨13, [7], []⟩ := ⟨by decide, by decide, by decide⟩
  have hty : TyM ⟨13, [7], []⟩ := ⟨by intro b hb; simp at hb; omega, by intro b hb; cases hb⟩
  have HA : Hid (InI (w.alloc (.cells #[.int .i64 7] 3)) (some ⟨w.heap.size, 0, none⟩) 1 1 [7]) := Lib.hid ⟨rfl, by omega, (fun e => by cases e), AtI.new w [7] _ rfl 3 (0, 0) 1 _ rfl 1 rfl, hty.nums⟩
  have HB0 := Lib.hid (bl_al (Below.refl w.heap.size w) (.cells #[.int .i64 7] 3))
  have CM := Lib.hid (make_t 13 (some ⟨w.heap.size, 0, none⟩) 1 1 [7] (w.alloc (.cells #[.int .i64 7] 3)) HA.out (by omega))
  have CF : Hid (∀ W a c b d, MIn W a 1 c b 0 d ⟨13, [7], []⟩ → Calls Try.prog 13 #[mval 13 a 1 c b 0 d] W (Rwe W (frm ⟨13, [7], []⟩) .nilIface)) := Lib.hid (fun W a c b d h => frame_t (.inl ⟨hok, rfl, rfl, rfl⟩) a 1 c b 0 d W h)
  have hfl : (frm ⟨13, [7], []⟩).length = 21 := by rw [frm_len]; rfl
  have CP : Hid (∀ W a c, In W a 21 c (frm ⟨13, [7], []⟩) → Calls Try.prog 18 #[.slice a 21 c] W (GotM W ⟨13, [7], []⟩ .nilIface)) := Lib.hid (fun W a c h => parseM_t (.inl ⟨IsF.of hok hty, (dec_frm hok hty).symm, rfl, rfl⟩) a 21 c W h (by omega))
  have CI : Hid (∀ W a c b d, InI W a 1 c [7] → InI W b 1 d [7] → Calls Try.prog 27 #[.slice a 1 c, .slice b 1 d] W fun e w' => e = .returned (.bool true) ∧ Below W.heap.size W w') := Lib.hid (fun W a c b d h h' => ints_any [7] [7] a b 1 c 1 d W h h' (by omega) true (by simp))
  have HFR := Lib.hid (fit_frm hty.data)
  have HFL := Lib.hid hfl
  have HTY := Lib.hid hty
  obtain ⟨r, hr⟩ : ∃ r, r = frm ⟨13, [7], []⟩ := ⟨_, rfl⟩
  rw [← hr] at CF CP HFR HFL
  clear hok hty hfl hr
  go_enter Try.func10, Try.ntmps10
  go_wp2_with fail
  refine CM.out.mono ?_
  rintro e w1 ⟨a1, n1, c1, b1, k1, d1, rfl, rfl, rfl, o1, o2, hb⟩
  have HM1 := Lib.hid (GotM.in' HTY.out rfl rfl o1 o2)
  have HB1 := Lib.hid (bl_tr HB0.out hb)
  clear o1 o2 hb HB0 HA CM
  go_wp2_with fail
  refine (CF.out w1 a1 c1 b1 d1 HM1.out).mono ?_
  rintro e w2 ⟨a2, k2, c2, rfl, hk, hown, hb⟩
  obtain rfl : k2 = 21 := by rw [hk]; exact HFL.out
  have HI2 := Lib.hid (own_in hown HFL.out HFR.out)
  have HB2 := Lib.hid (bl_tr HB1.out hb)
  clear hk hown hb HM1 HB1 CF
  go_wp2_with fail
  refine (CP.out w2 a2 c2 HI2.out).mono ?_
  rintro e w3 ⟨a3, n3, c3, b3, k3, d3, rfl, rfl, rfl, o1, o2, hb⟩
  have hM3 := GotM.in HTY.out rfl rfl o1 o2
  have hb3 := bl_al (Below.refl w3.heap.size w3) (mobj 13 a3 1 c3 b3 0 d3)
  have HX3 := Lib.hid (MAt.new w3 13 a3 1 c3 b3 0 d3)
  have HB3 := Lib.hid (bl_al (bl_tr HB2.out hb) (mobj 13 a3 1 c3 b3 0 d3))
  have HM3 := Lib.hid (hM3.below hb3)
  obtain ⟨X, hX⟩ : ∃ X, X = w3.alloc (mobj 13 a3 1 c3 b3 0 d3) := ⟨_, rfl⟩
  obtain ⟨q, hq⟩ : ∃ q, q = w3.heap.size := ⟨_, rfl⟩
  rw [← hX] at HX3 HB3 HM3
  rw [← hq] at HX3
  have HXE := Lib.hid hX
  have HQE := Lib.hid hq
  clear o1 o2 hb hM3 hb3 HI2 HB2 CP hX hq
  go_upto_region 5 with fail
  rw [← HXE.out, ← HQE.out]
  clear HXE HQE
  obtain ⟨e0, e1, e2⟩ := HX3.out
  have HJ : Hid (InI (X.alloc (.cells #[.int .i64 7] 3)) (some ⟨X.heap.size, 0, none⟩) 1 1 [7]) := Lib.hid ⟨rfl, by omega, (fun e => by cases e), AtI.new X [7] _ rfl 3 (0, 0) 1 _ rfl 1 rfl, HTY.out.nums⟩
  have HM4 := Lib.hid (HM3.out.below (bl_al (Below.refl _ _) (.cells #[.int .i64 7] 3)))
  have HB4 := Lib.hid (bl_al HB3.out (.cells #[.int .i64 7] 3))
  have HLT := Lib.hid HX3.out.lt
  go_wp2_with fail
  refine (CI.out _ _ _ _ _ HM4.out.nums HJ.out).mono ?_
  rintro e w5 ⟨rfl, hb⟩
  have HB5 := Lib.hid (bl_tr HB4.out hb)
  obtain ⟨f0, f1, f2⟩ := (HX3.out.below (bl_al (Below.refl X.heap.size X) (.cells #[.int .i64 7] 3)) HLT.out).below hb (by simp; exact Nat.lt_succ_of_lt HLT.out)
  clear hb
  go_wp2
  go_ret
  exact ⟨rfl, HB5.out⟩
end Go.Proofs.Ytbfcgnggcgodhaa
