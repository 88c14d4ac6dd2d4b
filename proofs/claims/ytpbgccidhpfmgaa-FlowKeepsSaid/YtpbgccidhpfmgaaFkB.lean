/- Contract of towpathlaw11.alive: it returns true. No conditions. -/
import Derived.Test.YtpbgccidhpfmgaaFkA
namespace Go.Proofs.Ytpbgccidhpfmgaa
open Go Go.RowKit
set_option linter.unusedVariables false
set_option linter.unusedSimpArgs false

def al1 : En := ⟨exF 1, 7, 0, false, false, 0⟩
def al2 : En := ⟨exF 2, 7, 0, false, false, 1⟩
def al3 : En := ⟨exF 3, 8, 5, false, false, 2⟩
theorem alP_1 : putE 2 (exF 1) 7 0 0 [] = (none, 0, [al1]) := by decide
theorem alP_2 : putE 2 (exF 2) 7 0 1 [al1] = (none, 0, [al1, al2]) := by decide
theorem alP_3 : putE 2 (exF 3) 8 5 2 [al1, al2] = (some al1, 0, [al2, al3]) := by decide
theorem alG : findE (exF 3) [al2, al3] = some al3 := by decide
theorem alT : (touchE 1 (exF 2) 16 3 [al2, al3]).1 = true := by decide
theorem nilNe (w : World) : (binOp .neq 26 .nilIface .nilIface).run Try.prog w = .ok (.bool false) w := by kernel_rfl
theorem nilEl (w : World) : (binOp .eql 26 .nilIface .nilIface).run Try.prog w = .ok (.bool true) w := by kernel_rfl
theorem putV_none (l : List En) : putV (none, 0, l) = .tuple #[en0.val, .bool false, .nilIface] := rfl
theorem putV_some (o : En) (l : List En) : putV (some o, 0, l) = .tuple #[o.val, .bool true, .nilIface] := rfl
theorem getR_some (o : En) : getR (some o) = .tuple #[o.val, .bool true] := rfl
set_option maxRecDepth 100000 in
set_option maxHeartbeats 4000000 in
theorem alive11_any (w : World) : Calls Try.prog 11 #[] w fun e w' => e = .returned (.bool true) ∧ Below w.heap.size w w' := by
  have en := nilNe
  have ee := nilEl
  have CN := Lib.hid (tnew_t 1 2 w (by unfold InN; omega) (by unfold InN; omega))
  have CE := Lib.hid ex_c
  go_enter Try.func11, Try.ntmps11
  go_wp2_with fail
  refine CN.out.mono ?_
  rintro e w1 hW
  obtain ⟨p, rfl, hO⟩ := TOn.made (by unfold OkQ; omega) hW
  have HO := Lib.hid hO
  clear hW hO CN
  go_wp2_with fail
  refine (CE.out 1 w1).mono ?_
  rintro e w2 ⟨rfl, hb⟩
  have CP := Lib.hid (((HO.out.new hb).1).put (exF 1) 7 0 0 (by decide) (exF_fit (by unfold InN; omega)) (by unfold In32; omega) (by unfold InN; omega) (by unfold InN; omega))
  rw [alP_1, putV_none] at CP
  clear HO hb
  go_wp2_with fail
  refine CP.out.mono ?_
  rintro e w3 ⟨rfl, hO, _⟩
  have HO := Lib.hid hO
  clear CP hO
  go_wp2_with fail
  refine (CE.out 2 w3).mono ?_
  rintro e w4 ⟨rfl, hb⟩
  have CP := Lib.hid (((HO.out.new hb).1).put (exF 2) 7 0 1 (by decide) (exF_fit (by unfold InN; omega)) (by unfold In32; omega) (by unfold InN; omega) (by unfold InN; omega))
  rw [alP_2, putV_none] at CP
  clear HO hb
  go_wp2_with fail
  refine CP.out.mono ?_
  rintro e w5 ⟨rfl, hO, _⟩
  have HO := Lib.hid hO
  clear CP hO
  go_wp2_with fail
  refine (CE.out 3 w5).mono ?_
  rintro e w6 ⟨rfl, hb⟩
  have CP := Lib.hid (((HO.out.new hb).1).put (exF 3) 8 5 2 (by decide) (exF_fit (by unfold InN; omega)) (by unfold In32; omega) (by unfold InN; omega) (by unfold InN; omega))
  rw [alP_3, putV_some] at CP
  clear HO hb
  obtain ⟨e1, he1⟩ : ∃ e, e = al1 := ⟨_, rfl⟩
  rw [← he1] at CP
  go_wp2_with fail
  refine CP.out.mono ?_
  rintro e w7 ⟨rfl, hO, _⟩
  obtain ⟨X, hX⟩ : ∃ X, X = w7.alloc e1.obj := ⟨_, rfl⟩
  have hbX : Below w7.heap.size w7 X := by rw [hX]; exact bl_al (Below.refl _ _) _
  have hx : BxE X w7.heap.size e1 := by rw [hX]; exact BxE.new w7 e1
  have hsX : X.heap.size = w7.heap.size + 1 := by rw [hX]; simp
  have HO := Lib.hid (hO.grow hbX)
  obtain ⟨x, hxe⟩ : ∃ x, x = w7.heap.size := ⟨_, rfl⟩
  rw [← hxe] at hx HO
  have HBX := Lib.hid hx
  have HX := Lib.hid (And.intro hX hxe)
  have HXK : Hid (x ≤ x ∧ x < X.heap.size) := Lib.hid (by omega)
  have HE1 := Lib.hid he1
  clear CP hO hbX hx hsX hxe hX he1
  go_upto_region 7 with fail
  rw [← HX.out.1, ← HX.out.2]
  clear HX
  go_wp2_with fail
  refine (CE.out 3 X).mono ?_
  rintro e w8 ⟨rfl, hb⟩
  have hx8 := HBX.out.keep (tch_new hb) (fun h => h)
  have CG := Lib.hid (((HO.out.new hb).1).get (exF 3) (by decide) (exF_fit (by unfold InN; omega)))
  rw [alG, getR_some] at CG
  obtain ⟨e3, he3⟩ : ∃ e, e = al3 := ⟨_, rfl⟩
  rw [← he3] at CG
  have HX8 := Lib.hid hx8
  clear HO hb HBX hx8
  go_wp2_with fail
  refine CG.out.mono ?_
  rintro e w9 ⟨rfl, hO, hk9⟩
  have hx9 := hk9.box HX8.out (.inr HXK.out)
  obtain ⟨Y, hY⟩ : ∃ Y, Y = w9.alloc e3.obj := ⟨_, rfl⟩
  have hbY : Below w9.heap.size w9 Y := by rw [hY]; exact bl_al (Below.refl _ _) _
  have hy : BxE Y w9.heap.size e3 := by rw [hY]; exact BxE.new w9 e3
  have hxY := hx9.keep (tch_new hbY) (fun h => h)
  have hO2 := hO.grow hbY
  have hxy : x < w9.heap.size := hx9.lt
  obtain ⟨y, hye⟩ : ∃ y, y = w9.heap.size := ⟨_, rfl⟩
  rw [← hye] at hy hO2
  have HKY : Hid (∀ wx, Kpt _ Y wx → BxE wx x e1 ∧ BxE wx y e3) := Lib.hid (fun wx (hk : Kpt (fun k => k = x ∨ k = y) Y wx) => ⟨hk.box hxY (.inl rfl), hk.box hy (.inr rfl)⟩)
  have HKK : Hid (∀ V w', Below Y.heap.size Y V → Kpt _ V w' → Kpt (fun k => k = x ∨ k = y) Y w') := Lib.hid (fun V w' hb (hk : Kpt (fun k => (k < w.heap.size ∨ x ≤ k ∧ k < X.heap.size) ∨ y ≤ k ∧ k < Y.heap.size) V w') k hk2 => by
    have h1 := HXK.out
    have h2 := hy.lt
    rcases hk2 with rfl | rfl
    · exact (hk _ (.inl (.inr h1))).trans (hb.block _ (by omega))
    · exact (hk _ (.inr ⟨Nat.le_refl _, h2⟩)).trans (hb.block _ h2))
  have HKB : Hid (∀ V, Below Y.heap.size Y V → Kpt (fun k => k = x ∨ k = y) Y V) := Lib.hid (fun V hb k hk => hb.block k (by have h2 := hy.lt; rcases hk with rfl | rfl <;> omega))
  have HO := Lib.hid hO2
  have HY := Lib.hid (And.intro hY hye)
  have hx0 := hxY.cs
  have hy0 := hy.cs
  have F1 : e1.f = exF 1 := by rw [HE1.out]; rfl
  have hq := flow_eql e1.f (exF 1)
  rw [show eqF e1.f (exF 1) = true by rw [eqF_is]; exact decide_eq_true F1] at hq
  have HAT : Hid ((touchE 1 (exF 2) 16 3 [al2, e3]).1 = true) := Lib.hid (by rw [he3]; exact alT)
  have g1 : (e3.dip == 8) = true := by rw [he3]; rfl
  have g2 : (e3.ep == 5) = true := by rw [he3]; rfl
  have g3 : (e3.la == 2) = true := by rw [he3]; rfl
  clear CG hO hk9 hx9 hbY hy hxY hO2 hye hY he3 HX8 F1 hxy
  go_upto_region 8 with fail
  rw [← HY.out.1, ← HY.out.2]
  clear HY
  have HBx := Lib.hid (show ∀ wx, Kpt (fun k => k = x ∨ k = y) Y wx → wx.cell? ⟨x, 0, none⟩ = some (.int .i64 e1.f.p) ∧ wx.cell? ⟨x, 1, none⟩ = some (.int .u32 e1.f.s) ∧ wx.cell? ⟨x, 2, none⟩ = some (.int .i64 e1.f.sp) ∧ wx.cell? ⟨x, 3, none⟩ = some (.int .u32 e1.f.d) ∧ wx.cell? ⟨x, 4, none⟩ = some (.int .i64 e1.f.dp) ∧ wx.cell? ⟨y, 5, none⟩ = some (.int .u32 e3.dip) ∧ wx.cell? ⟨y, 6, none⟩ = some (.int .i64 e3.ep) ∧ wx.cell? ⟨y, 9, none⟩ = some (.int .i64 e3.la) from fun wx hk => by
    obtain ⟨h1, h2⟩ := HKY.out wx hk
    obtain ⟨x0, x1, x2, x3, x4, _⟩ := h1.cs
    obtain ⟨_, _, _, _, _, y5, y6, _, _, y9⟩ := h2.cs
    exact ⟨x0, x1, x2, x3, x4, y5, y6, y9⟩)
  have hd0 : Below Y.heap.size Y Y.drew := (Below.refl _ _).drew
  have hS0 := HBx.out _ (HKB.out _ hd0)
  have CE1 := Lib.hid (CE.out 1)
  have CE2 := Lib.hid (CE.out 2)
  have CT : Hid (∀ V, Below Y.heap.size Y V → Calls Try.prog 17 #[.pointer (some ⟨p, 0, none⟩), (exF 2).val, .int .i64 16, .int .i64 3] V fun e w' => e = .returned (.bool true) ∧ Below w.heap.size w w' ∧ Kpt (fun k => k = x ∨ k = y) Y w') := Lib.hid (fun V hb => by
    have h1 := (HO.out.new hb).1.touch (exF 2) 16 3 (by simp) (exF_fit (by unfold InN; omega)) (by unfold InN; omega) (by unfold InN; omega)
    rw [HAT.out] at h1
    refine h1.mono ?_
    rintro e w' ⟨he, h2, h3⟩
    exact ⟨he, h2.bel, HKK.out V w' hb h3⟩)
  clear hx0 hy0 CE
  go_region_held3 (fun wx => wx.cell? ⟨x, 0, none⟩ = some (.int .i64 e1.f.p) ∧ wx.cell? ⟨x, 1, none⟩ = some (.int .u32 e1.f.s) ∧ wx.cell? ⟨x, 2, none⟩ = some (.int .i64 e1.f.sp) ∧ wx.cell? ⟨x, 3, none⟩ = some (.int .u32 e1.f.d) ∧ wx.cell? ⟨x, 4, none⟩ = some (.int .i64 e1.f.dp) ∧ wx.cell? ⟨y, 5, none⟩ = some (.int .u32 e3.dip) ∧ wx.cell? ⟨y, 6, none⟩ = some (.int .i64 e3.ep) ∧ wx.cell? ⟨y, 9, none⟩ = some (.int .i64 e3.la)) (first | (with_reducible exact hS0) | (with_reducible exact hS7) | (with_reducible exact hS8) | (with_reducible exact hS9) | (with_reducible assumption) | fail)
    (first | (go_at_call 52; (with_reducible refine (CE1.out _).mono ?_); rintro e w11 ⟨rfl, hb⟩; have hb7 := bl_tr hd0 hb; have hS7 := HBx.out _ (HKB.out _ hb7)) | (go_at_call 52; (with_reducible refine (CE2.out _).mono ?_); rintro e w12 ⟨rfl, hb⟩; have hb8 := bl_tr hb7 hb; have hS8 := HBx.out _ (HKB.out _ hb8)) | (go_at_call 17; (with_reducible refine (CT.out _ hb8).mono ?_); rintro e w13 ⟨rfl, hb9, hk9⟩; have hS9 := HBx.out _ hk9) | fail)
  all_goals
    go_wp2
    go_ret
    exact ⟨rfl, hb9⟩
end Go.Proofs.Ytpbgccidhpfmgaa
