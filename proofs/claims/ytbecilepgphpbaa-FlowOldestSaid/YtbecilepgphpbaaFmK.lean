/- The program's table: makeRoom. Conditions: as each states. -/
import Derived.Test.YtbecilepgphpbaaFmO
namespace Go.Proofs.Ytbecilepgphpbaa
open Go Go.RowKit Go.Maps
set_option linter.unusedVariables false
set_option linter.unusedSimpArgs false

theorem res_box (w : World) : ∃ W, w.alloc (.cells zeroE tyE) = W ∧ BxE W w.heap.size en0 ∧ Below w.heap.size w W ∧ W.heap.size = w.heap.size + 1 := ⟨_, rfl, zero_new w, bl_al (Below.refl _ _) _, by simp⟩
theorem old_is_some {l : List En} (h : 0 < unE l) : ∃ o, oldE l = some o := by
  cases ho : oldE l with
  | some o => exact ⟨o, rfl⟩
  | none =>
    have h1 := (old_none ho).2
    have h2 : unE l = 0 := by
      unfold unE
      rw [List.countP_eq_zero]
      intro e he
      rw [h1 e he]
      simp
    omega
/-- What makeRoom leaves. -/
def Mkr (w : World) (B : Nat) (F : Nat → Prop) (p : Nat) (qt qu : Int) (l : List En) (e : Ending) (w' : World) : Prop :=
  ((unE l : Int) < qu ∧ e = .returned (.tuple #[en0.val, .bool false]) ∧ TTo TSt w B F p qt qu l w') ∨ (¬ (unE l : Int) < qu ∧ ∃ o, oldE l = some o ∧ e = .returned (.tuple #[o.val, .bool true]) ∧ TTo TSt w B F p qt qu (cutE o.f l) w')
set_option maxRecDepth 100000 in
set_option maxHeartbeats 4000000 in
theorem mk_c (B p : Nat) (F : Nat → Prop) (qt qu : Int) (l : List En) (w : World) (h : TSt w B F p qt qu l) (hB : B ≤ w.heap.size) (hn : l.length ≤ 1048576) (hq0 : 0 < qu) :
    Calls Try.prog 35 #[.pointer (some ⟨p, 0, none⟩)] w (Mkr w B F p qt qu l) := by
  obtain ⟨b, hF, hne, hc, hm⟩ := h.map
  obtain ⟨W, hW, hz, hb1, hsz⟩ := res_box w
  have hTW : TSt W B F p qt qu l := h.keep (tch_new hb1) (fun _ _ h => h)
  have CL := Lib.hid (tlen_b B p F qt qu l W hTW (by omega) hn)
  have hpl : p < w.heap.size := hc.lt
  have hbl : b < w.heap.size := hm.lt
  obtain ⟨q, hq⟩ : ∃ q, q = w.heap.size := ⟨_, rfl⟩
  rw [← hq] at hz hsz hpl hbl
  have HW := Lib.hid hW
  have HQ := Lib.hid hq
  have HT := Lib.hid h
  have HTW := Lib.hid hTW
  have HB := Lib.hid hb1
  have HZ := Lib.hid hz
  have HTB := Lib.hid (hc.tch (tch_new hb1) (fun h => h))
  have HMP := Lib.hid (hm.tch (tch_new hb1) (fun h => h))
  have HF := Lib.hid hF
  have HNE := Lib.hid hne
  clear hc hm h hTW hW hb1 hq hz hF hne
  go_enter Try.func35, Try.ntmps35
  go_upto_region 1 with fail
  rw [HW.out, ← HQ.out]
  go_wp2_with fail
  refine CL.out.mono ?_
  rintro e w1 ⟨rfl, hb2⟩
  have ht1 := tch_new hb2
  have HTB1 := Lib.hid (HTB.out.tch ht1 (fun h => h))
  have HMP1 := Lib.hid (HMP.out.tch ht1 (fun h => h))
  have HZ1 := Lib.hid (HZ.out.keep ht1 (fun h => h))
  have HB1 := Lib.hid (show Below w.heap.size w w1 from HB.out.trans (ht1.below (fun _ h => h.elim) HB.out.size))
  have HT1 := Lib.hid (HTW.out.keep ht1 (fun _ _ h => h))
  have hs1 : q < w1.heap.size := by have := ht1.size; omega
  clear hb2 ht1 CL
  have c1 := HTB1.out.cs.2.1
  by_cases hlt : (unE l : Int) < qu
  · obtain ⟨b0, b1, b2, b3, b4, b5, b6, b7, b8, b9⟩ := HZ1.out.cs
    have bf := HZ1.out.free
    obtain ⟨W3, hW3⟩ : ∃ v, v = stE w1 q en0 := ⟨_, rfl⟩
    have hx3 : BxE W3 q en0 := by rw [hW3]; exact HZ1.out.set en0
    have HB3 : Hid (Below w.heap.size w W3) := Lib.hid (by rw [hW3]; exact bl_st HB1.out (by rw [HQ.out]; exact Nat.le_refl _) en0)
    dsimp only [stE] at hW3
    have HW3 := Lib.hid hW3
    have HLT := Lib.hid hlt
    clear hW3
    go_wp2
    have hw3 := HW3.out
    simp only [en0, fl0] at hw3
    rw [← hw3]
    obtain ⟨a0, a1, a2, a3, a4, a5, a6, a7, a8, a9⟩ := hx3.cs
    refine bodyPost_ret (v := .tuple #[en0.val, .bool false]) (by simp [results, Try.results35, go_sem, a0, a1, a2, a3, a4, a5, a6, a7, a8, a9]) rfl ?_
    exact .inl ⟨HLT.out, rfl, HT.out.stay HB3.out⟩
  · obtain ⟨o, ho⟩ := old_is_some (l := l) (by omega)
    have CO := oldest_c B p F qt qu l w1 HT1.out hn
    rw [ho] at CO
    have HO := Lib.hid ho
    have HLT := Lib.hid hlt
    obtain ⟨hol, hotr⟩ := old_is ho
    have HOL := Lib.hid hol
    have HOT := Lib.hid hotr
    clear ho hol hotr
    go_wp2_with fail
    refine CO.mono ?_
    rintro e w2 ⟨rfl, hb2⟩
    clear c1 CO
    have ht2 := tch_new hb2
    obtain ⟨w3, hw3⟩ : ∃ v, v = w2.alloc o.obj := ⟨_, rfl⟩
    have ht3 : Tch Non w1 w3 := ht2.trans (by rw [hw3]; exact tch_new (bl_al (Below.refl _ _) _))
    obtain ⟨s, hs⟩ : ∃ s, s = w2.heap.size := ⟨_, rfl⟩
    have hss : q < s := by rw [hs]; have := ht2.size; omega
    have HX3 := Lib.hid (show BxE w3 s o by rw [hw3, hs]; exact BxE.new w2 o)
    have HTB3 := Lib.hid (HTB1.out.tch ht3 (fun h => h))
    have HMP3 := Lib.hid (HMP1.out.tch ht3 (fun h => h))
    have HZ3 := Lib.hid (HZ1.out.keep ht3 (fun h => h))
    have HB3 := Lib.hid (show Below w.heap.size w w3 from HB1.out.trans (ht3.below (fun _ h => h.elim) HB1.out.size))
    have HW3 := Lib.hid hw3
    have HSS := Lib.hid hs
    clear hb2 ht2 ht3 hw3 hs
    go_upto_region 5 with fail
    rw [← HSS.out, ← HW3.out]
    obtain ⟨e0, e1, e2, e3, e4, e5, e6, e7, e8, e9⟩ := HX3.out.cs
    have t2 := HTB3.out.cs.2.2.1
    have hfo : FitF o.f := (HT.out.fit o HOL.out).f
    obtain ⟨w4, hr4, hm4, ht4, hs4⟩ := (HMP3.out.block (w' := w3.drew) rfl).drop HT.out.srt hfo 0
    have ht4' : Tch (· = b) w3 w4 := ⟨ht4.os, ht4.tape, ht4.output, ht4.size, ht4.block⟩
    have hbs : ¬ s = b := by omega
    have hbq : ¬ q = b := by omega
    have HX4 := Lib.hid (HX3.out.keep ht4' hbs)
    have HZ4 := Lib.hid (HZ3.out.keep ht4' hbq)
    have HTB4 := Lib.hid (HTB3.out.tch ht4' (fun (e : p = b) => HNE.out e.symm))
    have HM4 := Lib.hid hm4
    have HT4 := Lib.hid (show Tch (fun k => k = b ∨ k = p) w w4 from ((tch_new HB3.out).mono (fun _ h => h.elim)).trans (ht4'.mono (fun k e => .inl e)))
    have HS4 := Lib.hid hs4
    have hS0 : w3.drew.cell? ⟨p, 2, none⟩ = some (.map (some b)) ∧ w3.drew.cell? ⟨s, 0, none⟩ = some (.int .i64 o.f.p) ∧ w3.drew.cell? ⟨s, 1, none⟩ = some (.int .u32 o.f.s) ∧ w3.drew.cell? ⟨s, 2, none⟩ = some (.int .i64 o.f.sp) ∧ w3.drew.cell? ⟨s, 3, none⟩ = some (.int .u32 o.f.d) ∧ w3.drew.cell? ⟨s, 4, none⟩ = some (.int .i64 o.f.dp) := ⟨t2, e0, e1, e2, e3, e4⟩
    have hS4 : w4.cell? ⟨p, 2, none⟩ = some (.map (some b)) ∧ w4.cell? ⟨s, 0, none⟩ = some (.int .i64 o.f.p) ∧ w4.cell? ⟨s, 1, none⟩ = some (.int .u32 o.f.s) ∧ w4.cell? ⟨s, 2, none⟩ = some (.int .i64 o.f.sp) ∧ w4.cell? ⟨s, 3, none⟩ = some (.int .u32 o.f.d) ∧ w4.cell? ⟨s, 4, none⟩ = some (.int .i64 o.f.dp) := ⟨ht4'.cell t2 (fun (e : p = b) => HNE.out e.symm), ht4'.cell e0 hbs, ht4'.cell e1 hbs, ht4'.cell e2 hbs, ht4'.cell e3 hbs, ht4'.cell e4 hbs⟩
    clear hm4 ht4 ht4' e0 e1 e2 e3 e4 e5 e6 e7 e8 e9 t2 hs4
    go_region_held3 (fun wx => wx.cell? ⟨p, 2, none⟩ = some (.map (some b)) ∧ wx.cell? ⟨s, 0, none⟩ = some (.int .i64 o.f.p) ∧ wx.cell? ⟨s, 1, none⟩ = some (.int .u32 o.f.s) ∧ wx.cell? ⟨s, 2, none⟩ = some (.int .i64 o.f.sp) ∧ wx.cell? ⟨s, 3, none⟩ = some (.int .u32 o.f.d) ∧ wx.cell? ⟨s, 4, none⟩ = some (.int .i64 o.f.dp)) (first | (with_reducible exact hS0) | (with_reducible exact hS4) | fail)
      (first | fail)
    clear hS0 hS4
    obtain ⟨e0, e1, e2, e3, e4, e5, e6, e7, e8, e9⟩ := HX4.out.cs
    obtain ⟨b0, b1, b2, b3, b4, b5, b6, b7, b8, b9⟩ := HZ4.out.cs
    have bf := HZ4.out.free
    obtain ⟨W5, hW5⟩ : ∃ v, v = stE w4 q o := ⟨_, rfl⟩
    have hx5 : BxE W5 q o := by rw [hW5]; exact HZ4.out.set o
    have ht5 : Tch (· = q) w4 W5 := by rw [hW5]; exact stE_tch _ _ _
    have HTO := Lib.hid (show TTo TSt w B F p qt qu (cutE o.f l) W5 from by
      have h9 : Tch (fun k => k = b ∨ k = p) w W5 := HT4.out.trans' ht5 (fun k hk e => by have := HQ.out; omega)
      have hcn : trE (cutE o.f l) = trE l := by
        have h1 := trE_perm (cut_perm HT.out.srt (findE_mem HT.out.srt HOL.out rfl))
        rw [trE_cons, HOT.out] at h1
        simpa [one] using h1.symm
      refine HT.out.set HF.out HNE.out h9 (HT.out.srt.cut o.f) (fun e he => HT.out.fit e (List.mem_filter.1 he).1) ?_ (HM4.out.tch ht5 (fun (e : b = q) => by omega))
      rw [hcn]
      exact HTB4.out.tch ht5 (fun (e : p = q) => by omega))
    dsimp only [stE] at hW5
    have HW5 := Lib.hid hW5
    clear hW5 ht5
    go_wp2
    rw [← HW5.out]
    obtain ⟨a0, a1, a2, a3, a4, a5, a6, a7, a8, a9⟩ := hx5.cs
    refine bodyPost_ret (v := .tuple #[o.val, .bool true]) (by simp [results, Try.results35, go_sem, a0, a1, a2, a3, a4, a5, a6, a7, a8, a9]) rfl ?_
    exact .inr ⟨Int.not_lt.2 HLT.out, o, HO.out, rfl, HTO.out⟩
end Go.Proofs.Ytbecilepgphpbaa
