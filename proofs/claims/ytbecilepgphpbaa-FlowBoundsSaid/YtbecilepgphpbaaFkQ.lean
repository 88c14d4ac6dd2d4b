/- Contract of towpathlaw11.quotas: it returns true. Conditions: the script came in and has fewer than 2^60 calls. -/
import Derived.Test.YtbecilepgphpbaaO11
import Derived.Test.YtbecilepgphpbaaFqP
namespace Go.Proofs.Ytbecilepgphpbaa
open Go Go.RowKit
set_option linter.unusedVariables false
set_option linter.unusedSimpArgs false

theorem errNe (k : Int) (hk : k = 9 ∨ k = 4 ∨ k = 5) (w : World) : (binOp .neq 26 (errnoF k) .nilIface).run Try.prog w = .ok (.bool true) w := by
  rcases hk with rfl | rfl | rfl <;> kernel_rfl
theorem errEl (k : Int) (hk : k = 9 ∨ k = 4 ∨ k = 5) (w : World) : (binOp .eql 26 (errnoF k) .nilIface).run Try.prog w = .ok (.bool false) w := by
  rcases hk with rfl | rfl | rfl <;> kernel_rfl
/-- A new block, to be left alone too. -/
theorem TOn.box {w0 w W : World} {p : Nat} {qt qu : Int} {l : List En} {K : Nat → Prop} (h : TOn w0 w p qt qu l K) {o : Obj} (hW : W = w.alloc o) : TOn w0 W p qt qu l (fun k => K k ∨ k = w.heap.size) ∧ Kpt K w W := by
  subst hW
  have hb := bl_al (Below.refl w.heap.size w) o
  exact ⟨(h.grow hb).less (fun k hk => hk.imp id (fun e => by subst e; exact ⟨Nat.le_refl _, by simp⟩)), (h.new hb).2⟩
theorem getR_val (o : Option En) : getR o = .tuple #[(o.getD en0).val, .bool o.isSome] := rfl
theorem bx_new {w W : World} {e : En} (hW : W = w.alloc e.obj) : BxE W w.heap.size e := by subst hW; exact BxE.new w e
set_option maxRecDepth 100000 in
set_option maxHeartbeats 16000000 in
theorem quotas_t (qt qu : Int) (ao : Option Addr) (n c : Nat) (os : List OpR) (w : World) (h1 : InN qt) (h2 : InN qu) (hI : SFIn w ao n os) (hn : n ≤ 1152921504606846976) (hl : ∀ j, j < n → (os.getD j opR).n ≤ 1152921504606846976) :
    Calls Try.prog 28 #[.int .i64 qt, .int .i64 qu, .slice ao n c] w fun e w' => e = .returned (.bool true) ∧ Below w.heap.size w w' := by
  have en := nilNe
  have ee := nilEl
  have CA := Lib.hid (alive11_any w)
  have CL := Lib.hid (fun U (hU : Below w.heap.size w U) => longF_t ao n c os U (hI.below hU) hn hl)
  have HI := Lib.hid hI
  clear hI hl
  unfold InN at h1 h2
  go_enter Try.func28, Try.ntmps28
  go_wp2_with fail
  refine CA.out.mono ?_
  rintro e w1 ⟨rfl, hb⟩
  have CL1 := Lib.hid (CL.out w1 hb)
  have HB1 := Lib.hid hb
  clear hb CA CL
  by_cases n0 : qt < 0
  · go_wp2
    go_ret
    exact ⟨rfl, HB1.out⟩
  by_cases n1 : 4096 < qt
  · go_wp2
    go_ret
    exact ⟨rfl, HB1.out⟩
  by_cases n2 : qu < 0
  · go_wp2
    go_ret
    exact ⟨rfl, HB1.out⟩
  by_cases n3 : 4096 < qu
  · go_wp2
    go_ret
    exact ⟨rfl, HB1.out⟩
  have HQ : Hid (OkQ qt ∧ OkQ qu) := Lib.hid (by unfold OkQ; omega)
  go_wp2_with fail
  refine CL1.out.mono ?_
  rintro e w2 ⟨z, rfl, hb, hz⟩
  have HB2 := Lib.hid (bl_tr HB1.out hb)
  have HZ := Lib.hid hz
  clear hb CL1 HB1 hz
  cases z with
  | true =>
    go_wp2
    go_ret
    exact ⟨rfl, HB2.out⟩
  | false =>
    have hn8 : n ≤ 400 := (HZ.out rfl).1
    have CN := Lib.hid (tnew_t qt qu w2 h1 h2)
    clear HZ hn
    go_wp2_with fail
    refine CN.out.mono ?_
    rintro e w3 hW
    obtain ⟨p, rfl, hO⟩ := TOn.made HQ.out hW
    have HO0 : Hid (∃ l, InvQ qt qu l ∧ TOn w2 w3 p qt qu l (fun k => k < w2.heap.size)) := Lib.hid ⟨[], by have := HQ.out; unfold OkQ at this; unfold InvQ; simp [trE, unE]; omega, hO⟩
    clear CN hW hO
    go_wp2
    go_loopw [56] (fun iv wr => ∃ j : Nat, j ≤ n ∧ iv = .int .i64 j ∧ Hid (∃ l, InvQ qt qu l ∧ TOn w2 wr p qt qu l (fun k => k < w2.heap.size))) (fun iv _ => n - (intOf iv).toNat)
    case atStart => exact ⟨0, by omega, rfl, HO0⟩
    case round =>
      obtain ⟨j, hj, rfl, HL⟩ := hrel
      obtain ⟨w4, rfl⟩ : ∃ v, v = wr := ⟨_, rfl⟩
      clear HO0
      by_cases hlj : j < n
      · have ilj : (j : Int) < (n : Int) := by omega
        have j0 : (0 : Int) ≤ (j : Int) := by omega
        obtain ⟨l, hinv, hO⟩ := HL.out
        have hIr := HI.out.below (HB2.out.trans (hO.bel.mono HB2.out.size))
        obtain ⟨b, off, rfl⟩ := hIr.block (by omega)
        have hft := hIr.fit j hlj
        obtain ⟨o, ho⟩ : ∃ o, o = os.getD j opR := ⟨_, rfl⟩
        obtain ⟨e0, e1, e2, e3, e4, e5, e6, e7, e8, e9, e10⟩ := hIr.cells hlj ho.symm
        rw [← ho] at hft
        have HF := Lib.hid hft.1
        have HSR := Lib.hid hO.srt
        have HV := Lib.hid hinv
        have hll := hinv.len HQ.out
        obtain ⟨X, hX⟩ : ∃ X, X = w4.alloc (.cells (o.o.cells o.a o.n o.c) tyO) := ⟨_, rfl⟩
        have hx : BxO X w4.heap.size o.o o.a o.n o.c := by rw [hX]; exact BxO.new w4 o.o o.a o.n o.c
        obtain ⟨hO1, _⟩ := hO.box hX
        obtain ⟨q, hq⟩ : ∃ q, q = w4.heap.size := ⟨_, rfl⟩
        rw [← hq] at hx hO1
        have HX := Lib.hid (And.intro hX hq)
        have HXB := Lib.hid hx
        have CG := Lib.hid (hO1.get o.o.f (by omega) HF.out.f)
        rw [getR_val] at CG
        obtain ⟨x0, x1, x2, x3, x4, x5, x6, x7, x8, x9, x10⟩ := hx.cs
        clear hO hO1 hIr ho hft hX hq hx HL hinv
        go_upto_region 11 with fail
        rw [← HX.out.1, ← HX.out.2]
        clear HX e0 e1 e2 e3 e4 e5 e6 e7 e8 e9 e10
        go_wp2_with fail
        refine CG.out.mono ?_
        rintro e w5 ⟨rfl, hO1, hk1⟩
        have hx5 := HXB.out.kept hk1 (.inr rfl)
        obtain ⟨g0, hg0⟩ : ∃ g, g = findE o.o.f l := ⟨_, rfl⟩
        rw [← hg0]
        obtain ⟨Y, hY⟩ : ∃ Y, Y = w5.alloc (g0.getD en0).obj := ⟨_, rfl⟩
        obtain ⟨hO2, hk2⟩ := hO1.box hY
        have hy := bx_new hY
        have hx6 := hx5.kept hk2 (.inr rfl)
        obtain ⟨a, ha⟩ : ∃ a, a = w5.heap.size := ⟨_, rfl⟩
        rw [← ha] at hO2 hy
        have HY := Lib.hid (And.intro hY ha)
        have HYB := Lib.hid hy
        have HXB := Lib.hid hx6
        have HO2 := Lib.hid hO2
        have HG := Lib.hid hg0
        clear CG hO1 hk1 hx5 hY hO2 hk2 hy ha hg0 x0 x1 x2 x3 x4 x5 x6 x7 x8 x9 x10
        obtain ⟨x0, x1, x2, x3, x4, x5, x6, x7, x8, x9, x10⟩ := hx6.cs
        clear hx6
        obtain ⟨was, hwas⟩ : ∃ e, e = g0.getD en0 := ⟨_, rfl⟩
        obtain ⟨bef, hbef⟩ : ∃ e, e = g0.isSome := ⟨_, rfl⟩
        rw [← hwas] at HY HYB
        rw [← hwas, ← hbef]
        have HW := Lib.hid (And.intro hwas hbef)
        clear hwas hbef
        go_upto_region 12 with fail
        rw [← HY.out.1, ← HY.out.2]
        clear HY
        by_cases k0 : o.o.kind = 0
        · have kb0 : (o.o.kind == 0) = true := by simp [k0]
          have CP := Lib.hid (HO2.out.put o.o.f o.o.dip o.o.ep o.o.now (by omega) HF.out.f HF.out.dip HF.out.ep HF.out.now)
          obtain ⟨hv2, hpw⟩ := put_ways (f := o.o.f) (dip := o.o.dip) (ep := o.o.ep) (now := o.o.now) HSR.out HV.out HQ.out.2.1
          have HV2 := Lib.hid hv2
          clear k0 hv2
          rcases hpw with ⟨kk, hkk, hp⟩ | ⟨e9, m, hf, hp, hfm⟩ | ⟨m, hf, hp, hfm⟩ | ⟨o9, m, hf, hot, hp, hfm⟩
          · rw [hp] at CP HV2
            have hpv : putV (none, kk, l) = .tuple #[en0.val, .bool false, errnoF kk] := by
              rcases hkk with rfl | rfl | rfl <;> rfl
            rw [hpv] at CP
            have eq1 := errNe kk hkk
            have eq2 := errEl kk hkk
            clear hpv hkk hp
            have hml := HV2.out.len HQ.out
            simp only at hml CP HV2
            go_wp2_with fail
            refine CP.out.mono ?_
            rintro e w6 ⟨rfl, hO3, hk3⟩
            have hx7 := HXB.out.kept hk3 (.inl (.inr rfl))
            have hy7 := hk3.box HYB.out (.inr rfl)
            obtain ⟨V, hV⟩ : ∃ V, V = w6.alloc (En.obj en0) := ⟨_, rfl⟩
            obtain ⟨hO4, hk4⟩ := hO3.box hV
            have hv := bx_new hV
            have hx8 := hx7.kept hk4 (.inl (.inr rfl))
            have hy8 := hk4.box hy7 (.inr rfl)
            obtain ⟨v, hve⟩ : ∃ v, v = w6.heap.size := ⟨_, rfl⟩
            rw [← hve] at hO4 hv
            have HVV := Lib.hid (And.intro hV hve)
            have HXB := Lib.hid hx8
            have HYB := Lib.hid hy8
            obtain ⟨v0, v1, v2, v3, v4, v5, v6, v7, v8, v9⟩ := hv.cs
            have CG := Lib.hid (hO4.get o.o.f (by omega) HF.out.f)
            obtain ⟨g1, hg1⟩ : ∃ g, g = findE o.o.f l := ⟨_, rfl⟩
            rw [← hg1, getR_val] at CG
            clear hg1
            clear CP hO3 hk3 hx7 hy7 hV hO4 hk4 hv hy8 hve x0 x1 x2 x3 x4 x5 x6 x7 x8 x9 x10
            obtain ⟨x0, x1, x2, x3, x4, x5, x6, x7, x8, x9, x10⟩ := hx8.cs
            clear hx8
            go_upto_region 16 with fail
            rw [← HVV.out.1, ← HVV.out.2]
            clear HVV
            go_wp2_with fail
            refine CG.out.mono ?_
            rintro e w7 ⟨rfl, hO5, hk5⟩
            have hx9 := HXB.out.kept hk5 (.inl (.inl (.inr rfl)))
            have hy9 := hk5.box HYB.out (.inl (.inr rfl))
            obtain ⟨Z, hZ⟩ : ∃ Z, Z = w7.alloc (En.obj (g1.getD en0)) := ⟨_, rfl⟩
            obtain ⟨hO6, hk6⟩ := hO5.box hZ
            have hz := bx_new hZ
            have hx10 := hx9.kept hk6 (.inl (.inl (.inr rfl)))
            have hy10 := hk6.box hy9 (.inl (.inr rfl))
            obtain ⟨d, hd⟩ : ∃ d, d = w7.heap.size := ⟨_, rfl⟩
            rw [← hd] at hO6 hz
            have HZ := Lib.hid (And.intro hZ hd)
            have HO6 := Lib.hid hO6
            clear CG hO5 hk5 hx9 hy9 hZ hO6 hk6 hd v0 v1 v2 v3 v4 v5 v6 v7 v8 v9 x0 x1 x2 x3 x4 x5 x6 x7 x8 x9 x10
            obtain ⟨x0, x1, x2, x3, x4, x5, x6, x7, x8, x9, x10⟩ := hx10.cs
            obtain ⟨y0, y1, y2, y3, y4, y5, y6, y7, y8, y9⟩ := hy10.cs
            obtain ⟨z0, z1, z2, z3, z4, z5, z6, z7, z8, z9⟩ := hz.cs
            clear hx10 hy10 hz
            go_upto_region 19 with fail
            rw [← HZ.out.1, ← HZ.out.2]
            clear HZ
            have hlen := HV2.out.len HQ.out
            have CLn := Lib.hid (HO6.out.len (by omega))
            go_wp2_with fail
            refine CLn.out.mono ?_
            rintro e u1 ⟨rfl, hO, _⟩
            have CAl := Lib.hid (hO.all (by omega))
            have i1 : ¬ qt < (trE l : Int) := by have := HV2.out.1; omega
            have i2 : ¬ qu < (unE l : Int) := by have := HV2.out.2; omega
            have i3 : ¬ (trE l : Int) < 0 := by omega
            have i4 : ¬ (unE l : Int) < 0 := by omega
            have htu := tr_un l
            have htl : trE l ≤ 8192 := by omega
            have hul : unE l ≤ 8192 := by omega
            have i5 : ((l.length : Int) != (trE l : Int) + (unE l : Int)) = false := by simp; omega
            clear hO CLn
            go_wp2_with fail
            refine CAl.out.mono ?_
            rintro e u2 ⟨a9, c9, rfl, _, hO, _⟩
            have HO9 : Hid (∃ l, InvQ qt qu l ∧ TOn w2 u2 p qt qu l (fun k => k < w2.heap.size)) := Lib.hid ⟨l, HV2.out, hO.less (fun k hk => .inl (.inl (.inl (.inl (.inl hk)))))⟩
            clear hO CAl
            go_wp2
            go_roundw
            case rel => exact ⟨j + 1, by omega, by go_num, HO9⟩
            case measure => simp [intOf]; omega
          · rw [hp] at CP HV2
            rw [putV_none] at CP
            have hb0 : bef = true := by rw [HW.out.2, HG.out, hf]; rfl
            have hw0 : e9 = was := by rw [HW.out.1, HG.out, hf]; rfl
            rw [hw0] at hfm
            clear hp hf hw0
            have hml := HV2.out.len HQ.out
            simp only at hml CP HV2
            go_wp2_with fail
            refine CP.out.mono ?_
            rintro e w6 ⟨rfl, hO3, hk3⟩
            have hx7 := HXB.out.kept hk3 (.inl (.inr rfl))
            have hy7 := hk3.box HYB.out (.inr rfl)
            obtain ⟨V, hV⟩ : ∃ V, V = w6.alloc (En.obj en0) := ⟨_, rfl⟩
            obtain ⟨hO4, hk4⟩ := hO3.box hV
            have hv := bx_new hV
            have hx8 := hx7.kept hk4 (.inl (.inr rfl))
            have hy8 := hk4.box hy7 (.inr rfl)
            obtain ⟨v, hve⟩ : ∃ v, v = w6.heap.size := ⟨_, rfl⟩
            rw [← hve] at hO4 hv
            have HVV := Lib.hid (And.intro hV hve)
            have HXB := Lib.hid hx8
            have HYB := Lib.hid hy8
            obtain ⟨v0, v1, v2, v3, v4, v5, v6, v7, v8, v9⟩ := hv.cs
            have CG := Lib.hid (hO4.get o.o.f (by omega) HF.out.f)
            rw [hfm, getR_some] at CG
            clear hfm
            clear CP hO3 hk3 hx7 hy7 hV hO4 hk4 hv hy8 hve x0 x1 x2 x3 x4 x5 x6 x7 x8 x9 x10
            obtain ⟨x0, x1, x2, x3, x4, x5, x6, x7, x8, x9, x10⟩ := hx8.cs
            clear hx8
            go_upto_region 16 with fail
            rw [← HVV.out.1, ← HVV.out.2]
            clear HVV
            subst hb0
            go_wp2_with fail
            refine CG.out.mono ?_
            rintro e w7 ⟨rfl, hO5, hk5⟩
            have hx9 := HXB.out.kept hk5 (.inl (.inl (.inr rfl)))
            have hy9 := hk5.box HYB.out (.inl (.inr rfl))
            obtain ⟨Z, hZ⟩ : ∃ Z, Z = w7.alloc (En.obj (En.mk o.o.f o.o.dip o.o.ep was.tr false o.o.now)) := ⟨_, rfl⟩
            obtain ⟨hO6, hk6⟩ := hO5.box hZ
            have hz := bx_new hZ
            have hx10 := hx9.kept hk6 (.inl (.inl (.inr rfl)))
            have hy10 := hk6.box hy9 (.inl (.inr rfl))
            obtain ⟨d, hd⟩ : ∃ d, d = w7.heap.size := ⟨_, rfl⟩
            rw [← hd] at hO6 hz
            have HZ := Lib.hid (And.intro hZ hd)
            have HO6 := Lib.hid hO6
            clear CG hO5 hk5 hx9 hy9 hZ hO6 hk6 hd v0 v1 v2 v3 v4 v5 v6 v7 v8 v9 x0 x1 x2 x3 x4 x5 x6 x7 x8 x9 x10
            obtain ⟨x0, x1, x2, x3, x4, x5, x6, x7, x8, x9, x10⟩ := hx10.cs
            obtain ⟨y0, y1, y2, y3, y4, y5, y6, y7, y8, y9⟩ := hy10.cs
            obtain ⟨z0, z1, z2, z3, z4, z5, z6, z7, z8, z9⟩ := hz.cs
            clear hx10 hy10 hz
            go_upto_region 19 with fail
            rw [← HZ.out.1, ← HZ.out.2]
            clear HZ
            have gt : (was.tr != was.tr) = false := by simp
            have gd : (o.o.dip != o.o.dip) = false := by simp
            have ge : (o.o.ep != o.o.ep) = false := by simp
            have hlen := HV2.out.len HQ.out
            have CLn := Lib.hid (HO6.out.len (by omega))
            go_wp2_with fail
            refine CLn.out.mono ?_
            rintro e u1 ⟨rfl, hO, _⟩
            have CAl := Lib.hid (hO.all (by omega))
            have i1 : ¬ qt < (trE m : Int) := by have := HV2.out.1; omega
            have i2 : ¬ qu < (unE m : Int) := by have := HV2.out.2; omega
            have i3 : ¬ (trE m : Int) < 0 := by omega
            have i4 : ¬ (unE m : Int) < 0 := by omega
            have htu := tr_un m
            have htl : trE m ≤ 8192 := by omega
            have hul : unE m ≤ 8192 := by omega
            have i5 : ((m.length : Int) != (trE m : Int) + (unE m : Int)) = false := by simp; omega
            clear hO CLn
            go_wp2_with fail
            refine CAl.out.mono ?_
            rintro e u2 ⟨a9, c9, rfl, _, hO, _⟩
            have HO9 : Hid (∃ l, InvQ qt qu l ∧ TOn w2 u2 p qt qu l (fun k => k < w2.heap.size)) := Lib.hid ⟨m, HV2.out, hO.less (fun k hk => .inl (.inl (.inl (.inl (.inl hk)))))⟩
            clear hO CAl
            go_wp2
            go_roundw
            case rel => exact ⟨j + 1, by omega, by go_num, HO9⟩
            case measure => simp [intOf]; omega
          · rw [hp] at CP HV2
            rw [putV_none] at CP
            have hb0 : bef = false := by rw [HW.out.2, HG.out, hf]; rfl
            clear hp hf
            have hml := HV2.out.len HQ.out
            simp only at hml CP HV2
            go_wp2_with fail
            refine CP.out.mono ?_
            rintro e w6 ⟨rfl, hO3, hk3⟩
            have hx7 := HXB.out.kept hk3 (.inl (.inr rfl))
            have hy7 := hk3.box HYB.out (.inr rfl)
            obtain ⟨V, hV⟩ : ∃ V, V = w6.alloc (En.obj en0) := ⟨_, rfl⟩
            obtain ⟨hO4, hk4⟩ := hO3.box hV
            have hv := bx_new hV
            have hx8 := hx7.kept hk4 (.inl (.inr rfl))
            have hy8 := hk4.box hy7 (.inr rfl)
            obtain ⟨v, hve⟩ : ∃ v, v = w6.heap.size := ⟨_, rfl⟩
            rw [← hve] at hO4 hv
            have HVV := Lib.hid (And.intro hV hve)
            have HXB := Lib.hid hx8
            have HYB := Lib.hid hy8
            obtain ⟨v0, v1, v2, v3, v4, v5, v6, v7, v8, v9⟩ := hv.cs
            have CG := Lib.hid (hO4.get o.o.f (by omega) HF.out.f)
            rw [hfm, getR_some] at CG
            clear hfm
            clear CP hO3 hk3 hx7 hy7 hV hO4 hk4 hv hy8 hve x0 x1 x2 x3 x4 x5 x6 x7 x8 x9 x10
            obtain ⟨x0, x1, x2, x3, x4, x5, x6, x7, x8, x9, x10⟩ := hx8.cs
            clear hx8
            go_upto_region 16 with fail
            rw [← HVV.out.1, ← HVV.out.2]
            clear HVV
            subst hb0
            go_wp2_with fail
            refine CG.out.mono ?_
            rintro e w7 ⟨rfl, hO5, hk5⟩
            have hx9 := HXB.out.kept hk5 (.inl (.inl (.inr rfl)))
            have hy9 := hk5.box HYB.out (.inl (.inr rfl))
            obtain ⟨Z, hZ⟩ : ∃ Z, Z = w7.alloc (En.obj (En.mk o.o.f o.o.dip o.o.ep false false o.o.now)) := ⟨_, rfl⟩
            obtain ⟨hO6, hk6⟩ := hO5.box hZ
            have hz := bx_new hZ
            have hx10 := hx9.kept hk6 (.inl (.inl (.inr rfl)))
            have hy10 := hk6.box hy9 (.inl (.inr rfl))
            obtain ⟨d, hd⟩ : ∃ d, d = w7.heap.size := ⟨_, rfl⟩
            rw [← hd] at hO6 hz
            have HZ := Lib.hid (And.intro hZ hd)
            have HO6 := Lib.hid hO6
            clear CG hO5 hk5 hx9 hy9 hZ hO6 hk6 hd v0 v1 v2 v3 v4 v5 v6 v7 v8 v9 x0 x1 x2 x3 x4 x5 x6 x7 x8 x9 x10
            obtain ⟨x0, x1, x2, x3, x4, x5, x6, x7, x8, x9, x10⟩ := hx10.cs
            obtain ⟨y0, y1, y2, y3, y4, y5, y6, y7, y8, y9⟩ := hy10.cs
            obtain ⟨z0, z1, z2, z3, z4, z5, z6, z7, z8, z9⟩ := hz.cs
            clear hx10 hy10 hz
            go_upto_region 19 with fail
            rw [← HZ.out.1, ← HZ.out.2]
            clear HZ
            have gd : (o.o.dip != o.o.dip) = false := by simp
            have ge : (o.o.ep != o.o.ep) = false := by simp
            have hlen := HV2.out.len HQ.out
            have CLn := Lib.hid (HO6.out.len (by omega))
            go_wp2_with fail
            refine CLn.out.mono ?_
            rintro e u1 ⟨rfl, hO, _⟩
            have CAl := Lib.hid (hO.all (by omega))
            have i1 : ¬ qt < (trE m : Int) := by have := HV2.out.1; omega
            have i2 : ¬ qu < (unE m : Int) := by have := HV2.out.2; omega
            have i3 : ¬ (trE m : Int) < 0 := by omega
            have i4 : ¬ (unE m : Int) < 0 := by omega
            have htu := tr_un m
            have htl : trE m ≤ 8192 := by omega
            have hul : unE m ≤ 8192 := by omega
            have i5 : ((m.length : Int) != (trE m : Int) + (unE m : Int)) = false := by simp; omega
            clear hO CLn
            go_wp2_with fail
            refine CAl.out.mono ?_
            rintro e u2 ⟨a9, c9, rfl, _, hO, _⟩
            have HO9 : Hid (∃ l, InvQ qt qu l ∧ TOn w2 u2 p qt qu l (fun k => k < w2.heap.size)) := Lib.hid ⟨m, HV2.out, hO.less (fun k hk => .inl (.inl (.inl (.inl (.inl hk)))))⟩
            clear hO CAl
            go_wp2
            go_roundw
            case rel => exact ⟨j + 1, by omega, by go_num, HO9⟩
            case measure => simp [intOf]; omega
          · rw [hp] at CP HV2
            rw [putV_some] at CP
            have HOT := Lib.hid hot
            clear hot
            have hb0 : bef = false := by rw [HW.out.2, HG.out, hf]; rfl
            clear hp hf
            have hml := HV2.out.len HQ.out
            simp only at hml CP HV2
            go_wp2_with fail
            refine CP.out.mono ?_
            rintro e w6 ⟨rfl, hO3, hk3⟩
            have hx7 := HXB.out.kept hk3 (.inl (.inr rfl))
            have hy7 := hk3.box HYB.out (.inr rfl)
            obtain ⟨V, hV⟩ : ∃ V, V = w6.alloc (En.obj o9) := ⟨_, rfl⟩
            obtain ⟨hO4, hk4⟩ := hO3.box hV
            have hv := bx_new hV
            have hx8 := hx7.kept hk4 (.inl (.inr rfl))
            have hy8 := hk4.box hy7 (.inr rfl)
            obtain ⟨v, hve⟩ : ∃ v, v = w6.heap.size := ⟨_, rfl⟩
            rw [← hve] at hO4 hv
            have HVV := Lib.hid (And.intro hV hve)
            have HXB := Lib.hid hx8
            have HYB := Lib.hid hy8
            obtain ⟨v0, v1, v2, v3, v4, v5, v6, v7, v8, v9⟩ := hv.cs
            have CG := Lib.hid (hO4.get o.o.f (by omega) HF.out.f)
            rw [hfm, getR_some] at CG
            clear hfm
            clear CP hO3 hk3 hx7 hy7 hV hO4 hk4 hv hy8 hve x0 x1 x2 x3 x4 x5 x6 x7 x8 x9 x10
            obtain ⟨x0, x1, x2, x3, x4, x5, x6, x7, x8, x9, x10⟩ := hx8.cs
            clear hx8
            go_upto_region 16 with fail
            rw [← HVV.out.1, ← HVV.out.2]
            clear HVV
            rw [HOT.out] at v7
            subst hb0
            go_wp2_with fail
            refine CG.out.mono ?_
            rintro e w7 ⟨rfl, hO5, hk5⟩
            have hx9 := HXB.out.kept hk5 (.inl (.inl (.inr rfl)))
            have hy9 := hk5.box HYB.out (.inl (.inr rfl))
            obtain ⟨Z, hZ⟩ : ∃ Z, Z = w7.alloc (En.obj (En.mk o.o.f o.o.dip o.o.ep false false o.o.now)) := ⟨_, rfl⟩
            obtain ⟨hO6, hk6⟩ := hO5.box hZ
            have hz := bx_new hZ
            have hx10 := hx9.kept hk6 (.inl (.inl (.inr rfl)))
            have hy10 := hk6.box hy9 (.inl (.inr rfl))
            obtain ⟨d, hd⟩ : ∃ d, d = w7.heap.size := ⟨_, rfl⟩
            rw [← hd] at hO6 hz
            have HZ := Lib.hid (And.intro hZ hd)
            have HO6 := Lib.hid hO6
            clear CG hO5 hk5 hx9 hy9 hZ hO6 hk6 hd v0 v1 v2 v3 v4 v5 v6 v7 v8 v9 x0 x1 x2 x3 x4 x5 x6 x7 x8 x9 x10
            obtain ⟨x0, x1, x2, x3, x4, x5, x6, x7, x8, x9, x10⟩ := hx10.cs
            obtain ⟨y0, y1, y2, y3, y4, y5, y6, y7, y8, y9⟩ := hy10.cs
            obtain ⟨z0, z1, z2, z3, z4, z5, z6, z7, z8, z9⟩ := hz.cs
            clear hx10 hy10 hz
            go_upto_region 19 with fail
            rw [← HZ.out.1, ← HZ.out.2]
            clear HZ
            have gd : (o.o.dip != o.o.dip) = false := by simp
            have ge : (o.o.ep != o.o.ep) = false := by simp
            have hlen := HV2.out.len HQ.out
            have CLn := Lib.hid (HO6.out.len (by omega))
            go_wp2_with fail
            refine CLn.out.mono ?_
            rintro e u1 ⟨rfl, hO, _⟩
            have CAl := Lib.hid (hO.all (by omega))
            have i1 : ¬ qt < (trE m : Int) := by have := HV2.out.1; omega
            have i2 : ¬ qu < (unE m : Int) := by have := HV2.out.2; omega
            have i3 : ¬ (trE m : Int) < 0 := by omega
            have i4 : ¬ (unE m : Int) < 0 := by omega
            have htu := tr_un m
            have htl : trE m ≤ 8192 := by omega
            have hul : unE m ≤ 8192 := by omega
            have i5 : ((m.length : Int) != (trE m : Int) + (unE m : Int)) = false := by simp; omega
            clear hO CLn
            go_wp2_with fail
            refine CAl.out.mono ?_
            rintro e u2 ⟨a9, c9, rfl, _, hO, _⟩
            have HO9 : Hid (∃ l, InvQ qt qu l ∧ TOn w2 u2 p qt qu l (fun k => k < w2.heap.size)) := Lib.hid ⟨m, HV2.out, hO.less (fun k hk => .inl (.inl (.inl (.inl (.inl hk)))))⟩
            clear hO CAl
            go_wp2
            go_roundw
            case rel => exact ⟨j + 1, by omega, by go_num, HO9⟩
            case measure => simp [intOf]; omega
        · have kb0 : (o.o.kind == 0) = false := by simpa using k0
          by_cases k1 : o.o.kind = 1
          · have kb1 : (o.o.kind == 1) = true := by simp [k1]
            have CT := Lib.hid (HO2.out.touch o.o.f o.o.flags o.o.now (by omega) HF.out.f HF.out.flags HF.out.now)
            obtain ⟨hv2, htw⟩ := touch_ways (f := o.o.f) (flags := o.o.flags) (now := o.o.now) HSR.out HV.out
            obtain ⟨m, hm⟩ : ∃ m, m = (touchE qt o.o.f o.o.flags o.o.now l).2 := ⟨_, rfl⟩
            rw [← hm] at CT hv2 htw
            have HV2 := Lib.hid hv2
            have hml := hv2.len HQ.out
            clear k0 k1 hv2
            have HTW := Lib.hid htw
            clear htw hm
            go_wp2_with fail
            refine CT.out.mono ?_
            rintro e w6 ⟨rfl, hO3, hk3⟩
            have hx7 := HXB.out.kept hk3 (.inl (.inr rfl))
            have hy7 := hk3.box HYB.out (.inr rfl)
            have HYB := Lib.hid hy7
            have HXB := Lib.hid hx7
            have CG := Lib.hid (hO3.get o.o.f (by omega) HF.out.f)
            rw [getR_val] at CG
            clear CT hO3 hk3 hy7 x0 x1 x2 x3 x4 x5 x6 x7 x8 x9 x10
            obtain ⟨x0, x1, x2, x3, x4, x5, x6, x7, x8, x9, x10⟩ := hx7.cs
            clear hx7
            go_wp2_with fail
            refine CG.out.mono ?_
            rintro e w7 ⟨rfl, hO4, hk4⟩
            have hy8 := hk4.box HYB.out (.inr rfl)
            obtain ⟨g1, hg1⟩ : ∃ g, g = findE o.o.f m := ⟨_, rfl⟩
            rw [← hg1]
            obtain ⟨Z, hZ⟩ : ∃ Z, Z = w7.alloc (g1.getD en0).obj := ⟨_, rfl⟩
            obtain ⟨hO5, hk5⟩ := hO4.box hZ
            have hz := bx_new hZ
            have hy9 := hk5.box hy8 (.inr rfl)
            obtain ⟨d, hd⟩ : ∃ d, d = w7.heap.size := ⟨_, rfl⟩
            rw [← hd] at hO5 hz
            have HZ := Lib.hid (And.intro hZ hd)
            have HO5 := Lib.hid hO5
            obtain ⟨y0, y1, y2, y3, y4, y5, y6, y7, y8, y9⟩ := hy9.cs
            obtain ⟨z0, z1, z2, z3, z4, z5, z6, z7, z8, z9⟩ := hz.cs
            have hfact : (g1.isSome = bef) ∧ (was.tr = true → (g1.getD en0).tr = true) ∧ (g1.getD en0).dip = was.dip ∧ (g1.getD en0).ep = was.ep := by
              rw [HW.out.1, HW.out.2, hg1, HG.out]
              rcases HTW.out with h | ⟨e, y, h3, h4, h5, h6, h7⟩
              · rw [h]; exact ⟨rfl, fun h => h, rfl, rfl⟩
              · rw [h3, h4]; exact ⟨rfl, h7, h5, h6⟩
            obtain ⟨f1, f2, f3, f4⟩ := hfact
            obtain ⟨now1, hnow1⟩ : ∃ e, e = g1.getD en0 := ⟨_, rfl⟩
            rw [← hnow1] at HZ z0 z1 z2 z3 z4 z5 z6 z7 z8 z9 f2 f3 f4
            rw [← hnow1, f1]
            have gb : (bef != bef) = false := by simp
            have gd : (now1.dip != was.dip) = false := by rw [f3]; simp
            have ge : (now1.ep != was.ep) = false := by rw [f4]; simp
            clear CG hO4 hk4 hy8 hZ hO5 hk5 hz hy9 hd hnow1 hg1 f3 f4 f1 x0 x1 x2 x3 x4 x5 x6 x7 x8 x9 x10
            go_upto_region 24 with fail
            rw [← HZ.out.1, ← HZ.out.2]
            clear HZ
            cases ht : was.tr with
            | true =>
              have ht2 := f2 ht
              rw [ht] at y7
              rw [ht2] at z7
              clear f2 ht ht2
              have hlen := HV2.out.len HQ.out
              have CLn := Lib.hid (HO5.out.len (by omega))
              go_wp2_with fail
              refine CLn.out.mono ?_
              rintro e u1 ⟨rfl, hO, _⟩
              have CAl := Lib.hid (hO.all (by omega))
              have i1 : ¬ qt < (trE m : Int) := by have := HV2.out.1; omega
              have i2 : ¬ qu < (unE m : Int) := by have := HV2.out.2; omega
              have i3 : ¬ (trE m : Int) < 0 := by omega
              have i4 : ¬ (unE m : Int) < 0 := by omega
              have htu := tr_un m
              have htl : trE m ≤ 8192 := by omega
              have hul : unE m ≤ 8192 := by omega
              have i5 : ((m.length : Int) != (trE m : Int) + (unE m : Int)) = false := by simp; omega
              clear hO CLn
              go_wp2_with fail
              refine CAl.out.mono ?_
              rintro e u2 ⟨a9, c9, rfl, _, hO, _⟩
              have HO9 : Hid (∃ l, InvQ qt qu l ∧ TOn w2 u2 p qt qu l (fun k => k < w2.heap.size)) := Lib.hid ⟨m, HV2.out, hO.less (fun k hk => .inl (.inl (.inl (.inl hk))))⟩
              clear hO CAl
              go_wp2
              go_roundw
              case rel => exact ⟨j + 1, by omega, by go_num, HO9⟩
              case measure => simp [intOf]; omega
            | false =>
              rw [ht] at y7
              clear f2 ht
              have hlen := HV2.out.len HQ.out
              have CLn := Lib.hid (HO5.out.len (by omega))
              go_wp2_with fail
              refine CLn.out.mono ?_
              rintro e u1 ⟨rfl, hO, _⟩
              have CAl := Lib.hid (hO.all (by omega))
              have i1 : ¬ qt < (trE m : Int) := by have := HV2.out.1; omega
              have i2 : ¬ qu < (unE m : Int) := by have := HV2.out.2; omega
              have i3 : ¬ (trE m : Int) < 0 := by omega
              have i4 : ¬ (unE m : Int) < 0 := by omega
              have htu := tr_un m
              have htl : trE m ≤ 8192 := by omega
              have hul : unE m ≤ 8192 := by omega
              have i5 : ((m.length : Int) != (trE m : Int) + (unE m : Int)) = false := by simp; omega
              clear hO CLn
              go_wp2_with fail
              refine CAl.out.mono ?_
              rintro e u2 ⟨a9, c9, rfl, _, hO, _⟩
              have HO9 : Hid (∃ l, InvQ qt qu l ∧ TOn w2 u2 p qt qu l (fun k => k < w2.heap.size)) := Lib.hid ⟨m, HV2.out, hO.less (fun k hk => .inl (.inl (.inl (.inl hk))))⟩
              clear hO CAl
              go_wp2
              go_roundw
              case rel => exact ⟨j + 1, by omega, by go_num, HO9⟩
              case measure => simp [intOf]; omega
          · have kb1 : (o.o.kind == 1) = false := by simpa using k1
            have CE := Lib.hid (HO2.out.exp o.o.now (by omega) HF.out.now)
            have HV2 := Lib.hid (exp_inv (now := o.o.now) HV.out)
            clear k0 k1
            go_wp2_with fail
            refine CE.out.mono ?_
            rintro e w6 ⟨a8, c8, rfl, _, hO, _⟩
            have HO3 := Lib.hid hO
            obtain ⟨m, hm⟩ : ∃ m, m = (expE o.o.now l).2 := ⟨_, rfl⟩
            rw [← hm] at HO3 HV2
            clear CE hO hm x0 x1 x2 x3 x4 x5 x6 x7 x8 x9 x10
            have hlen := HV2.out.len HQ.out
            have CLn := Lib.hid (HO3.out.len (by omega))
            go_wp2_with fail
            refine CLn.out.mono ?_
            rintro e u1 ⟨rfl, hO, _⟩
            have CAl := Lib.hid (hO.all (by omega))
            have i1 : ¬ qt < (trE m : Int) := by have := HV2.out.1; omega
            have i2 : ¬ qu < (unE m : Int) := by have := HV2.out.2; omega
            have i3 : ¬ (trE m : Int) < 0 := by omega
            have i4 : ¬ (unE m : Int) < 0 := by omega
            have htu := tr_un m
            have htl : trE m ≤ 8192 := by omega
            have hul : unE m ≤ 8192 := by omega
            have i5 : ((m.length : Int) != (trE m : Int) + (unE m : Int)) = false := by simp; omega
            clear hO CLn
            go_wp2_with fail
            refine CAl.out.mono ?_
            rintro e u2 ⟨a9, c9, rfl, _, hO, _⟩
            have HO9 : Hid (∃ l, InvQ qt qu l ∧ TOn w2 u2 p qt qu l (fun k => k < w2.heap.size)) := Lib.hid ⟨m, HV2.out, hO.less (fun k hk => .inl (.inl (.inl (.inl hk))))⟩
            clear hO CAl
            go_wp2
            go_roundw
            case rel => exact ⟨j + 1, by omega, by go_num, HO9⟩
            case measure => simp [intOf]; omega
      · have ilj : ¬ ((j : Int) < (n : Int)) := by omega
        have HQ9 : Hid (Below w.heap.size w w4) := Lib.hid (by
          obtain ⟨l, _, h⟩ := HL.out
          exact HB2.out.trans (h.bel.mono HB2.out.size))
        go_wp2
        go_ret
        exact ⟨rfl, HQ9.out⟩
set_option maxRecDepth 100000 in
theorem flowBounds_t (qt qu : Int) (ao : Option Addr) (n c : Nat) (os : List OpR) (w : World) (h1 : InN qt) (h2 : InN qu) (hI : SFIn w ao n os) (hn : n ≤ 1152921504606846976) (hl : ∀ j, j < n → (os.getD j opR).n ≤ 1152921504606846976) :
    Calls Try.prog 4 #[.agg #[.int .i64 qt, .int .i64 qu, .slice ao n c]] w fun e w' => e = .returned (.bool true) ∧ Below w.heap.size w w' := by
  obtain ⟨W, hW⟩ : ∃ W, W = w.alloc (.cells #[.int .i64 qt, .int .i64 qu, .slice ao n c] 62) := ⟨_, rfl⟩
  have hb : Below w.heap.size w W := by rw [hW]; exact bl_al (Below.refl _ _) _
  have x0 : W.cell? ⟨w.heap.size, 0, none⟩ = some (.int .i64 qt) := by rw [hW]; simp [go_sem]
  have x1 : W.cell? ⟨w.heap.size, 1, none⟩ = some (.int .i64 qu) := by rw [hW]; simp [go_sem]
  have x2 : W.cell? ⟨w.heap.size, 2, none⟩ = some (.slice ao n c) := by rw [hW]; simp [go_sem]
  have CO := Lib.hid (quotas_t qt qu ao n c os W h1 h2 (hI.below hb) hn hl)
  obtain ⟨q, hq⟩ : ∃ q, q = w.heap.size := ⟨_, rfl⟩
  rw [← hq] at x0 x1 x2
  have HB := Lib.hid hb
  have HW := Lib.hid (And.intro hW hq)
  clear hb hW hq hI h1 h2 hl
  go_enter Try.func4, Try.ntmps4
  go_upto_region 1 with fail
  rw [← HW.out.1, ← HW.out.2]
  go_wp2_with fail
  refine CO.out.mono ?_
  rintro e w1 ⟨rfl, hb⟩
  have HB1 := Lib.hid (bl_tr HB.out hb)
  clear hb CO
  go_wp2
  go_ret
  exact ⟨rfl, HB1.out⟩
end Go.Proofs.Ytbecilepgphpbaa
