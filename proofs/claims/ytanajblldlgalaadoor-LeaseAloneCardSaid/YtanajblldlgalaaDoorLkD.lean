/- The statement LeaseApart's walk. Conditions: the list came in; the numbers fit their kinds; the library's table lies as its text lays it. -/
import Derived.Test.YtanajblldlgalaaDoorLkB
namespace Go.Proofs.YtanajblldlgalaaDoor
open Go Go.RowKit
set_option linter.unusedVariables false
set_option linter.unusedSimpArgs false

/-- What is asked: a list, a vip, a machine, a number, a time. -/
structure AskC (w : World) (g : Nat) (a : Option Addr) (n c : Nat) (vip dip first now : Int) : Prop where
  row : w.cell? ⟨g, 0, none⟩ = some (.slice a n c)
  vp : w.cell? ⟨g, 1, none⟩ = some (.int .u32 vip)
  dp : w.cell? ⟨g, 2, none⟩ = some (.int .u32 dip)
  fs : w.cell? ⟨g, 3, none⟩ = some (.int .i64 first)
  nw : w.cell? ⟨g, 4, none⟩ = some (.int .i64 now)
theorem AskC.later {w w' : World} {g : Nat} {a : Option Addr} {n c : Nat} {vip dip first now : Int} (h : AskC w g a n c vip dip first now) (hb : Below w.heap.size w w') : AskC w' g a n c vip dip first now :=
  ⟨(hb.cell (p := ⟨g, 0, none⟩) (block_lt_of_cell h.row)).trans h.row, (hb.cell (p := ⟨g, 1, none⟩) (block_lt_of_cell h.vp)).trans h.vp, (hb.cell (p := ⟨g, 2, none⟩) (block_lt_of_cell h.dp)).trans h.dp, (hb.cell (p := ⟨g, 3, none⟩) (block_lt_of_cell h.fs)).trans h.fs, (hb.cell (p := ⟨g, 4, none⟩) (block_lt_of_cell h.nw)).trans h.nw⟩
theorem askC_new (w : World) (a : Option Addr) (n c : Nat) (vip dip first now : Int) : ∃ W g, W = w.alloc (.cells #[.slice a n c, .int .u32 vip, .int .u32 dip, .int .i64 first, .int .i64 now] 26) ∧ g = w.heap.size ∧ AskC W g a n c vip dip first now ∧ Below w.heap.size w W := by
  refine ⟨_, _, rfl, rfl, ⟨?_, ?_, ?_, ?_, ?_⟩, bl_al (Below.refl _ _) _⟩ <;> simp [go_sem]
theorem apart_find {l L : List Ls} {g : Ls} {vip dip now other : Int} (h : grantL l vip dip now = (L, g, 0)) (hne : ¬ other = vip) (f : Int) : findL other f now L = findL other f now l := by
  obtain ⟨_, _, _, ho, _, k, _, hg, hL⟩ := grant_is h rfl
  rw [hL]
  exact with_find ho (by rw [hg]; exact fun e => hne e.symm)
set_option maxRecDepth 100000 in
set_option maxHeartbeats 8000000 in
theorem leaseApart_t (l : List Ls) (vip dip first now other : Int) (a : Option Addr) (n c : Nat) (w : World) (hI : InL w a n c l) (hn : n ≤ 4611686018427387904) (hv : 0 ≤ vip ∧ vip < 4294967296) (hd : 0 ≤ dip ∧ dip < 4294967296) (hg : Good w) :
    Calls Tryd.prog 8 #[.agg #[.slice a n c, .int .u32 vip, .int .u32 dip, .int .i64 first, .int .i64 now], .int .u32 other] w fun e w' => e = .returned (.bool true) ∧ Below w.heap.size w w' := by
  obtain ⟨W, g, hW, hg1, hA, hb⟩ := askC_new w a n c vip dip first now
  have hlen := hI.len
  have CA := Lib.hid (alive_c W (hg.later hb))
  have HI := Lib.hid (hI.below hb)
  have HA := Lib.hid hA
  have HB := Lib.hid hb
  have HG := Lib.hid (hg.later hb)
  have HW := Lib.hid (And.intro hW hg1)
  have HV := Lib.hid (And.intro hv hd)
  clear hW hg1 hA hb hI hg hv hd
  by_cases hl : 150 < n
  · have il : (150 : Int) < (n : Int) := by omega
    go_enter Tryd.func8, Tryd.ntmps8
    go_upto_region 1 with fail
    rw [show w.alloc (.cells #[.slice a n c, .int .u32 vip, .int .u32 dip, .int .i64 first, .int .i64 now] 26) = W from HW.out.1.symm, ← HW.out.2]
    go_wp2_with fail
    refine CA.out.mono ?_
    rintro e w0 ⟨rfl, hb0⟩
    have HA0 := Lib.hid (HA.out.later hb0)
    have HI0 := Lib.hid (HI.out.below hb0)
    have HG0 := Lib.hid (HG.out.later hb0)
    have HB0 := Lib.hid (bl_tr HB.out hb0)
    obtain ⟨k0, k1, k2, k3, k4⟩ := HA0.out
    clear hb0 CA
    go_wp2
    go_ret
    exact ⟨rfl, HB0.out⟩
  · have il : ¬ (150 : Int) < (n : Int) := by omega
    by_cases hne : other = vip
    · have q0 : (other == vip) = true := by simpa using hne
      clear hne
      go_enter Tryd.func8, Tryd.ntmps8
      go_upto_region 1 with fail
      rw [show w.alloc (.cells #[.slice a n c, .int .u32 vip, .int .u32 dip, .int .i64 first, .int .i64 now] 26) = W from HW.out.1.symm, ← HW.out.2]
      go_wp2_with fail
      refine CA.out.mono ?_
      rintro e w0 ⟨rfl, hb0⟩
      have HA0 := Lib.hid (HA.out.later hb0)
      have HI0 := Lib.hid (HI.out.below hb0)
      have HG0 := Lib.hid (HG.out.later hb0)
      have HB0 := Lib.hid (bl_tr HB.out hb0)
      obtain ⟨k0, k1, k2, k3, k4⟩ := HA0.out
      clear hb0 CA
      go_wp2
      go_ret
      exact ⟨rfl, HB0.out⟩
    · have q0 : (other == vip) = false := by simpa using hne
      have HNE := Lib.hid hne
      have HO := Lib.hid (grant_out l vip dip now)
      obtain ⟨r, hr⟩ : ∃ r, r = grantL l vip dip now := ⟨_, rfl⟩
      obtain ⟨L, x, z⟩ := r
      have HR := Lib.hid hr
      rw [← hr] at HO
      have HTy := Lib.hid (out_ty (l := l) HO.out.2)
      have HZ := Lib.hid HO.out.1
      have CG := Lib.hid (fun (W1 : World) (hI : InL W1 a n c l) (hg : Good W1) => grant_c l vip dip now a n c W1 hI (by omega) HV.out.1 HV.out.2 hg)
      rw [← hr] at CG
      clear hne hr
      go_enter Tryd.func8, Tryd.ntmps8
      go_upto_region 1 with fail
      rw [show w.alloc (.cells #[.slice a n c, .int .u32 vip, .int .u32 dip, .int .i64 first, .int .i64 now] 26) = W from HW.out.1.symm, ← HW.out.2]
      go_wp2_with fail
      refine CA.out.mono ?_
      rintro e w0 ⟨rfl, hb0⟩
      have HA0 := Lib.hid (HA.out.later hb0)
      have HI0 := Lib.hid (HI.out.below hb0)
      have HG0 := Lib.hid (HG.out.later hb0)
      have HB0 := Lib.hid (bl_tr HB.out hb0)
      obtain ⟨k0, k1, k2, k3, k4⟩ := HA0.out
      clear hb0 CA
      go_wp2_with fail
      refine (CG.out w0 HI0.out HG0.out).mono ?_
      intro e w1 hO
      obtain ⟨ao, cc, he, hI1, _, hb1⟩ := hO.get HTy.out.1
      subst he
      have HLL := Lib.hid HTy.out.2
      obtain ⟨w2, q, hw2, hq2, hA2, hb2, _⟩ := boxed w1 x
      have HI2 := Lib.hid (hI1.below hb2)
      have HIl := Lib.hid (HI0.out.below (bl_tr hb1 hb2))
      have HB2 := Lib.hid (bl_tr HB0.out (bl_tr hb1 hb2))
      have HA2 := Lib.hid (HA0.out.later (bl_tr hb1 hb2))
      have HW2 := Lib.hid (And.intro hw2 hq2)
      obtain ⟨N, hN⟩ : ∃ N, N = L.length := ⟨_, rfl⟩
      have HN := Lib.hid hN
      rw [← hN] at HI2 ⊢
      obtain ⟨x0, x1, x2, x3⟩ := x
      clear hO hI1 hb1 hw2 hq2 hA2 hb2 CG hN k0 k1 k2 k3 k4
      by_cases hz : z = 0
      · have HF := Lib.hid (fun (f : Int) => apart_find (HR.out.symm.trans (by rw [hz])) HNE.out f)
        subst hz
        rw [show errL 0 = Value.nilIface from rfl]
        go_upto_region 6 with fail
        rw [show w1.alloc (.cells #[.int .u32 x0, .int .i64 x1, .int .u32 x2, .int .i64 x3] tyL) = w2 from HW2.out.1.symm, ← HW2.out.2]
        go_wp2
        go_loopw [8] (fun fv wr => ∃ k : Nat, k ≤ 176 ∧ fv = .int .i64 (1024 + (k : Int)) ∧ Hid (Below w2.heap.size w2 wr)) (fun fv _ => 1200 - (intOf fv).toNat)
        case atStart => exact ⟨0, by omega, rfl, Lib.hid (Below.refl _ _)⟩
        case round =>
          obtain ⟨k, hk, rfl, HBr⟩ := hrel
          obtain ⟨w3, rfl⟩ : ∃ v, v = wr := ⟨_, rfl⟩
          by_cases hlt : k < 176
          · obtain ⟨f, hf⟩ : ∃ f : Int, f = 1024 + (k : Int) := ⟨_, rfl⟩
            have f0 : f < 1200 := by omega
            have f1 : 1024 ≤ f := by omega
            have HFN : Hid (f + 1 = 1024 + ((k + 1 : Nat) : Int)) := Lib.hid (by omega)
            have HA3 := Lib.hid (HA2.out.later HBr.out)
            have HIl3 := Lib.hid (HIl.out.below HBr.out)
            have HI3 := Lib.hid (HI2.out.below HBr.out)
            have C1 := Lib.hid (find_c l other f now a n c w3 HIl3.out (by omega) (by unfold i64b; omega))
            have C2 := Lib.hid (fun (W1 : World) (hI : InL W1 ao N cc L) => find_c L other f now ao N cc W1 hI (by have := HLL.out; have := HN.out; omega) (by unfold i64b; omega))
            rw [HF.out f] at C2
            rw [← hf]
            obtain ⟨o, ho⟩ : ∃ o, o = findL other f now l := ⟨_, rfl⟩
            rw [← ho] at C1 C2
            obtain ⟨k0, k1, k2, k3, k4⟩ := HA3.out
            clear hf ho
            go_wp2_with fail
            refine C1.out.mono ?_
            rintro e w4 ⟨rfl, hb4⟩
            obtain ⟨y, hy⟩ : ∃ y, y = o.getD ls0 := ⟨_, rfl⟩
            obtain ⟨b, hbo⟩ : ∃ b, b = o.isSome := ⟨_, rfl⟩
            have hR : fndR o = Value.tuple #[.agg #[.int .u32 y.vip, .int .i64 y.first, .int .u32 y.dip, .int .i64 y.exp], .bool b] := by rw [hy, hbo]; rfl
            have HRR := Lib.hid hR
            rw [hR]
            obtain ⟨w5, q5, hw5, hq5, hA5, hb5, _⟩ := boxed w4 y
            have HI5 := Lib.hid ((HI3.out.below hb4).below hb5)
            have HA5 := Lib.hid (HA3.out.later (bl_tr hb4 hb5))
            have HB5 := Lib.hid (bl_tr HBr.out (bl_tr hb4 hb5))
            have HL5 := Lib.hid hA5
            have HW5 := Lib.hid (And.intro hw5 hq5)
            obtain ⟨y0, y1, y2, y3⟩ := y
            clear hw5 hq5 hA5 hb5 hb4 hR hy hbo k0 k1 k2 k3 k4 C1
            go_upto_region 12 with fail
            rw [show w4.alloc (.cells #[.int .u32 y0, .int .i64 y1, .int .u32 y2, .int .i64 y3] tyL) = w5 from HW5.out.1.symm, ← HW5.out.2]
            obtain ⟨k0, k1, k2, k3, k4⟩ := HA5.out
            go_wp2_with fail
            refine (C2.out w5 HI5.out).mono ?_
            rintro e w6 ⟨rfl, hb6⟩
            rw [HRR.out]
            obtain ⟨w7, q7, hw7, hq7, hA7, hb7, _⟩ := boxed w6 ⟨y0, y1, y2, y3⟩
            have HB7 := Lib.hid (bl_tr HB5.out (bl_tr hb6 hb7))
            have HL57 := Lib.hid (HL5.out.below (bl_tr hb6 hb7) HL5.out.lt)
            have HW7 := Lib.hid (And.intro hw7 hq7)
            obtain ⟨c0, c1, c2, c3⟩ := hA7
            have hnq := lease_neq ⟨y0, y1, y2, y3⟩ ⟨y0, y1, y2, y3⟩
            rw [eqL_is, decide_eq_true rfl] at hnq
            have hnq0 : ∀ w, (binOp .neq tyL (.agg #[.int .u32 y0, .int .i64 y1, .int .u32 y2, .int .i64 y3]) (.agg #[.int .u32 y0, .int .i64 y1, .int .u32 y2, .int .i64 y3])).run Tryd.prog w = .ok (.bool false) w := hnq
            have hbb : (b != b) = false := by simp
            clear hw7 hq7 hb7 hb6 C2 k0 k1 k2 k3 k4 hnq
            go_upto_region 13 with fail
            rw [show w6.alloc (.cells #[.int .u32 y0, .int .i64 y1, .int .u32 y2, .int .i64 y3] tyL) = w7 from HW7.out.1.symm, ← HW7.out.2]
            obtain ⟨d0, d1, d2, d3⟩ := HL57.out
            go_wp2
            go_roundw
            case rel => exact ⟨k + 1, by omega, by rw [← HFN.out], HB7⟩
            case measure => simp [intOf]; omega
          · obtain rfl : k = 176 := by omega
            have HBe := Lib.hid (bl_tr HB2.out HBr.out)
            go_wp2
            go_ret
            exact ⟨rfl, HBe.out⟩
      · have HN0 : Hid (N = 0) := Lib.hid (by
          have := HO.out.2.1 hz
          simp only [Prod.mk.injEq] at this
          rw [HN.out, this.1]
          rfl)
        have hN0 := HN0.out
        have qe : ∀ w, (binOp .neq 32 (errnoL z) .nilIface).run Tryd.prog w = .ok (.bool true) w := fun w => by
          go_simp
        rw [errL_no hz]
        subst hN0
        clear hz
        go_upto_region 6 with fail
        rw [show w1.alloc (.cells #[.int .u32 x0, .int .i64 x1, .int .u32 x2, .int .i64 x3] tyL) = w2 from HW2.out.1.symm, ← HW2.out.2]
        go_wp2
        go_ret
        exact ⟨rfl, HB2.out⟩
end Go.Proofs.YtanajblldlgalaaDoor
