/- FlowPlays' walk: it returns true. Conditions: none but the script's own. -/
import Derived.Test.YtpbgccidhpfmgaaO11p
import Derived.Deep.CutRange
import Derived.Deep.AppendLies
namespace Go.Proofs.Ytpbgccidhpfmgaa
open Go Go.RowKit
set_option linter.unusedVariables false
set_option linter.unusedSimpArgs false

theorem eqE_self (e : En) : eqE e e = true := by rw [eqE_is]; exact decide_eq_true rfl
theorem own_firstF (w : World) (f : Fl) : (w.alloc (.cells #[.int .i64 f.p, .int .u32 f.s, .int .i64 f.sp, .int .u32 f.d, .int .i64 f.dp] tyF)).ownsRow w.heap.size tyF 5 (.slice (some ⟨w.heap.size, 0, none⟩) 1 1) 1 (cellsF [f]) := by
  rw [cellsF_one]
  exact ⟨rfl, .inr ⟨w.heap.size, 1, #[.int .i64 f.p, .int .u32 f.s, .int .i64 f.sp, .int .u32 f.d, .int .i64 f.dp], rfl, Nat.le_refl _, (MapKept.heap_alloc w _).1, Nat.le_refl _, by decide, rfl, rfl⟩⟩
theorem InF.news {w : World} {a : Option Addr} {n : Nat} {l : List Fl} (h : InF w a n l) {ad : Addr} (e : a = some ad) : ∀ j u, (cellsF l)[j]? = some u → w.cell? (ad.add j) = some u := by
  intro j u hu
  have hj : j < l.length * 5 := by
    rw [← cellsF_len]
    rcases Nat.lt_or_ge j (cellsF l).length with h1 | h1
    · exact h1
    · rw [List.getElem?_eq_none h1] at hu; cases hu
  rcases h.here with h0 | ⟨b, off, e2, hc⟩
  · subst h0; simp at hj
  · rw [e2] at e
    cases e
    rw [Go.WideShapes.add_plain]
    obtain ⟨q, i, hi, rfl⟩ : ∃ q i, i < 5 ∧ j = q * 5 + i := ⟨j / 5, j % 5, by omega, by omega⟩
    have hq : q < l.length := by omega
    rw [cellsF_at hq hi] at hu
    obtain ⟨c0, c1, c2, c3, c4⟩ := hc q hq
    rw [← Nat.add_assoc]
    match i, hi with
    | 0, _ => rw [Nat.add_zero, c0]; exact hu
    | 1, _ => rw [c1]; exact hu
    | 2, _ => rw [c2]; exact hu
    | 3, _ => rw [c3]; exact hu
    | 4, _ => rw [c4]; exact hu
theorem flows_of {w : World} {B n : Nat} {v : Value} {l : List Fl} (h : w.ownsRow B tyF 5 v n (cellsF l)) (hn : 0 < n) : ∃ g cc, v = .slice (some ⟨g, 0, none⟩) n cc ∧ (B ≤ g ∧ g < w.heap.size) ∧ InF w (some ⟨g, 0, none⟩) n l := by
  rcases h.2 with ⟨_, h0⟩ | ⟨g, cap, cur, hv, h1, h2, h3⟩
  · omega
  · subst hv
    exact ⟨g, cap, rfl, h.lt g rfl, ownF_in h⟩
theorem same_eT (l : List En) (a b : Option Addr) (c1 c2 : Nat) (w : World) (hA : InE w a l.length l) (hB : InE w b l.length l) (hn : l.length ≤ 4611686018427387904) : Calls Try.prog 28 #[.slice a l.length c1, .slice b l.length c2] w fun e w' => e = .returned (.bool true) ∧ Below w.heap.size w w' := by
  have := refSameE_c l l a b _ _ c1 c2 w hA hB hn hn
  rw [decide_eq_true rfl] at this
  exact this
theorem same_fT (l : List Fl) (a b : Option Addr) (c1 c2 : Nat) (w : World) (hA : InF w a l.length l) (hB : InF w b l.length l) (hn : l.length ≤ 4611686018427387904) : Calls Try.prog 23 #[.slice a l.length c1, .slice b l.length c2] w fun e w' => e = .returned (.bool true) ∧ Below w.heap.size w w' := by
  have := refSameF_c l l a b _ _ c1 c2 w hA hB hn hn
  rw [decide_eq_true rfl] at this
  exact this
set_option maxRecDepth 100000 in
set_option maxHeartbeats 16000000 in
theorem flowPlays_t (qt qu : Int) (a0 : Option Addr) (n0 c0 : Nat) (os0 : List OpR) (w : World) (hz0 : InN qt) (hz1 : InN qu) (hI0 : SFIn w a0 n0 os0) (hc0 : n0 ≤ c0) (hn0 : n0 ≤ 1152921504606846976) (hl0 : ∀ j, j < n0 → (os0.getD j opR).n ≤ 1152921504606846976) :
    Calls Try.prog 3 #[.int .i64 qt, .int .i64 qu, .slice a0 n0 c0] w fun e w' => e = .returned (.bool true) ∧ Below w.heap.size w w' := by
  have CA := Lib.hid (alive11_any w)
  have I0 := Lib.hid hI0
  have en := nilNe
  have ee := nilEl
  have e4 := errEq 4 (by omega)
  unfold InN at hz0 hz1
  clear hI0
  go_enter Try.func3, Try.ntmps3
  go_wp2_with fail
  refine CA.out.mono ?_
  rintro e w1 ⟨rfl, hb1⟩
  have HB1 := Lib.hid hb1
  have CN := Lib.hid (tnew_t qt qu w1 (by unfold InN; omega) (by unfold InN; omega))
  clear hb1 CA
  go_wp2_with fail
  refine CN.out.mono ?_
  rintro e w2 hW
  by_cases hq : ¬ (OkQ qt ∧ OkQ qu)
  · obtain ⟨⟨hh, _⟩ | ⟨_, rfl⟩, hb⟩ := hW
    · exact absurd hh hq
    have HB2 := Lib.hid (bl_tr HB1.out hb)
    clear hb CN
    unfold OkQ at hq
    by_cases h0 : qt < 0
    · clear hq hz0 hz1
      go_wp2
      go_ret
      exact ⟨rfl, HB2.out⟩
    by_cases h1 : 4096 < qt
    · clear hq hz0 hz1
      go_wp2
      go_ret
      exact ⟨rfl, HB2.out⟩
    by_cases h2 : qu < 0
    · clear hq hz0 hz1
      go_wp2
      go_ret
      exact ⟨rfl, HB2.out⟩
    · have h3 : 4096 < qu := by omega
      clear hq hz0 hz1
      go_wp2
      go_ret
      exact ⟨rfl, HB2.out⟩
  have hqq := Classical.not_not.1 hq
  obtain ⟨p, rfl, hO⟩ := TOn.made hqq hW
  have HQQ := Lib.hid hqq
  have hq0 : ¬ qt < 0 := by unfold OkQ at hqq; omega
  have hq1 : ¬ 4096 < qt := by unfold OkQ at hqq; omega
  have hq2 : ¬ qu < 0 := by unfold OkQ at hqq; omega
  have hq3 : ¬ 4096 < qu := by unfold OkQ at hqq; omega
  have HO2 := Lib.hid hO
  have HI2 := Lib.hid (I0.out.below (bl_tr HB1.out hO.bel))
  have CL := Lib.hid (longF_t a0 n0 c0 os0 w2 HI2.out hn0 hl0)
  clear hW hO CN hq hqq hz0 hz1 hl0 HI2
  go_wp2_with fail
  refine CL.out.mono ?_
  rintro e w3 ⟨z1, rfl, hb, hs0⟩
  have HO3 := Lib.hid (HO2.out.new hb).1
  have HB3 := Lib.hid (bl_tr HB1.out HO3.out.bel)
  have HS0 := Lib.hid hs0
  clear hb CL hs0 HO2
  cases z1 with
  | true =>
    go_wp2
    go_ret
    exact ⟨rfl, HB3.out⟩
  | false =>
  have hm0 := (HS0.out rfl).1
  have HSM := Lib.hid (HS0.out rfl).2
  clear HS0
  obtain ⟨X, hX⟩ : ∃ X, X = w3.alloc (.cells #[.slice none 0 0, .int .i64 qt, .int .i64 qu] 34) := ⟨_, rfl⟩
  have hDq := Dq.made HO3.out
  rw [← hX] at hDq
  obtain ⟨m, hm⟩ : ∃ m, m = w3.heap.size := ⟨_, rfl⟩
  rw [← hm] at hDq
  have HDQ := Lib.hid hDq
  have HX := Lib.hid hX
  have HM := Lib.hid hm
  clear hX hDq hm HO3
  go_upto_region 9 with fail
  rw [← HX.out, ← HM.out]
  clear HX HM
  go_wp2
  go_loopw [11, 12, 13, 14, 15, 16, 17, 18, 19, 20, 21, 22, 23, 24, 25, 26, 27, 79] (fun _ _ _ _ _ _ _ _ _ _ _ _ _ _ _ _ _ i wr => ∃ (j : Nat) (l : List En), j ≤ n0 ∧ i = .int .i64 j ∧ l.length ≤ j ∧ Hid (Dq w1 wr p m qt qu l l (fun _ => False))) (fun _ _ _ _ _ _ _ _ _ _ _ _ _ _ _ _ _ i _ => n0 - (intOf i).toNat)
  case atStart => exact ⟨0, [], by omega, rfl, Nat.zero_le _, HDQ⟩
  case round =>
    obtain ⟨j, l, hj, rfl, hlen, HQ⟩ := hrel
    clear HDQ
    by_cases hlj : j < n0
    · have hIr := I0.out.below (bl_tr HB1.out HQ.out.bel)
      obtain ⟨b, off, rfl⟩ := hIr.block (by omega)
      obtain ⟨o, ho⟩ : ∃ o, os0.getD j opR = o := ⟨_, rfl⟩
      obtain ⟨d0, d1, d2, d3, d4, d5, d6, d7, d8, d9, d10⟩ := hIr.cells hlj ho
      have hrows := hIr.rows j hlj
      have hroom := hIr.room j hlj
      have hfit := hIr.fit j hlj
      have hsm := HSM.out j hlj
      rw [ho] at hrows hroom hfit hsm
      obtain ⟨X, hX⟩ : ∃ X, X = wr.alloc (.cells (o.o.cells o.a o.n o.c) tyO) := ⟨_, rfl⟩
      have hox : BxO X wr.heap.size o.o o.a o.n o.c := by rw [hX]; exact BxO.new wr o.o o.a o.n o.c
      have hbX : Below wr.heap.size wr X := by rw [hX]; exact bl_al (Below.refl _ _) _
      have hQX := (HQ.out.grow hbX).less (X2 := fun k => k = wr.heap.size) (fun k hk => .inr ⟨by omega, by rw [hk]; exact lt_of_block hox⟩)
      obtain ⟨qb, hqb⟩ : ∃ qb, qb = wr.heap.size := ⟨_, rfl⟩
      rw [← hqb] at hox hQX
      have HROWS := Lib.hid (hrows.below hbX)
      have HROOM := Lib.hid hroom
      have HFT := Lib.hid hfit
      have HQX := Lib.hid hQX
      have HSR := Lib.hid hQX.facts
      obtain ⟨⟨kind, ⟨f0, f1, f2, f3, f4⟩, dip, ep, flags, now⟩, ma, mn, mc, fs⟩ := o
      have HX := Lib.hid hX
      have HQB := Lib.hid hqb
      have HBX := Lib.hid hox
      have ilj : (j : Int) < (n0 : Int) := by omega
      have j0 : (0 : Int) ≤ (j : Int) := by omega
      have ilc : (n0 : Int) ≤ (c0 : Int) := by omega
      clear hIr ho hX hox hbX hQX hqb HQ hrows hroom hfit
      simp only at d0 d1 d2 d3 d4 d5 d6 d7 d8 d9 d10 hsm HX HROWS HROOM HFT
      go_upto_region 12 with fail
      rw [← HX.out, ← HQB.out]
      clear HX HQB d0 d1 d2 d3 d4 d5 d6 d7 d8 d9 d10
      obtain ⟨x0, x1, x2, x3, x4, x5, x6, x7, x8, x9, x10⟩ := HBX.out.cs
      simp only at x0 x1 x2 x3 x4 x5 x6 x7 x8 x9 x10
      by_cases hk0 : kind = 0
      · subst hk0
        have hpc := put_code qu ⟨f0, f1, f2, f3, f4⟩ dip ep now l
        have hL := put_len qu ⟨f0, f1, f2, f3, f4⟩ dip ep now l
        have CT := Lib.hid (HQX.out.put ⟨f0, f1, f2, f3, f4⟩ dip ep now (by omega) HFT.out.1.f HFT.out.1.dip HFT.out.1.ep HFT.out.1.now)
        have CR := Lib.hid (fun W (Z : Nat → Prop) (l1 : List En) (h : Dq w1 W p m qt qu l1 l Z) => h.rput ⟨f0, f1, f2, f3, f4⟩ dip ep now HSR.out.1 HSR.out.2.1 (by omega) HFT.out.1.f)
        obtain ⟨E, z, pn, L, hE, hz, hpn, hLL⟩ : ∃ E z pn L, (putE qu ⟨f0, f1, f2, f3, f4⟩ dip ep now l).1.getD en0 = E ∧ (putE qu ⟨f0, f1, f2, f3, f4⟩ dip ep now l).1.isSome = z ∧ (putE qu ⟨f0, f1, f2, f3, f4⟩ dip ep now l).2.1 = pn ∧ (putE qu ⟨f0, f1, f2, f3, f4⟩ dip ep now l).2.2 = L := ⟨_, _, _, _, rfl, rfl, rfl, rfl⟩
        simp only [putV, hE, hz, hpn, hLL] at CT CR
        rw [hpn] at hpc
        rw [hLL] at hL
        have CNU := Lib.hid (fun W => num11_t pn hpc W)
        have CR := Lib.hid (fun W Z h => CR.out W Z L h)
        clear hE hz hpn hLL hpc
        obtain ⟨⟨g0, g1, g2, g3, g4⟩, gd, ge, gt, gc, gl⟩ := E
        have heq := entry_eql (⟨⟨g0, g1, g2, g3, g4⟩, gd, ge, gt, gc, gl⟩ : En) (⟨⟨g0, g1, g2, g3, g4⟩, gd, ge, gt, gc, gl⟩ : En)
        rw [eqE_self] at heq
        simp only at heq
        clear HROWS HROOM
        go_wp2_with fail
        refine CT.out.mono ?_
        rintro e w5 ⟨rfl, hQ5, hk5⟩
        obtain ⟨w6, hw6⟩ : ∃ w6, w6 = w5.alloc (.cells #[.int .i64 g0, .int .u32 g1, .int .i64 g2, .int .u32 g3, .int .i64 g4, .int .u32 gd, .int .i64 ge, .bool gt, .bool gc, .int .i64 gl] tyE) := ⟨_, rfl⟩
        obtain ⟨q1, hq1⟩ : ∃ q1, q1 = w5.heap.size := ⟨_, rfl⟩
        have hb6 : Below w5.heap.size w5 w6 := by rw [hw6]; exact bl_al (Below.refl _ _) _
        have HE6 : Hid (BxE w6 q1 (⟨⟨g0, g1, g2, g3, g4⟩, gd, ge, gt, gc, gl⟩ : En)) := Lib.hid (by rw [hw6, hq1]; exact BxE.new w5 (⟨⟨g0, g1, g2, g3, g4⟩, gd, ge, gt, gc, gl⟩ : En))
        have hQ6 := (hQ5.grow hb6).less (X2 := fun k => k = qb ∨ k = q1) (fun k hk => by
          rcases hk with hk | hk
          · exact .inl hk
          · exact .inr ⟨by rw [hk, hq1]; exact Nat.le_refl _, by rw [hk]; exact HE6.out.lt⟩)
        have HBX6 := Lib.hid ((HBX.out.kept hk5 rfl).below hb6)
        obtain ⟨_, y1, y2, y3, y4, y5, _, y7, y8, y9, y10⟩ := HBX6.out.cs
        simp only at y1 y2 y3 y4 y5 y7 y8 y9 y10
        have CR6 := Lib.hid (CR.out w6 _ hQ6)
        have HW6 := Lib.hid (And.intro hw6 hq1)
        clear hw6 hq1 hb6 hQ5 hk5 hQ6 CR CT x0 x1 x2 x3 x4 x5 x6 x7 x8 x9 x10 HBX HQX
        go_upto_region 17 with fail
        rw [show w5.alloc (.cells #[.int .i64 g0, .int .u32 g1, .int .i64 g2, .int .u32 g3, .int .i64 g4, .int .u32 gd, .int .i64 ge, .bool gt, .bool gc, .int .i64 gl] tyE) = w6 from HW6.out.1.symm, ← HW6.out.2]
        go_wp2_with fail
        refine CR6.out.mono ?_
        rintro e w7 ⟨rfl, hQ7, hk7⟩
        obtain ⟨w8, hw8⟩ : ∃ w8, w8 = w7.alloc (.cells #[.int .i64 g0, .int .u32 g1, .int .i64 g2, .int .u32 g3, .int .i64 g4, .int .u32 gd, .int .i64 ge, .bool gt, .bool gc, .int .i64 gl] tyE) := ⟨_, rfl⟩
        obtain ⟨q2, hq2⟩ : ∃ q2, q2 = w7.heap.size := ⟨_, rfl⟩
        have hb8 : Below w7.heap.size w7 w8 := by rw [hw8]; exact bl_al (Below.refl _ _) _
        have hE8 : BxE w8 q2 (⟨⟨g0, g1, g2, g3, g4⟩, gd, ge, gt, gc, gl⟩ : En) := by rw [hw8, hq2]; exact BxE.new w7 (⟨⟨g0, g1, g2, g3, g4⟩, gd, ge, gt, gc, gl⟩ : En)
        have hE7 : BxE w8 q1 (⟨⟨g0, g1, g2, g3, g4⟩, gd, ge, gt, gc, gl⟩ : En) := (hb8.block q1 (lt_of_block (hk7.box HE6.out (.inr rfl)))).trans (hk7.box HE6.out (.inr rfl))
        obtain ⟨a0, a1, a2, a3, a4, a5, a6, a7, a8, a9⟩ := hE7.cs
        obtain ⟨b0, b1, b2, b3, b4, b5, b6, b7, b8, b9⟩ := hE8.cs
        simp only at a0 a1 a2 a3 a4 a5 a6 a7 a8 a9 b0 b1 b2 b3 b4 b5 b6 b7 b8 b9
        have HQ9 := Lib.hid ((hQ7.new hb8).1.less (X2 := fun _ => False) (fun _ h => h.elim))
        have HW8 := Lib.hid (And.intro hw8 hq2)
        clear hw8 hq2 hb8 hE7 hE8 hQ7 hk7 CR6 HE6 HBX6 y1 y2 y3 y4 y5 y7 y8 y9 y10
        go_upto_region 18 with fail
        rw [show w7.alloc (.cells #[.int .i64 g0, .int .u32 g1, .int .i64 g2, .int .u32 g3, .int .i64 g4, .int .u32 gd, .int .i64 ge, .bool gt, .bool gc, .int .i64 gl] tyE) = w8 from HW8.out.1.symm, ← HW8.out.2]
        go_wp2_with fail
        refine (CNU.out _).mono ?_
        rintro e w9 ⟨rfl, rfl⟩
        clear a0 a1 a2 a3 a4 a5 a6 a7 a8 a9 b0 b1 b2 b3 b4 b5 b6 b7 b8 b9 CNU
        have CL := Lib.hid (HQ9.out.len (by omega))
        clear HQ9
        go_wp2_with fail
        refine CL.out.mono ?_
        rintro e w20 ⟨rfl, hQ, _⟩
        have CL2 := Lib.hid (hQ.rlen (by omega))
        clear hQ CL
        go_wp2_with fail
        refine CL2.out.mono ?_
        rintro e w21 ⟨rfl, hQ, _⟩
        obtain ⟨av, cv, hS0, hCA⟩ := (hQ.new (Below.refl _ _).drew).1.allv (by omega)
        have CA := Lib.hid hCA
        clear hQ CL2 hCA
        go_upto_region 30 with fail
        go_region_held3 (fun wx => wx.cell? ⟨m, 0, none⟩ = some (.slice av L.length cv)) (first | (with_reducible exact hS0) | (with_reducible assumption) | fail)
          (first
            | (go_at_call 29; (with_reducible refine CA.out.mono ?_); rintro e w22 ⟨⟨a3, c3, rfl, hI3⟩, hS1, hI4, hQ, _⟩)
            | (go_at_call 28; (with_reducible refine (same_eT L a3 av c3 cv w22 hI3 hI4 (by omega)).mono ?_); rintro e w23 ⟨rfl, hb⟩; have hS2 := cell_later hb hS1)
            | fail)
        have HQ23 := Lib.hid (hQ.new hb).1
        clear hS0 hS1 hS2 hI3 hI4 hQ hb CA
        go_wp2
        go_roundw
        case rel => exact ⟨j + 1, L, by omega, by go_num, by omega, HQ23⟩
        case measure => simp [intOf]; omega
      by_cases hk1 : kind = 1
      · subst hk1
        obtain ⟨z, L, hzL⟩ : ∃ z L, touchE qt ⟨f0, f1, f2, f3, f4⟩ flags now l = (z, L) := ⟨_, _, rfl⟩
        have hL := touch_len qt ⟨f0, f1, f2, f3, f4⟩ flags now l
        have hd0 : Below X.heap.size X X.drew := (Below.refl _ _).drew
        have CT := Lib.hid ((HQX.out.new hd0).1.touch ⟨f0, f1, f2, f3, f4⟩ flags now (by omega) HFT.out.1.f HFT.out.1.flags HFT.out.1.now)
        have CR := Lib.hid (fun W (h : Dq w1 W p m qt qu L l (fun k => k = qb)) => h.rtouch ⟨f0, f1, f2, f3, f4⟩ flags now HSR.out.1 (by omega))
        rw [hzL] at CT CR hL
        clear hzL
        have hS0 : X.drew.cell? ⟨qb, 1, none⟩ = some (.int .i64 f0) ∧ X.drew.cell? ⟨qb, 2, none⟩ = some (.int .u32 f1) ∧ X.drew.cell? ⟨qb, 3, none⟩ = some (.int .i64 f2) ∧ X.drew.cell? ⟨qb, 4, none⟩ = some (.int .u32 f3) ∧ X.drew.cell? ⟨qb, 5, none⟩ = some (.int .i64 f4) ∧ X.drew.cell? ⟨qb, 9, none⟩ = some (.int .i64 flags) ∧ X.drew.cell? ⟨qb, 10, none⟩ = some (.int .i64 now) := ⟨x1, x2, x3, x4, x5, x9, x10⟩
        have HBD := Lib.hid (HBX.out.below hd0)
        clear x1 x2 x3 x4 x5 x6 x7 x8 x9 x10 HROWS HROOM hd0
        go_upto_region 20 with fail
        go_region_held3 (fun wx => wx.cell? ⟨qb, 1, none⟩ = some (.int .i64 f0) ∧ wx.cell? ⟨qb, 2, none⟩ = some (.int .u32 f1) ∧ wx.cell? ⟨qb, 3, none⟩ = some (.int .i64 f2) ∧ wx.cell? ⟨qb, 4, none⟩ = some (.int .u32 f3) ∧ wx.cell? ⟨qb, 5, none⟩ = some (.int .i64 f4) ∧ wx.cell? ⟨qb, 9, none⟩ = some (.int .i64 flags) ∧ wx.cell? ⟨qb, 10, none⟩ = some (.int .i64 now)) (first | (with_reducible exact hS0) | (with_reducible assumption) | fail)
          (first
            | (go_at_call 17; (with_reducible refine CT.out.mono ?_); rintro e w5 ⟨rfl, hQ5, hk5⟩; have hb5 := HBD.out.kept hk5 rfl; obtain ⟨_, y1, y2, y3, y4, y5, _, _, _, y9, y10⟩ := hb5.cs; have hS1 := (show w5.cell? ⟨qb, 1, none⟩ = some (.int .i64 f0) ∧ w5.cell? ⟨qb, 2, none⟩ = some (.int .u32 f1) ∧ w5.cell? ⟨qb, 3, none⟩ = some (.int .i64 f2) ∧ w5.cell? ⟨qb, 4, none⟩ = some (.int .u32 f3) ∧ w5.cell? ⟨qb, 5, none⟩ = some (.int .i64 f4) ∧ w5.cell? ⟨qb, 9, none⟩ = some (.int .i64 flags) ∧ w5.cell? ⟨qb, 10, none⟩ = some (.int .i64 now) from ⟨y1, y2, y3, y4, y5, y9, y10⟩); clear y1 y2 y3 y4 y5 y9 y10)
            | (go_at_call 18; (with_reducible refine (CR.out w5 hQ5).mono ?_); rintro e w6 ⟨rfl, hQ6, hk6⟩; have hb6 := hb5.kept hk6 rfl; obtain ⟨_, y1, y2, y3, y4, y5, _, _, _, y9, y10⟩ := hb6.cs; have hS2 := (show w6.cell? ⟨qb, 1, none⟩ = some (.int .i64 f0) ∧ w6.cell? ⟨qb, 2, none⟩ = some (.int .u32 f1) ∧ w6.cell? ⟨qb, 3, none⟩ = some (.int .i64 f2) ∧ w6.cell? ⟨qb, 4, none⟩ = some (.int .u32 f3) ∧ w6.cell? ⟨qb, 5, none⟩ = some (.int .i64 f4) ∧ w6.cell? ⟨qb, 9, none⟩ = some (.int .i64 flags) ∧ w6.cell? ⟨qb, 10, none⟩ = some (.int .i64 now) from ⟨y1, y2, y3, y4, y5, y9, y10⟩); clear y1 y2 y3 y4 y5 y9 y10)
            | fail)
        have HQ9 := Lib.hid (hQ6.less (X2 := fun _ => False) (fun _ h => h.elim))
        clear hS0 hS1 hS2 hQ5 hk5 hb5 hQ6 hk6 hb6 CT CR HBD HQX HBX HFT HSR x0
        have CL := Lib.hid (HQ9.out.len (by omega))
        clear HQ9
        go_wp2_with fail
        refine CL.out.mono ?_
        rintro e w20 ⟨rfl, hQ, _⟩
        have CL2 := Lib.hid (hQ.rlen (by omega))
        clear hQ CL
        go_wp2_with fail
        refine CL2.out.mono ?_
        rintro e w21 ⟨rfl, hQ, _⟩
        obtain ⟨av, cv, hS0, hCA⟩ := (hQ.new (Below.refl _ _).drew).1.allv (by omega)
        have CA := Lib.hid hCA
        clear hQ CL2 hCA
        go_upto_region 30 with fail
        go_region_held3 (fun wx => wx.cell? ⟨m, 0, none⟩ = some (.slice av L.length cv)) (first | (with_reducible exact hS0) | (with_reducible assumption) | fail)
          (first
            | (go_at_call 29; (with_reducible refine CA.out.mono ?_); rintro e w22 ⟨⟨a3, c3, rfl, hI3⟩, hS1, hI4, hQ, _⟩)
            | (go_at_call 28; (with_reducible refine (same_eT L a3 av c3 cv w22 hI3 hI4 (by omega)).mono ?_); rintro e w23 ⟨rfl, hb⟩; have hS2 := cell_later hb hS1)
            | fail)
        have HQ23 := Lib.hid (hQ.new hb).1
        clear hS0 hS1 hS2 hI3 hI4 hQ hb CA
        go_wp2
        go_roundw
        case rel => exact ⟨j + 1, L, by omega, by go_num, by omega, HQ23⟩
        case measure => simp [intOf]; omega
      by_cases hk2 : kind = 2
      · subst hk2
        obtain ⟨E, z, hE, hz⟩ : ∃ E z, (findE ⟨f0, f1, f2, f3, f4⟩ l).getD en0 = E ∧ (findE ⟨f0, f1, f2, f3, f4⟩ l).isSome = z := ⟨_, _, rfl, rfl⟩
        have CT := Lib.hid (HQX.out.get ⟨f0, f1, f2, f3, f4⟩ (by omega) HFT.out.1.f)
        have CR := Lib.hid (fun W (Z : Nat → Prop) (h : Dq w1 W p m qt qu l l Z) => h.rget ⟨f0, f1, f2, f3, f4⟩ (by omega))
        simp only [getR, hE, hz] at CT CR
        clear hE hz
        obtain ⟨⟨g0, g1, g2, g3, g4⟩, gd, ge, gt, gc, gl⟩ := E
        have heq := entry_eql (⟨⟨g0, g1, g2, g3, g4⟩, gd, ge, gt, gc, gl⟩ : En) (⟨⟨g0, g1, g2, g3, g4⟩, gd, ge, gt, gc, gl⟩ : En)
        rw [eqE_self] at heq
        simp only at heq
        clear HROWS HROOM
        go_wp2_with fail
        refine CT.out.mono ?_
        rintro e w5 ⟨rfl, hQ5, hk5⟩
        obtain ⟨w6, hw6⟩ : ∃ w6, w6 = w5.alloc (.cells #[.int .i64 g0, .int .u32 g1, .int .i64 g2, .int .u32 g3, .int .i64 g4, .int .u32 gd, .int .i64 ge, .bool gt, .bool gc, .int .i64 gl] tyE) := ⟨_, rfl⟩
        obtain ⟨q1, hq1⟩ : ∃ q1, q1 = w5.heap.size := ⟨_, rfl⟩
        have hb6 : Below w5.heap.size w5 w6 := by rw [hw6]; exact bl_al (Below.refl _ _) _
        have HE6 : Hid (BxE w6 q1 (⟨⟨g0, g1, g2, g3, g4⟩, gd, ge, gt, gc, gl⟩ : En)) := Lib.hid (by rw [hw6, hq1]; exact BxE.new w5 (⟨⟨g0, g1, g2, g3, g4⟩, gd, ge, gt, gc, gl⟩ : En))
        have hQ6 := (hQ5.grow hb6).less (X2 := fun k => k = qb ∨ k = q1) (fun k hk => by
          rcases hk with hk | hk
          · exact .inl hk
          · exact .inr ⟨by rw [hk, hq1]; exact Nat.le_refl _, by rw [hk]; exact HE6.out.lt⟩)
        have HBX6 := Lib.hid ((HBX.out.kept hk5 rfl).below hb6)
        obtain ⟨_, y1, y2, y3, y4, y5, _, y7, y8, y9, y10⟩ := HBX6.out.cs
        simp only at y1 y2 y3 y4 y5 y7 y8 y9 y10
        have CR6 := Lib.hid (CR.out w6 _ hQ6)
        have HW6 := Lib.hid (And.intro hw6 hq1)
        clear hw6 hq1 hb6 hQ5 hk5 hQ6 CR CT x0 x1 x2 x3 x4 x5 x6 x7 x8 x9 x10 HBX HQX
        go_upto_region 23 with fail
        rw [show w5.alloc (.cells #[.int .i64 g0, .int .u32 g1, .int .i64 g2, .int .u32 g3, .int .i64 g4, .int .u32 gd, .int .i64 ge, .bool gt, .bool gc, .int .i64 gl] tyE) = w6 from HW6.out.1.symm, ← HW6.out.2]
        go_wp2_with fail
        refine CR6.out.mono ?_
        rintro e w7 ⟨rfl, hQ7, hk7⟩
        obtain ⟨w8, hw8⟩ : ∃ w8, w8 = w7.alloc (.cells #[.int .i64 g0, .int .u32 g1, .int .i64 g2, .int .u32 g3, .int .i64 g4, .int .u32 gd, .int .i64 ge, .bool gt, .bool gc, .int .i64 gl] tyE) := ⟨_, rfl⟩
        obtain ⟨q2, hq2⟩ : ∃ q2, q2 = w7.heap.size := ⟨_, rfl⟩
        have hb8 : Below w7.heap.size w7 w8 := by rw [hw8]; exact bl_al (Below.refl _ _) _
        have hE8 : BxE w8 q2 (⟨⟨g0, g1, g2, g3, g4⟩, gd, ge, gt, gc, gl⟩ : En) := by rw [hw8, hq2]; exact BxE.new w7 (⟨⟨g0, g1, g2, g3, g4⟩, gd, ge, gt, gc, gl⟩ : En)
        have hE7 : BxE w8 q1 (⟨⟨g0, g1, g2, g3, g4⟩, gd, ge, gt, gc, gl⟩ : En) := (hb8.block q1 (lt_of_block (hk7.box HE6.out (.inr rfl)))).trans (hk7.box HE6.out (.inr rfl))
        obtain ⟨a0, a1, a2, a3, a4, a5, a6, a7, a8, a9⟩ := hE7.cs
        obtain ⟨b0, b1, b2, b3, b4, b5, b6, b7, b8, b9⟩ := hE8.cs
        simp only at a0 a1 a2 a3 a4 a5 a6 a7 a8 a9 b0 b1 b2 b3 b4 b5 b6 b7 b8 b9
        have HQ9 := Lib.hid ((hQ7.new hb8).1.less (X2 := fun _ => False) (fun _ h => h.elim))
        have HW8 := Lib.hid (And.intro hw8 hq2)
        clear hw8 hq2 hb8 hE7 hE8 hQ7 hk7 CR6 HE6 HBX6 y1 y2 y3 y4 y5 y7 y8 y9 y10
        go_upto_region 24 with fail
        rw [show w7.alloc (.cells #[.int .i64 g0, .int .u32 g1, .int .i64 g2, .int .u32 g3, .int .i64 g4, .int .u32 gd, .int .i64 ge, .bool gt, .bool gc, .int .i64 gl] tyE) = w8 from HW8.out.1.symm, ← HW8.out.2]
        obtain ⟨L, hLl⟩ : ∃ L, L = l := ⟨_, rfl⟩
        subst hLl
        have CL := Lib.hid (HQ9.out.len (by omega))
        clear HQ9
        go_wp2_with fail
        refine CL.out.mono ?_
        rintro e w20 ⟨rfl, hQ, _⟩
        have CL2 := Lib.hid (hQ.rlen (by omega))
        clear hQ CL
        go_wp2_with fail
        refine CL2.out.mono ?_
        rintro e w21 ⟨rfl, hQ, _⟩
        obtain ⟨av, cv, hS0, hCA⟩ := (hQ.new (Below.refl _ _).drew).1.allv (by omega)
        have CA := Lib.hid hCA
        clear hQ CL2 hCA
        go_upto_region 30 with fail
        go_region_held3 (fun wx => wx.cell? ⟨m, 0, none⟩ = some (.slice av L.length cv)) (first | (with_reducible exact hS0) | (with_reducible assumption) | fail)
          (first
            | (go_at_call 29; (with_reducible refine CA.out.mono ?_); rintro e w22 ⟨⟨a3, c3, rfl, hI3⟩, hS1, hI4, hQ, _⟩)
            | (go_at_call 28; (with_reducible refine (same_eT L a3 av c3 cv w22 hI3 hI4 (by omega)).mono ?_); rintro e w23 ⟨rfl, hb⟩; have hS2 := cell_later hb hS1)
            | fail)
        have HQ23 := Lib.hid (hQ.new hb).1
        clear hS0 hS1 hS2 hI3 hI4 hQ hb CA
        go_wp2
        go_roundw
        case rel => exact ⟨j + 1, L, by omega, by go_num, by omega, HQ23⟩
        case measure => simp [intOf]; omega
      by_cases hk3 : kind = 3
      · subst hk3
        obtain ⟨i0, hi0, hy0, hy1, hy2⟩ := info_parts infoF
        have hal : Below X.heap.size X (X.alloc (.cells #[.int .i64 f0, .int .u32 f1, .int .i64 f2, .int .u32 f3, .int .i64 f4] tyF)) := bl_al (Below.refl _ _) _
        have HOWN : Hid ((X.alloc (.cells #[.int .i64 f0, .int .u32 f1, .int .i64 f2, .int .u32 f3, .int .i64 f4] tyF)).ownsRow X.heap.size tyF 5 (.slice (some ⟨X.heap.size, 0, none⟩) 1 1) 1 (cellsF [⟨f0, f1, f2, f3, f4⟩])) := Lib.hid (own_firstF X ⟨f0, f1, f2, f3, f4⟩)
        have x6' : (X.alloc (.cells #[.int .i64 f0, .int .u32 f1, .int .i64 f2, .int .u32 f3, .int .i64 f4] tyF)).cell? ⟨qb, 6, none⟩ = some (.slice ma mn mc) := cell_later hal x6
        have HMN := Lib.hid (fun ad (e : ma = some ad) => (HROWS.out.below hal).news e)
        have HML := Lib.hid HROWS.out.len
        have HBA := Lib.hid hal
        have HBS := Lib.hid hal.size
        have hL := remE_len ((⟨f0, f1, f2, f3, f4⟩ : Fl) :: fs) l
        clear hal HROWS
        go_wp2_with (at_builtin; refine append_any rfl _ _ 39 rfl X.heap.size tyF i0 (.agg #[.int .i64 0, .int .u32 0, .int .i64 0, .int .u32 0, .int .i64 0]) 5 40 Try.underlying39 hi0 hy0 hy1 hy2 rfl (by decide) _ 1 (cellsF [⟨f0, f1, f2, f3, f4⟩]) rfl HOWN.out ma mn mc (cellsF fs) rfl HROOM.out.2 ?c1 HMN.out (cellsF_one1 fs) ?c3 ?c4 HBS.out ?_)
        case c1 => rw [cellsF_len, HML.out]
        case c3 => unfold maxLen; omega
        case c4 => omega
        intro v w5 hown hg
        rw [← cellsF_app] at hown
        obtain ⟨gk, cc, rfl, hgk, hKS⟩ := flows_of hown (by omega)
        have hb5 : Below X.heap.size X w5 := HBA.out.grown hg HBA.out.size (fun j hj => by cases hj; exact Nat.le_refl _)
        have hQ5 := (HQX.out.grow hb5).less (X2 := fun j => j = gk) (fun j hj => by subst hj; exact .inr hgk)
        have hn1 : 1 + mn ≤ 1048576 := by omega
        have CY := Lib.hid (hQ5.rem ((⟨f0, f1, f2, f3, f4⟩ : Fl) :: fs) gk (1 + mn) cc hKS rfl (fun f hf => by
          rcases List.mem_cons.1 hf with rfl | hf
          · exact HFT.out.1.f
          · exact HFT.out.2 f hf) (by omega) hn1)
        have HKS := Lib.hid hKS
        obtain ⟨rn, L, hR⟩ : ∃ rn L, remE ((⟨f0, f1, f2, f3, f4⟩ : Fl) :: fs) l = (rn, L) := ⟨_, _, rfl⟩
        have CRR := Lib.hid (fun W (h : Dq w1 W p m qt qu L l (fun j => j = gk)) hk => h.rrem ((⟨f0, f1, f2, f3, f4⟩ : Fl) :: fs) gk (1 + mn) cc hk rfl HSR.out.1 (by omega) hn1)
        rw [hR] at CY CRR hL
        simp only at CY CRR hL
        clear hR hown hg hKS hb5 hQ5 HOWN HMN HML HBA HBS HQX x0 x1 x2 x3 x4 x5 x6 x6' x7 x8 x9 x10 HBX HROOM hgk HFT HSR
        go_wp2_with fail
        refine CY.out.mono ?_
        rintro e w6 ⟨rfl, hQ6, hk6⟩
        have CY2 := Lib.hid (CRR.out w6 hQ6 (HKS.out.kpt hk6 (fun b off e => by cases e; rfl)))
        clear hQ6 hk6 CY HKS CRR
        go_wp2_with fail
        refine CY2.out.mono ?_
        rintro e w7 ⟨rfl, hQ7, hk7⟩
        have HQ9 := Lib.hid (hQ7.less (X2 := fun _ => False) (fun _ h => h.elim))
        clear hQ7 hk7 CY2
        have CL := Lib.hid (HQ9.out.len (by omega))
        clear HQ9
        go_wp2_with fail
        refine CL.out.mono ?_
        rintro e w20 ⟨rfl, hQ, _⟩
        have CL2 := Lib.hid (hQ.rlen (by omega))
        clear hQ CL
        go_wp2_with fail
        refine CL2.out.mono ?_
        rintro e w21 ⟨rfl, hQ, _⟩
        obtain ⟨av, cv, hS0, hCA⟩ := (hQ.new (Below.refl _ _).drew).1.allv (by omega)
        have CA := Lib.hid hCA
        clear hQ CL2 hCA
        go_upto_region 30 with fail
        go_region_held3 (fun wx => wx.cell? ⟨m, 0, none⟩ = some (.slice av L.length cv)) (first | (with_reducible exact hS0) | (with_reducible assumption) | fail)
          (first
            | (go_at_call 29; (with_reducible refine CA.out.mono ?_); rintro e w22 ⟨⟨a3, c3, rfl, hI3⟩, hS1, hI4, hQ, _⟩)
            | (go_at_call 28; (with_reducible refine (same_eT L a3 av c3 cv w22 hI3 hI4 (by omega)).mono ?_); rintro e w23 ⟨rfl, hb⟩; have hS2 := cell_later hb hS1)
            | fail)
        have HQ23 := Lib.hid (hQ.new hb).1
        clear hS0 hS1 hS2 hI3 hI4 hQ hb CA
        go_wp2
        go_roundw
        case rel => exact ⟨j + 1, L, by omega, by go_num, by omega, HQ23⟩
        case measure => simp [intOf]; omega
      · obtain ⟨Y, L, hzL⟩ : ∃ Y L, expE now l = (Y, L) := ⟨_, _, rfl⟩
        have hL := exp_len now l
        have hd0 : Below X.heap.size X X.drew := (Below.refl _ _).drew
        have CT := Lib.hid ((HQX.out.new hd0).1.exp now (by omega) HFT.out.1.now)
        have CR := Lib.hid (fun W Z (h : Dq w1 W p m qt qu L l Z) => h.rexp now HSR.out.2.1 (by omega))
        rw [hzL] at CT CR hL
        clear hzL
        simp only at CT CR hL
        have hS0 : X.drew.cell? ⟨qb, 10, none⟩ = some (.int .i64 now) := x10
        have HBD := Lib.hid (HBX.out.below hd0)
        clear x1 x2 x3 x4 x5 x6 x7 x8 x9 x10 HROWS HROOM hd0
        go_upto_region 14 with fail
        go_region_held3 (fun wx => wx.cell? ⟨qb, 10, none⟩ = some (.int .i64 now)) (first | (with_reducible exact hS0) | (with_reducible assumption) | fail)
          (first
            | (go_at_call 24; (with_reducible refine CT.out.mono ?_); rintro e w5 ⟨a5, c5, rfl, hI5, hQ5, hk5⟩; have hb5 := HBD.out.kept hk5 rfl; obtain ⟨_, _, _, _, _, _, _, _, _, _, hS1⟩ := hb5.cs)
            | (go_at_call 25; (with_reducible refine (CR.out w5 _ hQ5).mono ?_); rintro e w6 ⟨⟨a6, c6, rfl, hI6⟩, hQ6, hk6⟩; have hb6 := hb5.kept hk6 (.inl rfl); obtain ⟨_, _, _, _, _, _, _, _, _, _, hS2⟩ := hb6.cs)
            | (go_at_call 23; (with_reducible refine (same_fT Y a5 a6 c5 c6 w6 (hI5.kpt hk6 (fun b off e => by subst e; exact .inr rfl)) hI6 (by omega)).mono ?_); rintro e w7 ⟨rfl, hb⟩; have hS3 := cell_later hb hS2)
            | fail)
        have HQ9 := Lib.hid (((hQ6.new hb).1).less (X2 := fun _ => False) (fun _ h => h.elim))
        clear hS0 hS1 hS2 hS3 hQ5 hk5 hb5 hQ6 hk6 hb6 CT CR HBD HQX HBX HFT HSR x0 hI5 hI6 hb
        have CL := Lib.hid (HQ9.out.len (by omega))
        clear HQ9
        go_wp2_with fail
        refine CL.out.mono ?_
        rintro e w20 ⟨rfl, hQ, _⟩
        have CL2 := Lib.hid (hQ.rlen (by omega))
        clear hQ CL
        go_wp2_with fail
        refine CL2.out.mono ?_
        rintro e w21 ⟨rfl, hQ, _⟩
        obtain ⟨av, cv, hS0, hCA⟩ := (hQ.new (Below.refl _ _).drew).1.allv (by omega)
        have CA := Lib.hid hCA
        clear hQ CL2 hCA
        go_upto_region 30 with fail
        go_region_held3 (fun wx => wx.cell? ⟨m, 0, none⟩ = some (.slice av L.length cv)) (first | (with_reducible exact hS0) | (with_reducible assumption) | fail)
          (first
            | (go_at_call 29; (with_reducible refine CA.out.mono ?_); rintro e w22 ⟨⟨a3, c3, rfl, hI3⟩, hS1, hI4, hQ, _⟩)
            | (go_at_call 28; (with_reducible refine (same_eT L a3 av c3 cv w22 hI3 hI4 (by omega)).mono ?_); rintro e w23 ⟨rfl, hb⟩; have hS2 := cell_later hb hS1)
            | fail)
        have HQ23 := Lib.hid (hQ.new hb).1
        clear hS0 hS1 hS2 hI3 hI4 hQ hb CA
        go_wp2
        go_roundw
        case rel => exact ⟨j + 1, L, by omega, by go_num, by omega, HQ23⟩
        case measure => simp [intOf]; omega
    · have ilj : ¬ ((j : Int) < (n0 : Int)) := by omega
      have HBF := Lib.hid (bl_tr HB1.out HQ.out.bel)
      clear HQ
      go_wp2
      go_ret
      exact ⟨rfl, HBF.out⟩
end Go.Proofs.Ytpbgccidhpfmgaa
