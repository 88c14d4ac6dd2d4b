/- The statement LeaseAlone's walk. Conditions: the script came in; the library's table lies as its text lays it. -/
import Derived.Test.YtanajblldlgalaaDoorLoA
import Derived.Test.YtanajblldlgalaaDoorLoB
import Derived.Deep.CutRange
import Derived.Deep.CutBlock
namespace Go.Proofs.YtanajblldlgalaaDoor
open Go Go.RowKit
set_option linter.unusedVariables false
set_option linter.unusedSimpArgs false

theorem own_grown {w w' : World} {B n size : Nat} {e : TypeId} {v : Value} {xs : List Value} {r : Option Nat} (h : w.ownsRow B e size v n xs) (hg : w.grownBy w' r) (hne : ∀ k, r = some k → k < B) : w'.ownsRow B e size v n xs := by
  refine ⟨h.1, ?_⟩
  rcases h.2 with h0 | ⟨g, cap, cur, hv, h1, h2, h3⟩
  · exact .inl h0
  · refine .inr ⟨g, cap, cur, hv, h1, (hg.block g (lt_of_block h2) (fun e => ?_)).trans h2, h3⟩
    have := hne g e.symm
    omega
/-- A round that appended what was granted. -/
theorem Rnd.put {w wr W : World} {i : Nat} {t : Int} {v g v' g' : Value} {L G L' : List Ls} {x : Ls} {B : Nat} (h : Rnd w (i + 1) t v g L G wr) (ha : Alo t L' (G ++ [x])) (hx : TyL x) (hty : ∀ x ∈ L', TyL x) (hl : L'.length ≤ L.length + 1) (hli : L.length ≤ i ∧ G.length ≤ i)
    (ho : wr.ownsRow B tyL 4 v' L'.length (cellsL L')) (hB : w.heap.size ≤ B) (hg : ∀ k, g.ownBlock = some k → k < B) (og : W.ownsRow w.heap.size tyL 4 g' (G.length + 1) (cellsL G ++ x.cs)) (hgr : (wr.alloc x.obj).grownBy W g.ownBlock) : Rnd w (i + 1) t v' g' L' (G ++ [x]) W := by
  refine ⟨ha, h.tt, by omega, by rw [List.length_append]; simp; omega, hty, fun y hy => ?_, own_base (own_grown (owns_bel ho (bl_al (Below.refl _ _) _)) hgr hg) hB, ?_, ?_⟩
  · rw [List.mem_append, List.mem_singleton] at hy
    rcases hy with hy | hy
    · exact h.tg y hy
    · rw [hy]; exact hx
  · rw [List.length_append, cellsL_app, cellsL_one]
    exact og
  · exact (h.bel.alloc h.bel.size _).grown hgr (by have := h.bel.size; simp; omega) (fun k hk => own_blkL h.rg hk)
set_option maxRecDepth 100000 in
set_option maxHeartbeats 8000000 in
theorem leaseAlone_t (f : Nat → Opn) (a : Option Addr) (n c : Nat) (w : World) (hI : InO w a n c f) (hn : n ≤ 4611686018427387904) (hg : Good w) :
    Calls Tryd.prog 5 #[.slice a n c] w fun e w' => e = .returned (.bool true) ∧ Below w.heap.size w w' := by
  have CA := Lib.hid (alive_c w hg)
  have HG := Lib.hid hg
  have HI := Lib.hid hI
  clear hg hI
  by_cases hl : 120 < n
  · have il : (120 : Int) < (n : Int) := by omega
    go_enter Tryd.func5, Tryd.ntmps5
    go_wp2_with fail
    refine CA.out.mono ?_
    rintro e w0 ⟨rfl, hb0⟩
    have HB0 := Lib.hid hb0
    clear hb0 CA
    go_wp2
    go_ret
    exact ⟨rfl, HB0.out⟩
  · have il : ¬ (120 : Int) < (n : Int) := by omega
    have hn2 : n ≤ 120 := by omega
    obtain ⟨i0, hi0, hz0, hz1, hz2⟩ := info_parts infoL
    go_enter Tryd.func5, Tryd.ntmps5
    go_wp2_with fail
    refine CA.out.mono ?_
    rintro e w0 ⟨rfl, hb0⟩
    have HR0 : Hid (Rnd w 0 0 (.slice none 0 0) (.slice (some ⟨w0.heap.size, 0, none⟩) 0 0) [] [] (w0.alloc (.cells #[] tyL))) := Lib.hid ⟨Alo.start, by omega, by simp, by simp, fun x hx => by simp at hx, fun x hx => by simp at hx, ⟨rfl, .inl ⟨rfl, rfl⟩⟩, World.ownsRow_made w0 #[] 0 hb0.size (by decide) rfl, bl_al hb0 _⟩
    clear hb0 CA
    go_wp2
    go_loopw [3, 4, 5, 29] (fun pv gv tv iv wr => ∃ (i : Nat) (v g : Value) (t : Int) (L G : List Ls), v = pv ∧ g = gv ∧ tv = .int .i64 t ∧ i ≤ n ∧ iv = .int .i64 i ∧ Hid (Rnd w i t v g L G wr)) (fun _ _ _ iv _ => n - (intOf iv).toNat)
    case atStart => exact ⟨0, _, _, 0, [], [], rfl, rfl, rfl, by omega, rfl, HR0⟩
    case round =>
      obtain ⟨i, v, g, t, L, G, rfl, rfl, rfl, hi, rfl, HR⟩ := hrel
      obtain ⟨w2, rfl⟩ : ∃ v, v = wr := ⟨_, rfl⟩
      clear HR0
      by_cases hlt : i < n
      · have ii : (i : Int) < (n : Int) := by omega
        have j0 : (0 : Int) ≤ (i : Int) := by omega
        obtain ⟨b, off, rfl⟩ := HI.out.block (by omega)
        have hx := ((HI.out.below HR.out.bel).cell hlt).1
        have ht := Lib.hid (HI.out.cell hlt).2
        obtain ⟨x, ex⟩ : ∃ x, x = f i := ⟨_, rfl⟩
        rw [← ex] at hx ht
        obtain ⟨w3, q, hw3, hq3, hA, hb3⟩ := opAt_new w2 x
        have HR3 := Lib.hid (HR.out.later hb3)
        have HA3 := Lib.hid hA
        have HW3 := Lib.hid (And.intro hw3 hq3)
        obtain ⟨x0, x1, x2, x3, x4⟩ := x
        obtain ⟨c0, c1, c2, c3, c4⟩ := hx
        obtain ⟨r, hr⟩ : ∃ r : Int, r = (IntKind.u64.wrap x4) % 100 := ⟨_, rfl⟩
        have hu : 0 ≤ IntKind.u64.wrap x4 := by rw [IntKind.wrap_u64]; omega
        have hr0 : 0 ≤ r ∧ r < 100 := by omega
        have vr1 : (IntKind.u64.wrap x4).tmod 100 = r := by rw [Int.tmod_eq_emod_of_nonneg hu]; exact hr.symm
        have vr2 : ∀ [Inhabited Nat], IntKind.u64.wrap r = r := by intro _; exact IntWalk.u64_in _ (by omega)
        have vr3 : ∀ [Inhabited Nat], IntKind.i64.wrap r = r := by intro _; exact IntWalk.i64_in _ (by omega)
        have ht0 := HR.out.alo.t0
        have ht1 := HR.out.tt
        obtain ⟨t2, ht2⟩ : ∃ t2, t2 = t + r := ⟨_, rfl⟩
        have vr4 : ∀ [Inhabited Nat], IntKind.i64.wrap (t + r) = t2 := by intro _; rw [ht2]; exact IntWalk.i64_in _ (by omega)
        have HLi : Hid (L.length ≤ i ∧ G.length ≤ i) := Lib.hid ⟨HR.out.ll, HR.out.lg⟩
        have HRW := Lib.hid (HR3.out.waits (t' := t2) (by omega) (by omega))
        have htb : 0 ≤ t2 ∧ t2 ≤ 12000 := by omega
        clear hw3 hq3 hA hb3 HR HR3 ex hr ht2 ht0 ht1
        go_upto_region 11 with fail
        rw [show w2.alloc (.cells #[.int .i64 x0, .int .u32 x1, .int .u32 x2, .int .i64 x3, .int .i64 x4] 50) = w3 from HW3.out.1.symm, ← HW3.out.2]
        clear c0 c1 c2 c3 c4
        obtain ⟨c0, c1, c2, c3', c4'⟩ := HA3.out
        obtain ⟨av, cv, rfl⟩ := own_form HRW.out.rl
        obtain ⟨ag, cg, rfl⟩ := own_form HRW.out.rg
        have HIL := Lib.hid (own_inL HRW.out.rl HRW.out.ty)
        go_upto_block 2 with fail
        go_cut [3, 4, 8, 9, 10, 12, 13, 14, 15, 16, 29] from 29 to 184 (fun v3 v4 _ _ _ _ _ _ _ _ v29 wx => v29 = .int .i64 i ∧ ∃ L' G', Hid (Rnd w (i + 1) t2 v3 v4 L' G' wx))
        case first =>
          by_cases hk0 : x0 = 0
          · subst hk0
            obtain ⟨r, hr⟩ : ∃ r, r = grantL L x1 x2 t2 := ⟨_, rfl⟩
            have HO1 := Lib.hid (grant_out L x1 x2 t2)
            have CG := Lib.hid (grant_c L x1 x2 t2 av L.length cv w3 HIL.out (by have := HLi.out; omega) ht.out.2.1 ht.out.2.2.1 (HG.out.later HRW.out.bel))
            obtain ⟨L', ⟨y0, y1, y2, y3⟩, z⟩ := r
            rw [← hr] at HO1 CG
            have HT := Lib.hid (out_ty (l := L) HO1.out.2)
            have HZ := Lib.hid HO1.out.1
            have HAL : Hid (z = 0 → (∀ x ∈ G, t2 ≤ x.exp → ovl x ⟨y0, y1, y2, y3⟩ = false) ∧ Alo t2 L' (G ++ [⟨y0, y1, y2, y3⟩])) := Lib.hid (fun hz => HRW.out.alo.granted hr.symm hz)
            have HGD : Hid (z = 0 → GoodL ⟨y0, y1, y2, y3⟩) := Lib.hid (fun hz => (HO1.out.2.2 hz).2.1)
            clear hr HO1
            go_wp2_with fail
            refine CG.out.mono ?_
            rintro e w4 hO
            obtain ⟨a3, c3, rfl, _, hO2, hb4⟩ := OutG.get hO HT.out.1
            dsimp only
            obtain ⟨w5, p1, hw5, hp1, hA5, hb5, _⟩ := boxed w4 ⟨y0, y1, y2, y3⟩
            have HX5 : Hid (BxL w5 p1 ⟨y0, y1, y2, y3⟩) := Lib.hid (by rw [hw5, hp1]; exact bxL_new w4 _)
            have HL5 := Lib.hid (owns_bel hO2 hb5)
            have HRW5 := Lib.hid (HRW.out.later (bl_tr hb4 hb5))
            have HKg : Hid (∀ k, (Value.slice ag G.length cg).ownBlock = some k → k < w3.heap.size) := Lib.hid (fun k hk => (HRW.out.rg.lt k hk).2)
            have HBs : Hid (w.heap.size ≤ w3.heap.size) := Lib.hid HRW.out.bel.size
            have HW5 := Lib.hid (And.intro hw5 hp1)
            clear hw5 hp1 hA5 hb5 hb4 hO2 hO CG c0 c1 c2 c3' c4'
            go_upto_region 16 with fail
            rw [show w4.alloc (.cells #[.int .u32 y0, .int .i64 y1, .int .u32 y2, .int .i64 y3] tyL) = w5 from HW5.out.1.symm, ← HW5.out.2]
            by_cases hz : z = 0
            · subst hz
              rw [show errL 0 = Value.nilIface from rfl]
              have HAG := Lib.hid (HAL.out rfl).2
              have HOV := Lib.hid (HAL.out rfl).1
              have HGT := Lib.hid (HGD.out rfl).ty
              have HGF := Lib.hid (HGD.out rfl).2.2.1
              go_wp2
              go_loopw [62] (fun iv wr => ∃ j : Nat, j ≤ G.length ∧ iv = .int .i64 j ∧ Hid (Below w5.heap.size w5 wr)) (fun iv _ => G.length - (intOf iv).toNat)
              case atStart => exact ⟨0, by omega, rfl, Lib.hid (Below.refl _ _)⟩
              case round =>
                obtain ⟨j, hj, rfl, HBj⟩ := hrel
                obtain ⟨w6, rfl⟩ : ∃ v, v = wr := ⟨_, rfl⟩
                by_cases hjt : j < G.length
                · have jj : (j : Int) < (G.length : Int) := by omega
                  have jj0 : (0 : Int) ≤ (j : Int) := by omega
                  have jc : (j : Int) ≤ (cg : Int) := by
                    have h := HRW5.out.rg
                    have := (own_inL h HRW5.out.tg).room
                    omega
                  obtain ⟨g0, rfl⟩ := own_some HRW5.out.rg (by omega)
                  have hx := ((own_inL HRW5.out.rg HRW5.out.tg).below HBj.out).cell hjt
                  have hm := Lib.hid (memL (l := G) hjt)
                  obtain ⟨s, es⟩ : ∃ s, s = G.getD j ls0 := ⟨_, rfl⟩
                  rw [← es] at hx hm
                  have HSF := Lib.hid (HRW5.out.alo.good s hm.out).2.2.1
                  obtain ⟨w7, p7, hw7, hp7, hA7, hb7, _⟩ := boxed w6 s
                  have HX7 : Hid (BxL w7 p7 s) := Lib.hid (by rw [hw7, hp7]; exact bxL_new w6 _)
                  have HX57 := Lib.hid ((HX5.out.later HBj.out).later hb7)
                  have HB7 := Lib.hid (bl_tr HBj.out hb7)
                  have HW7 := Lib.hid (And.intro hw7 hp7)
                  obtain ⟨s0, s1, s2, s3⟩ := s
                  have HOV1 := Lib.hid (fun h => HOV.out _ hm.out h)
                  have CO := Lib.hid (ovl_c ⟨s0, s1, s2, s3⟩ ⟨y0, y1, y2, y3⟩ HSF.out HGF.out w7)
                  have j1 : ∀ [Inhabited Nat], IntKind.i64.wrap ((j : Int) + 1) = (j : Int) + 1 := by intro _; have := HLi.out; exact IntWalk.i64_in _ (by omega)
                  obtain ⟨d0, d1, d2, d3⟩ := hx
                  rw [Nat.zero_add] at d0 d1 d2 d3
                  clear es hw7 hp7 hA7 hb7
                  go_upto_region 20 with fail
                  rw [show w6.alloc (.cells #[.int .u32 s0, .int .i64 s1, .int .u32 s2, .int .i64 s3] tyL) = w7 from HW7.out.1.symm, ← HW7.out.2]
                  clear d0 d1 d2 d3
                  obtain ⟨d0, d1, d2, d3⟩ := HX7.out.at
                  obtain ⟨k0, k1, k2, k3⟩ := HX57.out.at
                  by_cases he : t2 ≤ s3
                  · rw [HOV1.out he] at CO
                    go_wp2_with fail
                    refine CO.out.mono ?_
                    rintro e w8 ⟨rfl, hb8⟩
                    have HB8 := Lib.hid (bl_tr HB7.out hb8)
                    clear hb8
                    go_wp2
                    go_roundw
                    case rel => exact ⟨j + 1, by omega, by go_num, HB8⟩
                    case measure => simp [intOf]; omega
                  · go_wp2
                    go_roundw
                    case rel => exact ⟨j + 1, by omega, by go_num, HB7⟩
                    case measure => simp [intOf]; omega
                · obtain rfl : j = G.length := by omega
                  have jj : ¬ ((G.length : Nat) : Int) < (G.length : Int) := by omega
                  have HRj := Lib.hid (HRW5.out.later HBj.out)
                  have HLj := Lib.hid (owns_bel HL5.out HBj.out)
                  obtain ⟨k0, k1, k2, k3⟩ := (HX5.out.later HBj.out).at
                  have HOwn : Hid ((w6.alloc (.cells #[.int .u32 y0, .int .i64 y1, .int .u32 y2, .int .i64 y3] tyL)).ownsRow w.heap.size tyL 4 (.slice ag G.length cg) G.length (cellsL G)) := Lib.hid (owns_bel HRj.out.rg (bl_al (Below.refl _ _) _))
                  have K := app_side w6 w.heap.size ⟨y0, y1, y2, y3⟩ (m := G.length) (by have := HLi.out; omega) HRj.out.bel.size
                  go_wp2_with (at_builtin; refine append_any rfl _ _ 22 rfl w.heap.size tyL i0 (.agg #[.int .u32 0, .int .i64 0, .int .u32 0, .int .i64 0]) 4 32 Tryd.underlying22 hi0 hz0 hz1 hz2 rfl (by decide) _ _ _ rfl HOwn.out (some ⟨w6.heap.size, 0, none⟩) 1 1 (Ls.cs ⟨y0, y1, y2, y3⟩) rfl K.out.1 rfl K.out.2.1 (cs_one _) K.out.2.2.1 K.out.2.2.2.1 K.out.2.2.2.2 ?_)
                  intro v2 w9 ho9 hg9
                  have HRn : Hid (Rnd w (i + 1) t2 (.slice a3 L'.length c3) v2 L' (G ++ [⟨y0, y1, y2, y3⟩]) w9) := Lib.hid (HRj.out.put (x := ⟨y0, y1, y2, y3⟩) HAG.out HGT.out HT.out.1 HT.out.2 HLi.out HLj.out HBs.out HKg.out ho9 hg9)
                  clear ho9 hg9 HOwn K
                  go_wp2
                  go_meet
                  exact ⟨rfl, _, _, HRn⟩
            · have q1 := errL_eqn HZ.out hz
              have q2 := errL_geq HZ.out 58
              go_wp2
              go_meet
              exact ⟨rfl, _, _, HRW5⟩
          · by_cases hk1 : x0 = 1
            · subst hk1
              by_cases hg0 : G.length = 0
              · have gg : ¬ (0 : Int) < (G.length : Int) := by omega
                clear hg0
                go_wp2
                go_meet
                exact ⟨rfl, _, _, HRW⟩
              · have gg : (0 : Int) < (G.length : Int) := by omega
                have gg0 : ¬ (G.length : Int) = 0 := by omega
                obtain ⟨X, hX⟩ : ∃ X, X = IntKind.u64.wrap x3 := ⟨_, rfl⟩
                have hX0 : 0 ≤ X := by rw [hX, IntKind.wrap_u64]; omega
                obtain ⟨s, hs⟩ : ∃ s : Nat, s = (X % (G.length : Int)).toNat := ⟨_, rfl⟩
                have hs0 : 0 ≤ X % (G.length : Int) := Int.emod_nonneg _ (by omega)
                have hs1 : X % (G.length : Int) < (G.length : Int) := Int.emod_lt_of_pos _ (by omega)
                have hsl : s < G.length := by omega
                have hsv : (s : Int) = X % (G.length : Int) := by omega
                have m0 : ∀ [Inhabited Nat], IntKind.u64.wrap x3 = X := by intro _; exact hX.symm
                have m1 : ∀ [Inhabited Nat], IntKind.u64.wrap (G.length : Int) = (G.length : Int) := by intro _; have := HLi.out; exact IntWalk.u64_in _ (by omega)
                have m2 : X.tmod (G.length : Int) = (s : Int) := by rw [Int.tmod_eq_emod_of_nonneg hX0]; exact hsv.symm
                have m3 : ∀ [Inhabited Nat], IntKind.u64.wrap (s : Int) = (s : Int) := by intro _; have := HLi.out; exact IntWalk.u64_in _ (by omega)
                have m4 : ∀ [Inhabited Nat], IntKind.i64.wrap (s : Int) = (s : Int) := by intro _; have := HLi.out; exact IntWalk.i64_in _ (by omega)
                have jj : (s : Int) < (G.length : Int) := by omega
                have jj0 : (0 : Int) ≤ (s : Int) := by omega
                obtain ⟨g0, rfl⟩ := own_some HRW.out.rg (by omega)
                have hx := (own_inL HRW.out.rg HRW.out.tg).cell hsl
                have hm := Lib.hid (memL (l := G) hsl)
                obtain ⟨e, ee⟩ : ∃ e, e = G.getD s ls0 := ⟨_, rfl⟩
                rw [← ee] at hx hm
                have HET := Lib.hid (HRW.out.tg e hm.out)
                obtain ⟨w4, p4, hw4, hp4, hA4, hb4, _⟩ := boxed w3 e
                have HX4 : Hid (BxL w4 p4 e) := Lib.hid (by rw [hw4, hp4]; exact bxL_new w3 _)
                have HRW4 := Lib.hid (HRW.out.later hb4)
                have HW4 := Lib.hid (And.intro hw4 hp4)
                have CR := Lib.hid (renew_c L e.vip e.first e.dip t2 av L.length cv w4 (HIL.out.below hb4) (by have := HLi.out; omega) HET.out.1 HET.out.2.2.1 HET.out.2.1)
                obtain ⟨r, hr⟩ : ∃ r, r = renewL L e.vip e.first e.dip t2 := ⟨_, rfl⟩
                have HO1 := Lib.hid (renew_out L e.vip e.first e.dip t2)
                obtain ⟨L', ⟨y0, y1, y2, y3⟩, z⟩ := r
                rw [← hr] at HO1 CR
                have HT := Lib.hid (out_ty (l := L) HO1.out.2)
                have HZ := Lib.hid HO1.out.1
                have HAL := Lib.hid (HRW.out.alo.renewed (by omega) hm.out hr.symm)
                have HGD : Hid (z = 0 → GoodL ⟨y0, y1, y2, y3⟩) := Lib.hid (fun hz => (HO1.out.2.2 hz).2.1)
                obtain ⟨e0, e1, e2, e3⟩ := e
                obtain ⟨d0, d1, d2, d3⟩ := hx
                rw [Nat.zero_add] at d0 d1 d2 d3
                clear ee hr HO1 hw4 hp4 hA4 hb4 hX hX0 hs hs0 hs1 hsl hsv
                go_upto_region 27 with fail
                rw [show w3.alloc (.cells #[.int .u32 e0, .int .i64 e1, .int .u32 e2, .int .i64 e3] tyL) = w4 from HW4.out.1.symm, ← HW4.out.2]
                clear d0 d1 d2 d3 c0 c1 c2 c3' c4'
                obtain ⟨d0, d1, d2, d3⟩ := HX4.out.at
                go_wp2_with fail
                refine CR.out.mono ?_
                rintro e w5 hO
                obtain ⟨a3, c3, rfl, _, hO2, hb5⟩ := OutG.get hO HT.out.1
                dsimp only
                obtain ⟨w6, p6, hw6, hp6, hA6, hb6, _⟩ := boxed w5 ⟨y0, y1, y2, y3⟩
                have HX6 : Hid (BxL w6 p6 ⟨y0, y1, y2, y3⟩) := Lib.hid (by rw [hw6, hp6]; exact bxL_new w5 _)
                have HX46 := Lib.hid (HX4.out.later (bl_tr hb5 hb6))
                have HL6 := Lib.hid (owns_bel hO2 hb6)
                have HRW6 := Lib.hid (HRW4.out.later (bl_tr hb5 hb6))
                have HKg : Hid (∀ k, (Value.slice (some ⟨g0, 0, none⟩) G.length cg).ownBlock = some k → k < w4.heap.size) := Lib.hid (fun k hk => (HRW4.out.rg.lt k hk).2)
                have HBs : Hid (w.heap.size ≤ w4.heap.size) := Lib.hid HRW4.out.bel.size
                have HW6 := Lib.hid (And.intro hw6 hp6)
                clear hw6 hp6 hA6 hb6 hb5 hO2 hO CR d0 d1 d2 d3
                go_upto_region 28 with fail
                rw [show w5.alloc (.cells #[.int .u32 y0, .int .i64 y1, .int .u32 y2, .int .i64 y3] tyL) = w6 from HW6.out.1.symm, ← HW6.out.2]
                obtain ⟨d0, d1, d2, d3⟩ := HX46.out.at
                by_cases hz : z = 0
                · subst hz
                  rw [show errL 0 = Value.nilIface from rfl]
                  have HAG := Lib.hid (HAL.out.2 rfl)
                  have HGT := Lib.hid (HGD.out rfl).ty
                  by_cases he : t2 ≤ e3
                  · have HRj := HRW6
                    have HLj := HL6
                    obtain ⟨k0, k1, k2, k3⟩ := HX6.out.at
                    have HOwn : Hid ((w6.alloc (.cells #[.int .u32 y0, .int .i64 y1, .int .u32 y2, .int .i64 y3] tyL)).ownsRow w.heap.size tyL 4 (.slice (some ⟨g0, 0, none⟩) G.length cg) G.length (cellsL G)) := Lib.hid (owns_bel HRj.out.rg (bl_al (Below.refl _ _) _))
                    have K := app_side w6 w.heap.size ⟨y0, y1, y2, y3⟩ (m := G.length) (by have := HLi.out; omega) HRj.out.bel.size
                    go_wp2_with (at_builtin; refine append_any rfl _ _ 22 rfl w.heap.size tyL i0 (.agg #[.int .u32 0, .int .i64 0, .int .u32 0, .int .i64 0]) 4 32 Tryd.underlying22 hi0 hz0 hz1 hz2 rfl (by decide) _ _ _ rfl HOwn.out (some ⟨w6.heap.size, 0, none⟩) 1 1 (Ls.cs ⟨y0, y1, y2, y3⟩) rfl K.out.1 rfl K.out.2.1 (cs_one _) K.out.2.2.1 K.out.2.2.2.1 K.out.2.2.2.2 ?_)
                    intro v2 w9 ho9 hg9
                    have HRn : Hid (Rnd w (i + 1) t2 (.slice a3 L'.length c3) v2 L' (G ++ [⟨y0, y1, y2, y3⟩]) w9) := Lib.hid (HRj.out.put (x := ⟨y0, y1, y2, y3⟩) HAG.out HGT.out HT.out.1 HT.out.2 HLi.out HLj.out HBs.out HKg.out ho9 hg9)
                    clear ho9 hg9 HOwn K
                    go_wp2
                    go_meet
                    exact ⟨rfl, _, _, HRn⟩
                  · have HRj := HRW6
                    have HLj := HL6
                    obtain ⟨k0, k1, k2, k3⟩ := HX6.out.at
                    have HOwn : Hid ((w6.alloc (.cells #[.int .u32 y0, .int .i64 y1, .int .u32 y2, .int .i64 y3] tyL)).ownsRow w.heap.size tyL 4 (.slice (some ⟨g0, 0, none⟩) G.length cg) G.length (cellsL G)) := Lib.hid (owns_bel HRj.out.rg (bl_al (Below.refl _ _) _))
                    have K := app_side w6 w.heap.size ⟨y0, y1, y2, y3⟩ (m := G.length) (by have := HLi.out; omega) HRj.out.bel.size
                    go_wp2_with (at_builtin; refine append_any rfl _ _ 22 rfl w.heap.size tyL i0 (.agg #[.int .u32 0, .int .i64 0, .int .u32 0, .int .i64 0]) 4 32 Tryd.underlying22 hi0 hz0 hz1 hz2 rfl (by decide) _ _ _ rfl HOwn.out (some ⟨w6.heap.size, 0, none⟩) 1 1 (Ls.cs ⟨y0, y1, y2, y3⟩) rfl K.out.1 rfl K.out.2.1 (cs_one _) K.out.2.2.1 K.out.2.2.2.1 K.out.2.2.2.2 ?_)
                    intro v2 w9 ho9 hg9
                    have HRn : Hid (Rnd w (i + 1) t2 (.slice a3 L'.length c3) v2 L' (G ++ [⟨y0, y1, y2, y3⟩]) w9) := Lib.hid (HRj.out.put (x := ⟨y0, y1, y2, y3⟩) HAG.out HGT.out HT.out.1 HT.out.2 HLi.out HLj.out HBs.out HKg.out ho9 hg9)
                    clear ho9 hg9 HOwn K
                    go_wp2
                    go_meet
                    exact ⟨rfl, _, _, HRn⟩
                · have he : ¬ t2 ≤ e3 := fun h => hz (HAL.out.1 h)
                  have q1 := errL_eqn HZ.out hz
                  have q2 := errL_geq HZ.out 118
                  go_wp2
                  go_meet
                  exact ⟨rfl, _, _, HRW6⟩
            · have n0 : (x0 == 0) = false := by simpa using hk0
              have n1 : (x0 == 1) = false := by simpa using hk1
              have CP := Lib.hid (prune_c L t2 av L.length cv w3 HIL.out (by have := HLi.out; omega))
              go_wp2_with fail
              refine CP.out.mono ?_
              rintro e w4 ⟨⟨v4, rfl, hK⟩, hb4⟩
              have HRn : Hid (Rnd w (i + 1) t2 v4 (.slice ag G.length cg) (prL t2 L) G w4) := Lib.hid (by
                have h := HRW.out.later hb4
                exact ⟨h.alo.pruned, h.tt, Nat.le_trans (List.length_filter_le _ _) h.ll, h.lg, fun x hx => h.ty x (List.mem_filter.1 hx).1, h.tg, own_base hK HRW.out.bel.size, h.rg, h.bel⟩)
              clear hK hb4 CP
              go_wp2
              go_meet
              exact ⟨rfl, _, _, HRn⟩
        case rest =>
          obtain ⟨rfl, L', G', HRc⟩ := hcut
          obtain ⟨a5, c5, rfl⟩ := own_form HRc.out.rl
          obtain ⟨a6, c6, rfl⟩ := own_form HRc.out.rg
          have HLc : Hid (L'.length ≤ i + 1 ∧ G'.length ≤ i + 1) := Lib.hid ⟨HRc.out.ll, HRc.out.lg⟩
          have HIc := Lib.hid (own_inL HRc.out.rl HRc.out.ty)
          obtain ⟨wd, hwd⟩ : ∃ wd, wd = wc := ⟨_, rfl⟩
          subst hwd
          go_wp2
          go_loopw [127] (fun iv wr => ∃ j : Nat, j ≤ G'.length ∧ iv = .int .i64 j ∧ Hid (Below wd.heap.size wd wr)) (fun iv _ => G'.length - (intOf iv).toNat)
          case atStart => exact ⟨0, by omega, rfl, Lib.hid (Below.refl _ _)⟩
          case round =>
            obtain ⟨j, hj, rfl, HBj⟩ := hrel
            obtain ⟨w6, rfl⟩ : ∃ v, v = wr := ⟨_, rfl⟩
            by_cases hjt : j < G'.length
            · have jj : (j : Int) < (G'.length : Int) := by omega
              have jj0 : (0 : Int) ≤ (j : Int) := by omega
              obtain ⟨g0, rfl⟩ := own_some HRc.out.rg (by omega)
              have hx := ((own_inL HRc.out.rg HRc.out.tg).below HBj.out).cell hjt
              have hm := Lib.hid (memL (l := G') hjt)
              obtain ⟨s, es⟩ : ∃ s, s = G'.getD j ls0 := ⟨_, rfl⟩
              rw [← es] at hx hm
              have HST := Lib.hid (HRc.out.tg s hm.out)
              obtain ⟨w7, p7, hw7, hp7, hA7, hb7, _⟩ := boxed w6 s
              have HX7 : Hid (BxL w7 p7 s) := Lib.hid (by rw [hw7, hp7]; exact bxL_new w6 _)
              have HB7 := Lib.hid (bl_tr HBj.out hb7)
              have HW7 := Lib.hid (And.intro hw7 hp7)
              have CF := Lib.hid (find_c L' s.vip s.first t2 a5 L'.length c5 w7 (HIc.out.below HB7.out) (by have := HLc.out; omega) HST.out.2.1)
              have HFD := Lib.hid (fun h => HRc.out.alo.found hm.out h)
              have HFW := Lib.hid (HRc.out.alo.few s.dip)
              obtain ⟨s0, s1, s2, s3⟩ := s
              obtain ⟨o, ho⟩ : ∃ o, o = findL s0 s1 t2 L' := ⟨_, rfl⟩
              rw [show findL (Ls.mk s0 s1 s2 s3).vip (Ls.mk s0 s1 s2 s3).first t2 L' = o from ho.symm] at CF HFD
              have j1 : ∀ [Inhabited Nat], IntKind.i64.wrap ((j : Int) + 1) = (j : Int) + 1 := by intro _; have := HLc.out; exact IntWalk.i64_in _ (by omega)
              obtain ⟨d0, d1, d2, d3⟩ := hx
              rw [Nat.zero_add] at d0 d1 d2 d3
              clear es hw7 hp7 hA7 hb7 ho
              go_upto_region 35 with fail
              rw [show w6.alloc (.cells #[.int .u32 s0, .int .i64 s1, .int .u32 s2, .int .i64 s3] tyL) = w7 from HW7.out.1.symm, ← HW7.out.2]
              clear d0 d1 d2 d3
              obtain ⟨d0, d1, d2, d3⟩ := HX7.out.at
              by_cases he : t2 ≤ s3
              · obtain ⟨y, rfl, f1, f2, f3⟩ := HFD.out he
                obtain ⟨y0, y1, y2, y3⟩ := y
                simp only at f1 f2 f3
                subst f1 f2
                rw [show fndR (some ⟨y0, y1, y2, y3⟩) = Value.tuple #[.agg #[.int .u32 y0, .int .i64 y1, .int .u32 y2, .int .i64 y3], .bool true] from rfl] at CF
                go_wp2_with fail
                refine CF.out.mono ?_
                rintro e w8 ⟨rfl, hb8⟩
                obtain ⟨w9, p9, hw9, hp9, hA9, hb9, _⟩ := boxed w8 ⟨y0, y1, y2, y3⟩
                have HX9 : Hid (BxL w9 p9 ⟨y0, y1, y2, y3⟩) := Lib.hid (by rw [hw9, hp9]; exact bxL_new w8 _)
                have HX79 := Lib.hid (HX7.out.later (bl_tr hb8 hb9))
                have HB9 := Lib.hid (bl_tr HB7.out (bl_tr hb8 hb9))
                have HW9 := Lib.hid (And.intro hw9 hp9)
                have CO := Lib.hid (of_c L' y2 t2 a5 L'.length c5 w9 (HIc.out.below HB9.out) (by have := HLc.out; omega))
                have h4 : ¬ (4 : Int) < ((ofL y2 t2 L').length : Int) := by have := HFW.out; omega
                clear hw9 hp9 hA9 hb9 hb8 d0 d1 d2 d3 CF
                go_upto_region 36 with fail
                rw [show w8.alloc (.cells #[.int .u32 y0, .int .i64 y1, .int .u32 y2, .int .i64 y3] tyL) = w9 from HW9.out.1.symm, ← HW9.out.2]
                obtain ⟨d0, d1, d2, d3⟩ := HX79.out.at
                obtain ⟨k0, k1, k2, k3⟩ := HX9.out.at
                have f4 : ¬ y3 < s3 := by omega
                go_wp2_with fail
                refine CO.out.mono ?_
                rintro e w10 ⟨⟨v10, rfl, hK⟩, hb10⟩
                obtain ⟨a10, c10, rfl⟩ := own_form hK
                have HB10 := Lib.hid (bl_tr HB9.out hb10)
                clear hK hb10 CO
                go_wp2
                go_roundw
                case rel => exact ⟨j + 1, by omega, by go_num, HB10⟩
                case measure => simp [intOf]; omega
              · obtain ⟨y, hy⟩ : ∃ y, y = o.getD ls0 := ⟨_, rfl⟩
                obtain ⟨b2, hb2⟩ : ∃ b2, b2 = o.isSome := ⟨_, rfl⟩
                have hR : fndR o = Value.tuple #[.agg #[.int .u32 y.vip, .int .i64 y.first, .int .u32 y.dip, .int .i64 y.exp], .bool b2] := by rw [hy, hb2]; rfl
                rw [hR] at CF
                clear hR hy hb2
                obtain ⟨y0, y1, y2, y3⟩ := y
                go_wp2_with fail
                refine CF.out.mono ?_
                rintro e w8 ⟨rfl, hb8⟩
                obtain ⟨w9, p9, hw9, hp9, hA9, hb9, _⟩ := boxed w8 ⟨y0, y1, y2, y3⟩
                have HX79 := Lib.hid (HX7.out.later (bl_tr hb8 hb9))
                have HB9 := Lib.hid (bl_tr HB7.out (bl_tr hb8 hb9))
                have HW9 := Lib.hid (And.intro hw9 hp9)
                clear hw9 hp9 hA9 hb9 hb8 d0 d1 d2 d3 CF
                go_upto_region 36 with fail
                rw [show w8.alloc (.cells #[.int .u32 y0, .int .i64 y1, .int .u32 y2, .int .i64 y3] tyL) = w9 from HW9.out.1.symm, ← HW9.out.2]
                obtain ⟨d0, d1, d2, d3⟩ := HX79.out.at
                go_wp2
                go_roundw
                case rel => exact ⟨j + 1, by omega, by go_num, HB9⟩
                case measure => simp [intOf]; omega
            · obtain rfl : j = G'.length := by omega
              have jj : ¬ ((G'.length : Nat) : Int) < (G'.length : Int) := by omega
              have HRe := Lib.hid (HRc.out.later HBj.out)
              have j1 : ∀ [Inhabited Nat], IntKind.i64.wrap ((i : Int) + 1) = (i : Int) + 1 := by intro _; exact IntWalk.i64_in _ (by omega)
              go_wp2
              go_roundw
              case rel => exact ⟨i + 1, _, _, t2, L', G', rfl, rfl, rfl, by omega, by go_num, HRe⟩
              case measure => simp [intOf]; omega
      · obtain rfl : i = n := by omega
        have ii : ¬ ((i : Nat) : Int) < (i : Int) := by omega
        obtain ⟨av, cv, rfl⟩ := own_form HR.out.rl
        have CC := Lib.hid (check_c L av L.length cv w2 (own_inL HR.out.rl HR.out.ty) (by have := HR.out.ll; omega))
        rw [if_pos HR.out.alo.ok, show errL 0 = Value.nilIface from rfl] at CC
        go_wp2_with fail
        refine CC.out.mono ?_
        rintro e w3 ⟨rfl, hb3⟩
        have HB3 := Lib.hid (bl_tr HR.out.bel hb3)
        clear hb3 CC
        go_wp2
        go_ret
        exact ⟨rfl, HB3.out⟩
end Go.Proofs.YtanajblldlgalaaDoor
