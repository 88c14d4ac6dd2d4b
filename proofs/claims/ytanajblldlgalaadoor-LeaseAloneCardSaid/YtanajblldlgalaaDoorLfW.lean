/- The statement LeaseFull's walk. Conditions: the numbers fit their kinds; the library's table lies as its text lays it. -/
import Derived.Test.YtanajblldlgalaaDoorLkG
import Derived.Test.YtanajblldlgalaaDoorLfP
import Derived.Deep.RegionLaw
import Derived.Deep.AppendLies
import Derived.Deep.QuietTactic
import Derived.BigQuiet
namespace Go.Proofs.YtanajblldlgalaaDoor
open Go Go.RowKit
set_option linter.unusedVariables false
set_option linter.unusedSimpArgs false

theorem err_neq5 (w : World) : (binOp .neq 32 (errnoL 5) (errnoL 5)).run Tryd.prog w = .ok (.bool false) w := by kernel_rfl
theorem okL_ty {l : List Ls} (h : OkL l) : ∀ x ∈ l, TyL x := fun x hx => (h.1 x hx).ty
/-- What Grant leaves, opened, its length and values told. -/
theorem OutG.got {w w' : World} {L : List Ls} {g : Ls} {z : Int} {e : Ending} (h : OutG w (L, g, z) e w') (ht : ∀ x ∈ L, TyL x) {n : Nat} (hn : L.length = n) : ∃ ao c, e = .returned (.tuple #[.slice ao n c, .agg #[.int .u32 g.vip, .int .i64 g.first, .int .u32 g.dip, .int .i64 g.exp], errL z]) ∧ PkL w.heap.size w' (.slice ao n c) L ∧ Below w.heap.size w w' := by
  obtain ⟨⟨v, he, hK⟩, hb⟩ := h
  obtain ⟨ao, c, rfl, hI⟩ := PkL.inL hK ht
  exact ⟨ao, c, by rw [← hn]; exact he, by rw [← hn]; exact hK, hb⟩
set_option maxRecDepth 100000 in
set_option maxHeartbeats 8000000 in
theorem leaseFull_t (vip other now : Int) (w : World) (hv : 0 ≤ vip ∧ vip < 4294967296) (hn : i64b now) (hg : Good w) :
    Calls Tryd.prog 6 #[.int .u32 vip, .int .u32 other, .int .i64 now] w fun e w' => e = .returned (.bool true) ∧ Below w.heap.size w w' := by
  have CA := Lib.hid (alive_c w hg)
  have HG := Lib.hid hg
  have HV := Lib.hid hv
  clear hg hv
  by_cases h0 : now < 0
  · clear hn
    go_enter Tryd.func6, Tryd.ntmps6
    go_wp2_with fail
    refine CA.out.mono ?_
    rintro e w0 ⟨rfl, hb0⟩
    have HB0 := Lib.hid hb0
    clear hb0 CA
    go_wp2
    go_ret
    exact ⟨rfl, HB0.out⟩
  · by_cases h1 : 1073741824 < now
    · clear hn
      go_enter Tryd.func6, Tryd.ntmps6
      go_wp2_with fail
      refine CA.out.mono ?_
      rintro e w0 ⟨rfl, hb0⟩
      have HB0 := Lib.hid hb0
      clear hb0 CA
      go_wp2
      go_ret
      exact ⟨rfl, HB0.out⟩
    · have n0 : 0 ≤ now := by omega
      have n1 : now ≤ 1073741824 := by omega
      have HN := Lib.hid (And.intro n0 n1)
      obtain ⟨i0, hi0, hz0, hz1, hz2⟩ := info_parts infoL
      obtain ⟨T, hT⟩ : ∃ T, T = now + 5 := ⟨_, rfl⟩
      obtain ⟨S6, hS⟩ : ∃ S6, S6 = now + 6 := ⟨_, rfl⟩
      obtain ⟨U, hU⟩ : ∃ U, U = now + 70 := ⟨_, rfl⟩
      obtain ⟨V, hVq⟩ : ∃ V, V = now + 64 := ⟨_, rfl⟩
      obtain ⟨k, hk⟩ : ∃ k : Nat, k = 17 + (vip % 8000).toNat := ⟨_, rfl⟩
      have hkb : 17 ≤ k ∧ k < 8017 := by have := HV.out; omega
      have hkv : (k : Int) = 17 + vip % 8000 := by have := HV.out; omega
      obtain ⟨r8, hr8⟩ : ∃ r8, r8 = vip % 8000 := ⟨_, rfl⟩
      have hr0 : 0 ≤ r8 ∧ r8 < 8000 := by omega
      have vc0 : ∀ [Inhabited Nat], IntKind.u64.wrap vip = vip := by intro _; have := HV.out; exact IntWalk.u64_in _ (by omega)
      have vc1 : vip.tmod 8000 = r8 := by have := HV.out; rw [Int.tmod_eq_emod_of_nonneg (by omega)]; exact hr8.symm
      have vc2 : ∀ [Inhabited Nat], IntKind.u64.wrap r8 = r8 := by intro _; exact IntWalk.u64_in _ (by omega)
      have vc3 : ∀ [Inhabited Nat], IntKind.i64.wrap r8 = r8 := by intro _; exact IntWalk.i64_in _ (by omega)
      have vc4 : ∀ [Inhabited Nat], IntKind.i64.wrap (17 + r8) = (k : Int) := by intro _; rw [hkv, hr8]; exact IntWalk.i64_in _ (by omega)
      have v5 : ∀ [Inhabited Nat], IntKind.i64.wrap (now + 5) = T := by intro _; rw [hT]; exact IntWalk.i64_in _ (by omega)
      have v6 : ∀ [Inhabited Nat], IntKind.i64.wrap (now + 6) = S6 := by intro _; rw [hS]; exact IntWalk.i64_in _ (by omega)
      have q1 := fu_full n0 n1 hT
      have q2 := fu_late n0 n1 hT
      have q3 := fu_hole n0 n1 hT (k := k) (by omega)
      rw [← hS, ← hU] at q2
      rw [← hVq] at q3
      have okF : OkL (fuL T 0 8064) := fu_ok (by omega) (by omega) (by omega)
      have okH : OkL (hoL T k) := ho_ok (by omega) (by omega) (by omega)
      have CG1 := Lib.hid (fun (W : World) {ao : Option Addr} {cc : Nat} (hI : InL W ao 8064 cc (fuL T 0 8064)) (hg : Good W) => grant_c (fuL T 0 8064) 16843009 167837697 now ao 8064 cc W hI (by omega) (by omega) (by omega) hg)
      have CG2 := Lib.hid (fun (W : World) {ao : Option Addr} {cc : Nat} (hI : InL W ao 8064 cc (fuL T 0 8064)) (hg : Good W) => grant_c (fuL T 0 8064) 16843009 167837697 S6 ao 8064 cc W hI (by omega) (by omega) (by omega) hg)
      have CG3 := Lib.hid (fun (W : World) {ao : Option Addr} {cc : Nat} (hI : InL W ao 8063 cc (hoL T k)) (hg : Good W) => grant_c (hoL T k) 16843009 167837697 now ao 8063 cc W hI (by omega) (by omega) (by omega) hg)
      have o2 := grant_good q2 rfl
      have o3 := grant_good q3 rfl
      rw [q1] at CG1
      rw [q2] at CG2
      rw [q3] at CG3
      obtain ⟨L2, hL2⟩ : ∃ L2, L2 = (⟨16843009, 1024, 167837697, U⟩ : Ls) :: fuL T 1 8063 := ⟨_, rfl⟩
      obtain ⟨L3, hL3⟩ : ∃ L3, L3 = fuL T 0 k ++ (⟨16843009, 1024 + 8 * (k : Int), 167837697, V⟩ : Ls) :: fuL T (k + 1) (8063 - k) := ⟨_, rfl⟩
      rw [← hL2] at CG2 o2
      rw [← hL3] at CG3 o3
      have l2 : L2.length = 8064 := by rw [hL2, List.length_cons, fuL_len]
      have l3 : L3.length = 8064 := by rw [hL3, List.length_append, List.length_cons, fuL_len, fuL_len]; omega
      have g2 : L2.getD 0 ls0 = ⟨16843009, 1024, 167837697, U⟩ := by rw [hL2]; rfl
      have tF := Lib.hid (okL_ty okF)
      have tH := Lib.hid (okL_ty okH)
      have t2 := Lib.hid (okL_ty o2.2)
      have t3 := Lib.hid (okL_ty o3.2)
      have CC := Lib.hid (fun (W1 : World) {ao : Option Addr} {cc : Nat} (hI : InL W1 ao 8064 cc L3) => check_c L3 ao 8064 cc W1 hI (by omega))
      rw [if_pos o3.2, show errL 0 = Value.nilIface from rfl] at CC
      have HLL := Lib.hid (And.intro l2 (And.intro l3 g2))
      have HTK := Lib.hid (fu_take T (k := k) (by omega))
      have tb : 0 ≤ T ∧ T ≤ 1099511627840 := by omega
      have qe := err_neq5
      have qq := lease_neqs 16843009 1024 167837697 U
      clear hr8 hkv hT hS hU hVq q1 q2 q3 okF okH o2 o3 hL2 hL3 l2 l3 g2 hn hk
      go_enter Tryd.func6, Tryd.ntmps6
      go_wp2_with fail
      refine CA.out.mono ?_
      rintro e w0 ⟨rfl, hb0⟩
      have HB0 := Lib.hid hb0
      clear hb0 CA
      have hs0 := HB0.out.size
      have P0 : Hid (PkL w.heap.size (w0.alloc (.cells #[] tyL)) (.slice (some ⟨w0.heap.size, 0, none⟩) 0 0) (fuL T 0 0)) := Lib.hid (World.ownsRow_made w0 #[] 0 hs0 (by decide) rfl)
      have HB1 : Hid (Below w.heap.size w (w0.alloc (.cells #[] tyL))) := Lib.hid (bl_al HB0.out _)
      go_wp2
      go_loopw [7, 8] (fun pv iv wr => ∃ (i : Nat) (v : Value), v = pv ∧ i ≤ 8064 ∧ iv = .int .i64 (1024 + 8 * (i : Int)) ∧ Hid (PkL w.heap.size wr v (fuL T 0 i)) ∧ Hid (Below w.heap.size w wr)) (fun _ iv _ => 66000 - (intOf iv).toNat)
      case atStart => exact ⟨0, _, rfl, by omega, rfl, P0, HB1⟩
      case round =>
        obtain ⟨i, v, rfl, hi, rfl, HK, HB⟩ := hrel
        obtain ⟨w2, rfl⟩ : ∃ v, v = wr := ⟨_, rfl⟩
        clear P0 HB1 hs0
        by_cases hlt : i < 8064
        · have ii : (1024 + 8 * (i : Int)) < 65536 := by omega
          have e8 : ∀ [Inhabited Nat], IntKind.i64.wrap (1024 + 8 * (i : Int) + 8) = 1024 + 8 * (i : Int) + 8 := by intro _; exact IntWalk.i64_in _ (by omega)
          have HL : Hid ((fuL T 0 i).length = i) := Lib.hid (fuL_len T 0 i)
          have HOwn : Hid ((w2.alloc (.cells #[.int .u32 16843009, .int .i64 (1024 + 8 * (i : Int)), .int .u32 167837696, .int .i64 T] tyL)).ownsRow w.heap.size tyL 4 v i (cellsL (fuL T 0 i))) := Lib.hid (by
            have h := HK.out.alloc (.cells #[.int .u32 16843009, .int .i64 (1024 + 8 * (i : Int)), .int .u32 167837696, .int .i64 T] tyL)
            rwa [HL.out] at h)
          have hs4 := HB.out.size
          have K := app_side w2 w.heap.size ⟨16843009, 1024 + 8 * (i : Int), 167837696, T⟩ (m := i) (by omega) hs4
          go_wp2_with (at_builtin; refine append_any rfl _ _ 22 rfl w.heap.size tyL i0 (.agg #[.int .u32 0, .int .i64 0, .int .u32 0, .int .i64 0]) 4 32 Tryd.underlying22 hi0 hz0 hz1 hz2 rfl (by decide) _ _ _ rfl HOwn.out (some ⟨w2.heap.size, 0, none⟩) 1 1 (Ls.cs ⟨16843009, 1024 + 8 * (i : Int), 167837696, T⟩) rfl K.out.1 rfl K.out.2.1 (cs_one _) K.out.2.2.1 K.out.2.2.2.1 K.out.2.2.2.2 ?_)
          intro v2 w5 ho5 hg5
          have HB5 := Lib.hid ((HB.out.alloc hs4 (.cells #[.int .u32 16843009, .int .i64 (1024 + 8 * (i : Int)), .int .u32 167837696, .int .i64 T] tyL)).grown hg5 (by simp; omega) (fun k hk => own_blkL HOwn.out hk))
          have HK5 : Hid (PkL w.heap.size w5 v2 (fuL T 0 (i + 1))) := Lib.hid (by
            rw [fuL_more, show 0 + i = i by omega]
            unfold PkL
            rw [List.length_append, cellsL_app, cellsL_one, HL.out]
            exact ho5)
          clear ho5 hg5 HOwn HK K
          go_wp2
          go_roundw
          case rel => exact ⟨i + 1, _, rfl, by omega, by first | go_num | (rw [Int.natCast_add]; congr 1; omega), HK5, HB5⟩
          case measure => simp [intOf]; omega
        · obtain rfl : i = 8064 := by omega
          clear hlt hi
          have HL : Hid ((fuL T 0 8064).length = 8064) := Lib.hid (fuL_len T 0 8064)
          have HK0 : Hid (w2.ownsRow w.heap.size tyL 4 v 8064 (cellsL (fuL T 0 8064))) := Lib.hid (by have h := HK.out; unfold PkL at h; rwa [HL.out] at h)
          obtain ⟨G, cl, rfl, hcl⟩ : ∃ G cl, v = .slice (some ⟨G, 0, none⟩) 8064 cl ∧ 8064 ≤ cl := by
            rcases HK0.out.2 with ⟨_, h0⟩ | ⟨G, cap, cur, hv, _, _, h1, _⟩
            · omega
            · exact ⟨G, cap, hv, h1⟩
          have HI := Lib.hid (own_inL (l := fuL T 0 8064) HK0.out tF.out)
          clear HK0 HK HL
          go_wp2_with fail
          refine (CG1.out w2 HI.out (HG.out.later HB.out)).mono ?_
          rintro e w3 hO
          obtain ⟨a3, c3, he, _, hb3⟩ := hO.got (n := 0) (fun x hx => by cases hx) rfl
          have he : e = .returned (.tuple #[.slice a3 0 c3, .agg #[.int .u32 0, .int .i64 0, .int .u32 0, .int .i64 0], errnoL 5]) := he
          subst he
          obtain ⟨w4, p1, hw4, hp1, hA4, hb4, _⟩ := boxed w3 ls0
          have HI4 := Lib.hid (HI.out.below (bl_tr hb3 hb4))
          have HGL : Hid (G < w4.heap.size) := Lib.hid (block_lt_of_cell (HI4.out.cell (j := 0) (by omega)).1)
          have HB4 := Lib.hid (bl_tr HB.out (bl_tr hb3 hb4))
          have HW4 := Lib.hid (And.intro hw4 hp1)
          clear hO hb3 hw4 hp1 hA4 hb4 CG1 HI HB
          go_upto_region 11 with fail
          rw [show w3.alloc (.cells #[.int .u32 0, .int .i64 0, .int .u32 0, .int .i64 0] tyL) = w4 from HW4.out.1.symm, ← HW4.out.2]
          go_wp2_with fail
          refine (CG2.out w4 HI4.out (HG.out.later HB4.out)).mono ?_
          rintro e w5 hO
          obtain ⟨a5, c5, he, hK5, hb5⟩ := hO.got (n := 8064) t2.out HLL.out.1
          have he : e = .returned (.tuple #[.slice a5 8064 c5, .agg #[.int .u32 16843009, .int .i64 1024, .int .u32 167837697, .int .i64 U], .nilIface]) := he
          subst he
          obtain ⟨w6, p2, hw6, hp2, hA6, hb6, _⟩ := boxed w5 ⟨16843009, 1024, 167837697, U⟩
          have HX6 : Hid (BxL w6 p2 ⟨16843009, 1024, 167837697, U⟩) := Lib.hid (by rw [hw6, hp2]; exact bxL_new w5 _)
          have HI6 := Lib.hid (HI4.out.below (bl_tr hb5 hb6))
          have HB6 := Lib.hid (bl_tr HB4.out (bl_tr hb5 hb6))
          have HP6 : Hid (w.heap.size ≤ p2) := Lib.hid (by have h1 := HB4.out.size; have h2 := hb5.size; omega)
          have HGP : Hid (p2 ≠ G) := Lib.hid (by have h1 := HGL.out; have h2 := hb5.size; omega)
          have HK6 := Lib.hid (PkL.below hK5 hb6)
          have HW6 := Lib.hid (And.intro hw6 hp2)
          obtain ⟨G5, rfl⟩ : ∃ G5, a5 = some ⟨G5, 0, none⟩ := by
            have h := HK6.out
            unfold PkL at h
            rw [HLL.out.1] at h
            exact own_some h (by omega)
          clear hO hb5 hw6 hp2 hA6 hb6 hK5 CG2 HI4 HB4 HW4
          go_upto_region 14 with fail
          rw [show w5.alloc (.cells #[.int .u32 16843009, .int .i64 1024, .int .u32 167837697, .int .i64 U] tyL) = w6 from HW6.out.1.symm, ← HW6.out.2]
          obtain ⟨x0, x1, x2, x3⟩ := HX6.out.at
          obtain ⟨c0, c1, c2, c3'⟩ : w6.cell? ⟨G5, 0, none⟩ = some (.int .u32 16843009) ∧ w6.cell? ⟨G5, 1, none⟩ = some (.int .i64 1024) ∧ w6.cell? ⟨G5, 2, none⟩ = some (.int .u32 167837697) ∧ w6.cell? ⟨G5, 3, none⟩ = some (.int .i64 U) := by
            have h := HK6.out
            unfold PkL at h
            rw [HLL.out.1] at h
            have h2 := (own_inL h t2.out).cell (j := 0) (by omega)
            rw [HLL.out.2.2] at h2
            simpa [LsAt] using h2
          go_quiet (fail)
          obtain ⟨w7, hw7⟩ : ∃ w7, w7 = w6.drewN nq := ⟨_, rfl⟩
          have hb7 : Below w6.heap.size w6 w7 := by rw [hw7]; (have h := Below.refl w6.heap.size w6; exact ⟨h.os, h.tape, h.output, h.size, h.block⟩)
          have HI7 := Lib.hid (HI6.out.below hb7)
          have HB7 := Lib.hid (bl_tr HB6.out hb7)
          have HX7 := Lib.hid (HX6.out.later hb7)
          rw [← hw7]
          have HW7 := Lib.hid hw7
          clear hw7 hb7 HX6 HB6 HI6 HK6 HW6 x0 x1 x2 x3 c0 c1 c2 c3'
          go_upto_region 17 with fail
          have i1 : (0 : Int) ≤ (k : Int) := by omega
          have i2 : (k : Int) ≤ (cl : Int) := by omega
          have i3 : (k : Int) + 1 ≤ 8064 := by omega
          have i4 : (k : Int) + 1 ≤ (cl : Int) := by omega
          have i5 : (0 : Int) ≤ (k : Int) + 1 := by omega
          have i6 : (8064 : Int) ≤ (cl : Int) := by omega
          have i7 : (k : Int) < 8064 := by omega
          have vj : ∀ [Inhabited Nat], IntKind.i64.wrap ((k : Int) + 1) = (k : Int) + 1 := by intro _; exact IntWalk.i64_in _ (by omega)
          have HD : Hid (Below w7.heap.size w7 (w7.alloc (.cells #[] tyL)).drew) := Lib.hid ((bl_al (Below.refl _ _) _).drew)
          have own0 := Lib.hid (World.ownsRow_made (base := w7.heap.size) (e := tyL) (size := 4) w7 #[] 0 (Nat.le_refl _) (by decide) rfl)
          have HON := Lib.hid (cellsL_one1 (fuL T 0 k))
          have HON2 := Lib.hid (cellsL_one1 (fuL T (k + 1) (8063 - k)))
          have HL1 : Hid ((cellsL (fuL T 0 k)).length = k * 4) := Lib.hid (by rw [cellsL_len, fuL_len])
          have HL2 : Hid ((cellsL (fuL T (k + 1) (8063 - k))).length = (8063 - k) * 4) := Lib.hid (by rw [cellsL_len, fuL_len])
          have HI7a : Hid (InL w7 (some ⟨G, 0, none⟩) k cl (fuL T 0 k)) := Lib.hid (by have h := HI7.out.take k (by omega); rwa [HTK.out.1] at h)
          have HI7b : Hid (InL w7 (some ⟨G, (k + 1) * 4, none⟩) (8063 - k) (cl - (k + 1)) (fuL T (k + 1) (8063 - k))) := Lib.hid (by have h := HI7.out.drop (k + 1) (by omega) ((k + 1) * 4) (8063 - k) (cl - (k + 1)) (by omega) (by omega) (by omega); rwa [HTK.out.2.1] at h)
          have HC1 := Lib.hid (fun U (hb : Below w7.heap.size w7 U) => (HI7a.out.below hb).cells)
          have HC3 : Hid (∀ U, Below w7.heap.size w7 U → ∀ ad, (if cl = k + 1 then some (⟨G, 0, none⟩ : Addr) else some ⟨G, (k + 1) * 4, none⟩) = some ad → ∀ i u, (cellsL (fuL T (k + 1) (8063 - k)))[i]? = some u → U.cell? (ad.add i) = some u) := Lib.hid (fun U hb ad e i u hu => by
            rw [if_neg (by omega)] at e
            exact (HI7b.out.below hb).cells ad e i u hu)
          have HNN : Hid ((if cl = k + 1 then some (⟨G, 0, none⟩ : Addr) else some ⟨G, (k + 1) * 4, none⟩) = none → 8063 - k = 0 ∧ cl - (k + 1) = 0) := Lib.hid (fun e => by split at e <;> cases e)
          have hk2 : k < 8017 := hkb.2
          go_region_law (first
            | (refine step_append_own_any rfl (.tmp 83) (.tmp 86) 22 rfl w7.heap.size tyL i0 (.agg #[.int .u32 0, .int .i64 0, .int .u32 0, .int .i64 0]) 4 32 Tryd.underlying22 hi0 hz0 hz1 hz2 rfl (by decide) _ 0 [] rfl own0.out _ k _ (cellsL (fuL T 0 k)) rfl HL1.out (fun e => by cases e) (HC1.out _ HD.out) HON.out (by unfold maxLen; omega) (by omega) (by simp) ?_; intro v7 w8 hown7 hg7; simp only [Nat.zero_add, List.nil_append] at hown7 ⊢; obtain ⟨a7, c7, rfl⟩ := own_form hown7; have hb7 := HD.out.grown hg7 (by simp) (fun k hk => by cases hk; exact Nat.le_refl _))
            | (refine step_append_own_any rfl (.tmp 87) (.tmp 91) 22 rfl w7.heap.size tyL i0 (.agg #[.int .u32 0, .int .i64 0, .int .u32 0, .int .i64 0]) 4 32 Tryd.underlying22 hi0 hz0 hz1 hz2 rfl (by decide) _ k (cellsL (fuL T 0 k)) rfl hown7 _ (8063 - k) _ (cellsL (fuL T (k + 1) (8063 - k))) rfl HL2.out HNN.out (HC3.out _ hb7) HON2.out (by unfold maxLen; omega) (by omega) (by have := hb7.size; simp; omega) ?_; intro v8 w9 hown8 hg8; obtain ⟨a8, c8, rfl⟩ := own_form hown8; have hb8 := hb7.grown hg8 hb7.size (fun k hk => (hown7.lt k hk).1))
            | fail)
          all_goals
            rw [show k + (8063 - k) = 8063 by omega] at hown8 ⊢
            rw [← cellsL_app] at hown8
            have HI8 : Hid (InL w9 a8 8063 c8 (hoL T k)) := Lib.hid (own_inL (l := hoL T k) hown8 tH.out)
            have HI9 := Lib.hid (HI7.out.below hb8)
            have HB9 := Lib.hid (bl_tr HB7.out hb8)
            have HX9 := Lib.hid (HX7.out.later hb8)
            clear hown7 hg7 hb7 hown8 hg8 hb8 own0 HON HON2 HL1 HL2 HC1 HC3 HNN HI7a HI7b HI7 HB7 HX7 HD vj
            go_upto_region 18 with fail
            go_wp2_with fail
            refine (CG3.out w9 HI8.out (HG.out.later HB9.out)).mono ?_
            rintro e wa hO
            obtain ⟨aa, ca, he, hKa, hba⟩ := hO.got (n := 8064) t3.out HLL.out.2.1
            have he : e = .returned (.tuple #[.slice aa 8064 ca, .agg #[.int .u32 16843009, .int .i64 (1024 + 8 * (k : Int)), .int .u32 167837697, .int .i64 V], .nilIface]) := he
            subst he
            have HXa := Lib.hid (HX9.out.later hba)
            obtain ⟨x0, x1, x2, x3⟩ := HXa.out.at
            obtain ⟨f0, f1, f2, f3⟩ := HXa.out.free
            obtain ⟨wb, hwb⟩ : ∃ wb, wb = stL wa p2 ⟨16843009, 1024 + 8 * (k : Int), 167837697, V⟩ := ⟨_, rfl⟩
            have HXb : Hid (BxL wb p2 ⟨16843009, 1024 + 8 * (k : Int), 167837697, V⟩) := Lib.hid (by rw [hwb]; exact stL_bx HXa.out _)
            have HBb : Hid (Below w.heap.size w wb) := Lib.hid (by rw [hwb]; exact bl_stL (bl_tr HB9.out hba) HP6.out _)
            have HKb : Hid (InL wb aa 8064 ca L3) := Lib.hid (by
              have h1 : PkL w9.heap.size wb (.slice aa 8064 ca) L3 := by rw [hwb]; exact own_stL hKa HX9.out.lt _
              unfold PkL at h1
              rw [HLL.out.2.1] at h1
              exact own_inL h1 t3.out)
            have HCb : Hid (wb.cell? ⟨G, k * 4 + 1, none⟩ = some (.int .i64 (1024 + 8 * (k : Int)))) := Lib.hid (by
              have h1 := ((HI9.out.below hba).cell (j := k) (by omega)).2.1
              rw [HTK.out.2.2, Nat.zero_add] at h1
              rw [hwb]
              exact cell_stL _ h1 (fun e => HGP.out e.symm))
            have HWb := Lib.hid hwb
            clear hO hKa hba hwb he CG3
            go_upto_region 19 with fail
            rw [show (((wa.setCell ⟨p2, 0, none⟩ (.int .u32 16843009)).setCell ⟨p2, 1, none⟩ (.int .i64 (1024 + 8 * (k : Int)))).setCell ⟨p2, 2, none⟩ (.int .u32 167837697)).setCell ⟨p2, 3, none⟩ (.int .i64 V) = wb from HWb.out.symm]
            clear x0 x1 x2 x3 f0 f1 f2 f3 HWb HXa
            have hS0 : wb.drew.cell? ⟨p2, 1, none⟩ = some (.int .i64 (1024 + 8 * (k : Int))) ∧ wb.drew.cell? ⟨G, k * 4 + 1, none⟩ = some (.int .i64 (1024 + 8 * (k : Int))) := ⟨HXb.out.at.2.1, HCb.out⟩
            have HD : Hid (Below wb.heap.size wb wb.drew) := Lib.hid (Below.refl _ _).drew
            have qn : ∀ w : World, (binOp .eql 32 .nilIface .nilIface).run Tryd.prog w = .ok (.bool true) w := fun _ => by kernel_rfl
            go_region_held3 (fun wx => wx.cell? ⟨p2, 1, none⟩ = some (.int .i64 (1024 + 8 * (k : Int))) ∧ wx.cell? ⟨G, k * 4 + 1, none⟩ = some (.int .i64 (1024 + 8 * (k : Int)))) (first | (with_reducible exact hS0) | (with_reducible exact hS1) | (with_reducible assumption) | fail)
              (first | (go_at_call 18; (with_reducible refine (CC.out _ (HKb.out.below HD.out)).mono ?_); rintro e wc ⟨rfl, hb⟩; have HEc := Lib.hid (bl_tr HBb.out (bl_tr HD.out hb)); have hS1 : wc.cell? ⟨p2, 1, none⟩ = some (.int .i64 (1024 + 8 * (k : Int))) ∧ wc.cell? ⟨G, k * 4 + 1, none⟩ = some (.int .i64 (1024 + 8 * (k : Int))) := ⟨cell_later hb hS0.1, cell_later hb hS0.2⟩; clear hb) | fail)
            all_goals
              clear hS0 hS1
              go_wp2
              go_ret
              exact ⟨rfl, HEc.out⟩
end Go.Proofs.YtanajblldlgalaaDoor
