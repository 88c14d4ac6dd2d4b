/- Contract of CodecSlips: true. Conditions: the message's rows came in, the numbers are of their types. -/
import Derived.Test.YtbfcgnggcgodhaaMgG
import Derived.Deep.RegionHeld3
import Derived.Deep.RegionWith
import Derived.Deep.CutRange
namespace Go.Proofs.Ytbfcgnggcgodhaa
open Go Go.RowKit
set_option linter.unusedVariables false
set_option linter.unusedSimpArgs false

theorem xor0 (x : Int) (hx : 0 ≤ x ∧ x < 256) : bits .xor .u8 x 0 = x := by
  have h := u8_xor x 0 hx.1 hx.2 (by omega) (by omega)
  rw [h]
  simp
  omega
theorem set_self (l : List Int) (j : Nat) (h : j < l.length) : l.set j (l.getD j 0) = l := by
  rw [List.getD_eq_getElem?_getD, List.getElem?_eq_getElem h]
  exact List.set_getElem_self h
set_option maxRecDepth 100000 in
set_option maxHeartbeats 1000000 in
theorem slipsC_any (m : Mg) (a : Option Addr) (n c : Nat) (b : Option Addr) (k d : Nat) (i y : Int) (w : World) (hI : MIn w a n c b k d m) (hd : 0 ≤ y ∧ y < 256) :
    Calls Try.prog 6 #[mval m.kind a n c b k d, .int .i64 i, .int .u8 y] w fun e w' => e = .returned (.bool true) ∧ Below w.heap.size w w' := by
  obtain ⟨W, hW, hX⟩ := MBox.start w m.kind a n c b k d
  have HW := Lib.hid hW
  have HX := Lib.hid hX
  have HI := Lib.hid hI
  have ht := hI.typed
  by_cases hok : OkM m
  · have CF := Lib.hid (fun W (h : MIn W a n c b k d m) => frame_t (.inl ⟨hok, rfl, rfl, rfl⟩) a n c b k d W h)
    have hk6 : k ≤ 131072 := by have := hok.data; have := hI.data.len; omega
    have CL := Lib.hid (fun W => large_no k hk6 W)
    have hfl := frm_len m
    have hN0 : 13 ≤ (frm m).length ∧ (frm m).length ≤ 65869 := by have := hok.nums; have := hok.data; omega
    have his := IsF.of hok ht
    have hfit := fit_frm ht.data
    obtain ⟨l, hl⟩ : ∃ l, l = frm m := ⟨_, rfl⟩
    rw [← hl] at CF hN0 his hfit
    obtain ⟨N, hN⟩ : ∃ N, N = l.length := ⟨_, rfl⟩
    rw [← hN] at hN0
    obtain ⟨N0, N1⟩ := hN0
    obtain ⟨r, hr, r0, r1⟩ : ∃ r, IntKind.u64.wrap i = r ∧ 0 ≤ r ∧ r < 18446744073709551616 := ⟨_, rfl, by rw [IntKind.wrap_u64]; omega, by rw [IntKind.wrap_u64]; omega⟩
    obtain ⟨K, hK, hKN⟩ : ∃ K : Nat, r % (N : Int) = (K : Int) ∧ K < N := ⟨(r % (N : Int)).toNat, by have := Int.emod_nonneg r (b := (N : Int)) (by omega); omega, by have := Int.emod_lt_of_pos r (b := (N : Int)) (by omega); have := Int.emod_nonneg r (b := (N : Int)) (by omega); omega⟩
    have CT := Lib.hid (fun W x q (h : In W x K q (l.take K)) => parseM_t (l := l.take K) (.inr ⟨cutF his (by rw [← hN]; exact hKN), rfl, rfl, rfl⟩) x K q W h (by omega))
    have HLN : Hid (l.length = N) := Lib.hid hN.symm
    have HFL := Lib.hid hfit
    have HIS := Lib.hid his
    obtain ⟨y0, y1⟩ := hd
    clear hW hX hI ht hok hk6 hfl his hfit hl hN
    go_enter Try.func6, Try.ntmps6
    go_wp2_with fail
    rw [HW.out]
    refine (alive6_any W).mono ?_
    rintro e w1 ⟨rfl, hb⟩
    have HX1 := Lib.hid (HX.out.next hb)
    obtain ⟨e0, e1, e2⟩ := HX1.out.here
    clear hb HX HW
    go_wp2_with fail
    refine (CF.out w1 (HI.out.below HX1.out.below)).mono ?_
    rintro e w2 ⟨a2, k2, c2, rfl, hk, hown, hb⟩
    obtain rfl : N = k2 := by rw [hk]; exact HLN.out.symm
    have HX2 := Lib.hid (HX1.out.next hb)
    obtain ⟨g, cap, hv, hgb⟩ := own_shape hown (by omega)
    simp only [Value.slice.injEq] at hv
    obtain ⟨rfl, _, rfl⟩ := hv
    have HO2 : Hid (Own w2 w1.heap.size g c2 N l) := Lib.hid ⟨hown, HLN.out, hgb⟩
    have HI2 := Lib.hid (own_in hown HLN.out HFL.out)
    have hcap := HI2.out.room
    have HS1 : Hid (w.heap.size ≤ w1.heap.size) := Lib.hid HX1.out.below.size
    clear hk hown hb HX1 HI CF e0 e1 e2
    obtain ⟨e0, e1, e2⟩ := HX2.out.here
    go_wp2_with fail
    refine (CL.out _).mono ?_
    rintro e w' ⟨rfl, rfl⟩
    go_wp2_with fail
    refine (CT.out w2 _ c2 (HI2.out.take K (Nat.le_of_lt hKN))).mono ?_
    rintro e w3 ⟨a3, n3, c3, b3, k3, d3, rfl, hn3, hk3, o1, o2, hb⟩
    have HB3 := Lib.hid (bl_tr HX2.out.below hb)
    have HO3 := Lib.hid (HO2.out.below hb)
    clear hn3 hk3 o1 o2 hb HX2 HI2 HO2 CT CL e0 e1 e2
    obtain ⟨X, hX⟩ : ∃ X, X = w3.alloc (mobj zeroM.kind a3 n3 c3 b3 k3 d3) := ⟨_, rfl⟩
    have HBX : Hid (Below w.heap.size w X) := Lib.hid (by rw [hX]; exact bl_al HB3.out _)
    have HOX : Hid (Own X w1.heap.size g c2 N l) := Lib.hid (by rw [hX]; exact HO3.out.alloc _)
    have HXE := Lib.hid hX
    clear hX HB3 HO3
    obtain ⟨x, hx⟩ : ∃ x, x = l.getD K 0 := ⟨_, rfl⟩
    have hJl : K < l.length := by rw [HLN.out]; exact hKN
    have hcell := (HOX.out.1.cellAt K (by omega)).trans (u8s_at hJl)
    have hfr := HOX.out.1.frozenAt K
    have hx0 := fit_at HFL.out hJl
    rw [← hx] at hcell hx0
    have HXX := Lib.hid hx
    have iK : (K : Int) < (N : Int) := by omega
    clear hx
    obtain ⟨x0, x1⟩ := hx0
    go_upto_region 8 with fail
    rw [← HXE.out]
    clear HXE
    have s3 := same33
    obtain ⟨z, hz⟩ : ∃ z, z = bits .xor .u8 x y := ⟨_, rfl⟩
    by_cases hy0 : y = 0
    · have hz2 : z = x := by rw [hz, hy0]; exact xor0 x ⟨x0, x1⟩
      have hst : l.set K z = l := by rw [hz2, HXX.out]; exact set_self l K hJl
      have hO3 := own_set HOX.out K z
      rw [hst] at hO3
      have HBS := Lib.hid (HBX.out.setCell (p := ⟨g, K, none⟩) (Nat.le_trans HS1.out HOX.out.2.2) (.int .u8 z))
      have CP := Lib.hid (parseM_t (l := l) (.inl ⟨HIS.out, rfl, rfl, rfl⟩) (some ⟨g, 0, none⟩) N c2 _ (own_in hO3.1 HLN.out HFL.out) (by omega))
      rw [hz] at CP HBS
      have ty : (y == 0) = true := by simp [hy0]
      clear hz hz2 hst hO3 hJl hy0
      go_wp2_with fail
      refine CP.out.mono ?_
      rintro e w4 ⟨a4, n4, c4, b4, k4, d4, rfl, hn4, hk4, o1, o2, hb⟩
      have HB4 := Lib.hid (bl_al (bl_tr HBS.out hb) (mobj (decM l).kind a4 n4 c4 b4 k4 d4))
      clear hn4 hk4 o1 o2 hb CP hr hK hcell hfr
      go_wp2
      go_ret
      exact ⟨rfl, HB4.out⟩
    · have hxy := xor8 x y ⟨x0, x1⟩ ⟨by omega, y1⟩
      rw [← hz] at hxy
      have hO3 := own_set HOX.out K z
      have hfs := fit_set HFL.out K hxy.1
      have hlen : (l.set K z).length = N := by rw [List.length_set, HLN.out]
      have hno := slipF HIS.out HFL.out hJl hxy.1 (by rw [← HXX.out]; exact hxy.2)
      have HBS := Lib.hid (HBX.out.setCell (p := ⟨g, K, none⟩) (Nat.le_trans HS1.out HOX.out.2.2) (.int .u8 z))
      have CP := Lib.hid (parseM_t (l := l.set K z) (.inr ⟨hno, rfl, rfl, rfl⟩) (some ⟨g, 0, none⟩) N c2 _ (own_in hO3.1 hlen hfs) (by omega))
      rw [hz] at CP HBS
      have ty : (y == 0) = false := by simpa using hy0
      clear hz hxy hO3 hfs hlen hno hJl hy0
      go_wp2_with fail
      refine CP.out.mono ?_
      rintro e w4 ⟨a4, n4, c4, b4, k4, d4, rfl, hn4, hk4, o1, o2, hb⟩
      have HB4 := Lib.hid (bl_al (bl_tr HBS.out hb) (mobj zeroM.kind a4 n4 c4 b4 k4 d4))
      clear hn4 hk4 o1 o2 hb CP hr hK hcell hfr
      go_wp2
      go_ret
      exact ⟨rfl, HB4.out⟩
  · have CF := Lib.hid (fun W (h : MIn W a n c b k d m) => frame_t (.inr ⟨hok, rfl, rfl, rfl⟩) a n c b k d W h)
    clear hW hX hI ht hok
    go_enter Try.func6, Try.ntmps6
    go_wp2_with fail
    rw [HW.out]
    refine (alive6_any W).mono ?_
    rintro e w1 ⟨rfl, hb⟩
    have HX1 := Lib.hid (HX.out.next hb)
    obtain ⟨e0, e1, e2⟩ := HX1.out.here
    clear hb HX HW
    go_wp2_with fail
    refine (CF.out w1 (HI.out.below HX1.out.below)).mono ?_
    rintro e w2 ⟨a2, k2, c2, rfl, hk, hown, hb⟩
    have HB2 := Lib.hid (bl_tr HX1.out.below hb)
    clear hk hown hb HX1 e0 e1 e2
    go_wp2
    go_ret
    exact ⟨rfl, HB2.out⟩
end Go.Proofs.Ytbfcgnggcgodhaa
