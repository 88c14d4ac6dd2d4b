/- Contracts of towpathlaw05.slips and of TunnelCuts: true. Conditions: the Data came in, the packet's numbers are of their types, the addresses of 32 bits. -/
import Derived.Test.YtfbmeoiaedlgoaaTunF
namespace Go.Proofs.Ytfbmeoiaedlgoaa
open Go Go.RowKit
set_option linter.unusedVariables false
set_option linter.unusedSimpArgs false

set_option maxRecDepth 100000 in
set_option maxHeartbeats 1000000 in
theorem cutsW_any (s : Int) (p : Pk) (a : Option Addr) (n c : Nat) (i : Int) (w : World) (hI : In w a n c p.data) (ht : Typed p) (hs : 0 ≤ s ∧ s < 4294967296) (hn : n ≤ 4611686018427387904) :
    Calls Try.prog 7 #[.int .u32 s, p.val a n c, .int .i64 i] w fun e w' => e = .returned (.bool true) ∧ Below w.heap.size w w' := by
  obtain ⟨W, hW, hB⟩ := Box.start w p a n c
  have HW := Lib.hid hW
  have HB := Lib.hid hB
  have HI := Lib.hid hI
  by_cases hok : Ok p
  · have CB := Lib.hid (fun W (h : In W a n c p.data) => refBuild_ok p a n c hok ht W h)
    unfold RBuilt at CB
    by_cases h80 : 20 + segLen p ≤ 1480
    · have hsl := hok.len
      have hs8 : 8 ≤ segLen p := by unfold segLen; split <;> omega
      have his := (Is.of hok ht (b := bts p) rfl).1
      have hbl := bts_len p
      obtain ⟨N, hN⟩ : ∃ N, N = 20 + segLen p := ⟨_, rfl⟩
      rw [← hN] at CB hbl
      have ho : WOut (bts p) s s (wrp s s (bts p)) .nilIface 0 := .inl ⟨his, by omega, rfl, rfl, rfl⟩
      have CW := Lib.hid (fun (W : World) (a : Option Addr) (c : Nat) (h : In W a N c (bts p)) => wrap_t ho hs hs a N c W h (by omega))
      have hw : IsW (wrp s s (bts p)) := IsW.of hs hs his (by omega)
      have hwl : (wrp s s (bts p)).length = 20 + N := by rw [wrp_len, hbl]
      have hfw : fit (wrp s s (bts p)) := fit_wrp (fit_bts ht.data)
      obtain ⟨r, hr⟩ : ∃ r, r = wrp s s (bts p) := ⟨_, rfl⟩
      rw [← hr] at CW hw hwl hfw
      have h80i : ¬ ((1480 : Int) < (N : Int)) := by omega
      obtain ⟨M, hM⟩ : ∃ M, M = 20 + N := ⟨_, rfl⟩
      rw [← hM] at hwl
      have CT := Lib.hid (fun (W : World) (a : Option Addr) (c : Nat) (h : In W a M c r) => wrap_t (l := r) (s := s) (d := s) (.inr (.inr ⟨hw.not, rfl, rfl, rfl⟩)) hs hs a M c W h (by omega))
      have hN1 : 48 ≤ M ∧ M ≤ 1500 := by omega
      obtain ⟨N0, N1⟩ := hN1
      obtain ⟨x, hx, x0, x1⟩ : ∃ r, IntKind.u64.wrap i = r ∧ 0 ≤ r ∧ r < 18446744073709551616 := ⟨_, rfl, by rw [IntKind.wrap_u64]; omega, by rw [IntKind.wrap_u64]; omega⟩
      obtain ⟨K, hK, hKN⟩ : ∃ K : Nat, x % (M : Int) = (K : Int) ∧ K < M := ⟨(x % (M : Int)).toNat, by have := Int.emod_nonneg x (b := (M : Int)) (by omega); omega, by have := Int.emod_lt_of_pos x (b := (M : Int)) (by omega); have := Int.emod_nonneg x (b := (M : Int)) (by omega); omega⟩
      have CI := Lib.hid (fun (W : World) (a : Option Addr) (c : Nat) (h : In W a K c (r.take K)) => is_t (z := false) (by simp; exact cutW_bad hw (by rw [hwl]; exact hKN)) a K c W h (by omega))
      have HWL := Lib.hid hwl
      have HFW := Lib.hid hfw
      have s2 := same_two
      clear hW hB hI ht hs hok hsl hs8 his hbl ho hw hwl hfw hr hM h80 hN
      go_enter Try.func7, Try.ntmps7
      go_wp2_with fail
      rw [HW.out]
      refine (alive5_any W).mono ?_
      rintro e w1 ⟨rfl, hb⟩
      have HB1 := Lib.hid (HB.out.next hb)
      obtain ⟨e0, e1, e2, e3, e4, e5, e6, e7, e8, e9, e10, e11, e12⟩ := HB1.out.here
      clear hb HB HW
      go_wp2_with fail
      refine (CB.out w1 (HI.out.below HB1.out.below)).mono ?_
      rintro e w2 ⟨a2, c2, rfl, hin, hb⟩
      have HB2 := Lib.hid (bl_tr HB1.out.below hb)
      have HI2 := Lib.hid hin
      clear hb hin HB1 HI CB e0 e1 e2 e3 e4 e5 e6 e7 e8 e9 e10 e11 e12
      go_wp2_with fail
      refine (CW.out w2 a2 c2 HI2.out).mono ?_
      rintro e w3 ⟨a3, k3, c3, rfl, hk, hown, hb⟩
      obtain rfl : k3 = M := by rw [hk]; exact HWL.out
      have HB3 := Lib.hid (bl_tr HB2.out hb)
      have HI3 := Lib.hid (own_in hown HWL.out HFW.out)
      have hcap := HI3.out.room
      clear hb hk hown HB2 HI2 CW
      go_wp2_with fail
      refine (CT.out w3 a3 c3 HI3.out).mono ?_
      rintro e w4 ⟨a4, k4, c4, rfl, hk, hown, hb⟩
      have HB4 := Lib.hid (bl_tr HB3.out hb)
      have HI4 := Lib.hid (HI3.out.below hb)
      clear hb hk hown HB3 HI3 CT
      go_wp2_with fail
      refine (CI.out w4 a3 c3 (HI4.out.take K (Nat.le_of_lt hKN))).mono ?_
      rintro e w5 ⟨rfl, hb⟩
      have HB5 := Lib.hid (bl_tr HB4.out hb)
      clear hb CI HI4 HB4
      go_wp2
      go_ret
      exact ⟨rfl, HB5.out⟩
    · have hN : ∃ N, N = 20 + segLen p := ⟨_, rfl⟩
      obtain ⟨N, hN⟩ := hN
      rw [← hN] at CB h80
      have h80i : (1480 : Int) < (N : Int) := by omega
      clear hW hB hI ht hs hok h80 hN 
      go_enter Try.func7, Try.ntmps7
      go_wp2_with fail
      rw [HW.out]
      refine (alive5_any W).mono ?_
      rintro e w1 ⟨rfl, hb⟩
      have HB1 := Lib.hid (HB.out.next hb)
      obtain ⟨e0, e1, e2, e3, e4, e5, e6, e7, e8, e9, e10, e11, e12⟩ := HB1.out.here
      clear hb HB HW
      go_wp2_with fail
      refine (CB.out w1 (HI.out.below HB1.out.below)).mono ?_
      rintro e w2 ⟨a2, c2, rfl, hin, hb⟩
      have HB2 := Lib.hid (bl_tr HB1.out.below hb)
      clear hb hin HB1 e0 e1 e2 e3 e4 e5 e6 e7 e8 e9 e10 e11 e12
      go_wp2
      go_ret
      exact ⟨rfl, HB2.out⟩
  · have CB := Lib.hid (fun W => refBuild_no p a n c HI.out.len hn hok W)
    clear hW hB hI ht hs hok 
    go_enter Try.func7, Try.ntmps7
    go_wp2_with fail
    rw [HW.out]
    refine (alive5_any W).mono ?_
    rintro e w1 ⟨rfl, hb⟩
    have HB1 := Lib.hid (HB.out.next hb)
    obtain ⟨e0, e1, e2, e3, e4, e5, e6, e7, e8, e9, e10, e11, e12⟩ := HB1.out.here
    clear hb HB HW
    go_wp2_with fail
    refine (CB.out w1).mono ?_
    rintro e w2 ⟨rfl, hb⟩
    have HB2 := Lib.hid (bl_tr HB1.out.below hb)
    clear hb HB1 e0 e1 e2 e3 e4 e5 e6 e7 e8 e9 e10 e11 e12
    go_wp2
    go_ret
    exact ⟨rfl, HB2.out⟩

set_option maxRecDepth 100000 in
set_option maxHeartbeats 1000000 in
theorem slipsW_any (s d : Int) (p : Pk) (a : Option Addr) (n c : Nat) (i : Int) (w : World) (hI : In w a n c p.data) (ht : Typed p) (hs : 0 ≤ s ∧ s < 4294967296) (hd : 0 ≤ d ∧ d < 4294967296) (hn : n ≤ 4611686018427387904) :
    Calls Try.prog 20 #[.int .u32 s, .int .u32 d, p.val a n c, .int .i64 i] w fun e w' => e = .returned (.bool true) ∧ Below w.heap.size w w' := by
  obtain ⟨W, hW, hB⟩ := Box.start w p a n c
  have HW := Lib.hid hW
  have HB := Lib.hid hB
  have HI := Lib.hid hI
  by_cases hok : Ok p
  · have CB := Lib.hid (fun W (h : In W a n c p.data) => refBuild_ok p a n c hok ht W h)
    unfold RBuilt at CB
    by_cases h80 : 20 + segLen p ≤ 1480
    · have hsl := hok.len
      have hs8 : 8 ≤ segLen p := by unfold segLen; split <;> omega
      have his := (Is.of hok ht (b := bts p) rfl).1
      have hbl := bts_len p
      obtain ⟨N, hN⟩ : ∃ N, N = 20 + segLen p := ⟨_, rfl⟩
      rw [← hN] at CB hbl
      have ho : WOut (bts p) s d (wrp s d (bts p)) .nilIface 0 := .inl ⟨his, by omega, rfl, rfl, rfl⟩
      have CW := Lib.hid (fun (W : World) (a : Option Addr) (c : Nat) (h : In W a N c (bts p)) => wrap_t ho hs hd a N c W h (by omega))
      have hw : IsW (wrp s d (bts p)) := IsW.of hs hd his (by omega)
      have hwl : (wrp s d (bts p)).length = 20 + N := by rw [wrp_len, hbl]
      have hfw : fit (wrp s d (bts p)) := fit_wrp (fit_bts ht.data)
      obtain ⟨l, hl⟩ : ∃ r, r = wrp s d (bts p) := ⟨_, rfl⟩
      rw [← hl] at CW hw hwl hfw
      have h80i : ¬ ((1480 : Int) < (N : Int)) := by omega
      obtain ⟨M, hM⟩ : ∃ M, M = 20 + N := ⟨_, rfl⟩
      rw [← hM] at hwl
      have hN1 : 48 ≤ M ∧ M ≤ 1500 := by omega
      obtain ⟨N0, N1⟩ := hN1
      obtain ⟨r, hr, r0, r1⟩ : ∃ r, IntKind.u64.wrap i = r ∧ 0 ≤ r ∧ r < 18446744073709551616 := ⟨_, rfl, by rw [IntKind.wrap_u64]; omega, by rw [IntKind.wrap_u64]; omega⟩
      obtain ⟨B, hBt, hB1⟩ : ∃ B : Nat, r % (8 * (M : Int)) = (B : Int) ∧ B < 8 * M := ⟨(r % (8 * (M : Int))).toNat, by have := Int.emod_nonneg r (b := 8 * (M : Int)) (by omega); omega, by have := Int.emod_lt_of_pos r (b := 8 * (M : Int)) (by omega); have := Int.emod_nonneg r (b := 8 * (M : Int)) (by omega); omega⟩
      obtain ⟨J, hJ⟩ : ∃ J : Nat, J = B / 8 := ⟨_, rfl⟩
      have hJn : J < M := by omega
      have hJ2 : (B : Int) / 8 = (J : Int) := by omega
      have hB2 : (B : Int) % 8 = ((B % 8 : Nat) : Int) := by omega
      have hB3 : B % 8 < 8 := by omega
      obtain ⟨t, hst⟩ : ∃ s, s = B % 8 := ⟨_, rfl⟩
      rw [← hst] at hB2 hB3
      have HWL := Lib.hid hwl
      have HFW := Lib.hid hfw
      have HIW := Lib.hid hw
      clear hW hB hI ht hs hd hok hsl hs8 his hbl ho hw hwl hfw hl hM h80 hN hJ hst
      go_enter Try.func20, Try.ntmps20
      go_wp2_with fail
      rw [HW.out]
      refine (alive5_any W).mono ?_
      rintro e w1 ⟨rfl, hb⟩
      have HB1 := Lib.hid (HB.out.next hb)
      obtain ⟨e0, e1, e2, e3, e4, e5, e6, e7, e8, e9, e10, e11, e12⟩ := HB1.out.here
      clear hb HB HW
      go_wp2_with fail
      refine (CB.out w1 (HI.out.below HB1.out.below)).mono ?_
      rintro e w2 ⟨a2, c2, rfl, hin, hb⟩
      have HB2 := Lib.hid (bl_tr HB1.out.below hb)
      have HI2 := Lib.hid hin
      clear hb hin HB1 HI CB e0 e1 e2 e3 e4 e5 e6 e7 e8 e9 e10 e11 e12
      go_wp2_with fail
      refine (CW.out w2 a2 c2 HI2.out).mono ?_
      rintro e w3 ⟨a3, k3, c3, rfl, hk, hown, hb⟩
      obtain rfl : k3 = M := by rw [hk]; exact HWL.out
      have HB3 := Lib.hid (bl_tr HB2.out hb)
      obtain ⟨g, cap, hv, hgb⟩ := own_shape hown (by omega)
      simp only [Value.slice.injEq] at hv
      obtain ⟨rfl, _, rfl⟩ := hv
      have HO3 : Hid (Own w3 w2.heap.size g c3 k3 l) := Lib.hid ⟨hown, HWL.out, hgb⟩
      obtain ⟨x, hx⟩ : ∃ x, x = l.getD J 0 := ⟨_, rfl⟩
      have hJl : J < l.length := by rw [HWL.out]; exact hJn
      have hcell := (hown.cellAt J (by omega)).trans (u8s_at hJl)
      have hfr := hown.frozenAt J
      have hx0 := fit_at HFW.out hJl
      rw [← hx] at hcell hx0
      have HX := Lib.hid hx
      have HS2 : Hid (w.heap.size ≤ w2.heap.size) := Lib.hid HB2.out.size
      clear hb hk hown HB2 HI2 CW hx
      obtain ⟨x0, x1⟩ := hx0
      go_wp2_with fail
      obtain ⟨y, hy⟩ : ∃ y, y = bits .xor .u8 x ((2 : Int) ^ t % 256) := ⟨_, rfl⟩
      have hxy := xor8 x ((2 : Int) ^ t % 256) ⟨x0, x1⟩ (bit8 hB3)
      rw [← hy] at hxy
      rw [← hy]
      have hO3 := own_set HO3.out J y
      have hfs := fit_set HFW.out J hxy.1
      have hlen : (l.set J y).length = k3 := by rw [List.length_set, HWL.out]
      have hno := turn_bad HIW.out HFW.out hJl hxy.1 (by rw [← HX.out]; exact hxy.2)
      have HBS := Lib.hid (HB3.out.setCell (p := ⟨g, J, none⟩) (Nat.le_trans HS2.out hgb) (.int .u8 y))
      have CP := Lib.hid (is_t (l := l.set J y) (z := false) (by simp [hno]) (some ⟨g, 0, none⟩) k3 c3 _ (own_in hO3.1 hlen hfs) (by omega))
      clear hy hxy hO3 hfs hlen hno hcell hfr hJl
      refine CP.out.mono ?_
      rintro e w4 ⟨rfl, hb⟩
      have HB4 := Lib.hid (bl_tr HBS.out hb)
      clear hb CP hr hBt hJ2 hB2
      go_wp2
      go_ret
      exact ⟨rfl, HB4.out⟩
    · have hN : ∃ N, N = 20 + segLen p := ⟨_, rfl⟩
      obtain ⟨N, hN⟩ := hN
      rw [← hN] at CB h80
      have h80i : (1480 : Int) < (N : Int) := by omega
      clear hW hB hI ht hs hok h80 hN hd
      go_enter Try.func20, Try.ntmps20
      go_wp2_with fail
      rw [HW.out]
      refine (alive5_any W).mono ?_
      rintro e w1 ⟨rfl, hb⟩
      have HB1 := Lib.hid (HB.out.next hb)
      obtain ⟨e0, e1, e2, e3, e4, e5, e6, e7, e8, e9, e10, e11, e12⟩ := HB1.out.here
      clear hb HB HW
      go_wp2_with fail
      refine (CB.out w1 (HI.out.below HB1.out.below)).mono ?_
      rintro e w2 ⟨a2, c2, rfl, hin, hb⟩
      have HB2 := Lib.hid (bl_tr HB1.out.below hb)
      clear hb hin HB1 e0 e1 e2 e3 e4 e5 e6 e7 e8 e9 e10 e11 e12
      go_wp2
      go_ret
      exact ⟨rfl, HB2.out⟩
  · have CB := Lib.hid (fun W => refBuild_no p a n c HI.out.len hn hok W)
    clear hW hB hI ht hs hok hd
    go_enter Try.func20, Try.ntmps20
    go_wp2_with fail
    rw [HW.out]
    refine (alive5_any W).mono ?_
    rintro e w1 ⟨rfl, hb⟩
    have HB1 := Lib.hid (HB.out.next hb)
    obtain ⟨e0, e1, e2, e3, e4, e5, e6, e7, e8, e9, e10, e11, e12⟩ := HB1.out.here
    clear hb HB HW
    go_wp2_with fail
    refine (CB.out w1).mono ?_
    rintro e w2 ⟨rfl, hb⟩
    have HB2 := Lib.hid (bl_tr HB1.out.below hb)
    clear hb HB1 e0 e1 e2 e3 e4 e5 e6 e7 e8 e9 e10 e11 e12
    go_wp2
    go_ret
    exact ⟨rfl, HB2.out⟩
end Go.Proofs.Ytfbmeoiaedlgoaa
