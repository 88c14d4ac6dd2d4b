/- Contract of RewriteSums: true. Conditions: the row came in, of at most 2^62 bytes; the address is of 32 bits. -/
import Derived.Test.YtfgajgdbojapcaaSumsW
import Derived.Test.YtfgajgdbojapcaaOpen4
import Derived.Test.YtfgajgdbojapcaaSumsD
import Derived.Test.YtfgajgdbojapcaaKeeps
import Derived.Deep.CutRange
namespace Go.Proofs.Ytfgajgdbojapcaa
open Go Go.RowKit
set_option linter.unusedVariables false
set_option linter.unusedSimpArgs false

theorem Prs.drewN {w : World} {v : Value} {pl : List (Int × Int)} (h : Prs w v pl) (k : Nat) : Prs (w.drewN k) v pl := h
theorem fit_two {a b c d : Int} (h1 : w16 a) (h2 : w16 b) (h3 : w16 c) (h4 : w16 d) : fit2 [(a, b), (c, d)] := by
  intro p hp
  simp only [List.mem_cons, List.not_mem_nil, or_false] at hp
  rcases hp with rfl | rfl
  · exact ⟨h1, h2⟩
  · exact ⟨h3, h4⟩
theorem fit_three {a b c d e f : Int} (h1 : w16 a) (h2 : w16 b) (h3 : w16 c) (h4 : w16 d) (h5 : w16 e) (h6 : w16 f) : fit2 [(a, b), (c, d), (e, f)] := by
  intro p hp
  simp only [List.mem_cons, List.not_mem_nil, or_false] at hp
  rcases hp with rfl | rfl | rfl
  · exact ⟨h1, h2⟩
  · exact ⟨h3, h4⟩
  · exact ⟨h5, h6⟩

set_option maxRecDepth 100000 in
set_option maxHeartbeats 1000000 in
theorem sums_no (a : Option Addr) (n c : Nat) (l : List Int) (A P : Int) (g : Pk) (w : World) (hI : In w a n c l) (hA : 0 ≤ A ∧ A < 4294967296) (hn : n ≤ 4611686018427387904) (h : ¬ (Is l ∧ portOk P)) :
    Calls Try.prog 10 #[xval a n c A P g] w fun e w' => e = .returned (.bool true) ∧ Below w.heap.size w w' := by
  obtain ⟨W, hW, hX⟩ := XBox.start w a n c A P g
  have HW := Lib.hid hW
  have HX := Lib.hid hX
  have HI := Lib.hid hI
  obtain ⟨R, E, f, ho⟩ := Out.some l (portOk P) (reD (dec l) A P)
  have C := Lib.hid (fun X (h : In X a n c l) => dest_t ho hA a n c X h hn)
  rcases ho with ⟨hi, hQ, _⟩ | ⟨hi, hQ, rfl, rfl, rfl⟩ | ⟨hi, rfl, rfl, rfl⟩
  · exact absurd ⟨hi, hQ⟩ h
  all_goals
    clear hI hA hW hX hi h
    try clear hQ
    go_enter Try.func10, Try.ntmps10
    go_wp2_with fail
    rw [HW.out]
    refine (alive4_any W).mono ?_
    rintro e w1 ⟨rfl, hb⟩
    have HX1 := Lib.hid (HX.out.next hb)
    have HI1 := Lib.hid (HI.out.below HX1.out.below)
    obtain ⟨x0, x1, x2, x3, x4, x5, x6, x7⟩ := HX1.out.here
    clear hb HX HW
    go_wp2_with fail
    refine (C.out w1 HI1.out).mono ?_
    rintro e w2 ⟨a2, k2, c2, rfl, hk, hown, hb⟩
    obtain rfl : k2 = 0 := hk
    have HX2 := Lib.hid (HX1.out.next hb)
    clear hown hb x0 x1 x2 x3 x4 x5 x6 x7 HX1 HI1 C
    go_wp2
    go_ret
    exact ⟨rfl, HX2.out.below⟩

set_option maxRecDepth 100000 in
set_option maxHeartbeats 2000000 in
theorem sums_17 (a : Option Addr) (n c : Nat) (l : List Int) (A P : Int) (g : Pk) (w : World) (hI : In w a n c l) (hA : 0 ≤ A ∧ A < 4294967296) (hn : n ≤ 4611686018427387904) (hi : Is l) (hP : portOk P) (hpr : (dec l).proto = 17) :
    Calls Try.prog 10 #[xval a n c A P g] w fun e w' => e = .returned (.bool true) ∧ Below w.heap.size w w' := by
  obtain ⟨W, hW, hX⟩ := XBox.start w a n c A P g
  have HW := Lib.hid hW
  have HX := Lib.hid hX
  have HI := Lib.hid hI
  have hln := hI.len
  have hsz := hi.size
  have t := dec_typed hI.fit
  have el := hi.2
  obtain ⟨p, hp⟩ : ∃ p, p = dec l := ⟨_, rfl⟩
  have ok : Ok p := by rw [hp]; exact hi.1
  have hS : Out l (portOk P) (reD (dec l) A P) (bts (reD (dec l) A P)) .nilIface 0 := .inl ⟨hi, hP, rfl, rfl, rfl⟩
  have C := Lib.hid (fun X (h : In X a n c l) => dest_t hS hA a n c X h hn)
  rw [← hp] at C t el hpr
  have okD : Ok (reD p A P) := reD_ok ok hP
  have tyD : Typed (reD p A P) := reD_typed t hA
  have HFR := Lib.hid (fit_bts tyD.data)
  have HLR : Hid ((bts (reD p A P)).length = n) := Lib.hid (by
    have e : (bts (reD p A P)).length = (bts p).length := by rw [bts_len, bts_len]; rfl
    rw [e, el, hln])
  obtain ⟨wd5, wd8, wd9, wd11, wdJ⟩ := words_of ok t
  obtain ⟨rd5, _, _, _, rdJ⟩ := words_of okD tyD
  obtain ⟨hsC, U, hU, hU16, hsU⟩ := sums_reD ok t hA hP
  have h9 : l.getD 9 0 = 17 := by
    have e : (bts p).getD 9 0 = p.proto % 256 := rfl
    rw [el, hpr] at e
    exact e
  have hmid : 12 + mid p.proto = 13 := by rw [hpr]; rfl
  have hmid2 : 12 + mid (reD p A P).proto = 13 := hmid
  rw [hmid] at wdJ
  rw [hmid2] at rdJ
  rw [el] at wd5 wd8 wd9 wd11 wdJ
  rw [← hsC] at rd5
  rw [← hsU, hpr] at rdJ
  obtain ⟨V, hV⟩ : ∃ V, V = if (17 : Int) = 17 ∧ U = 0 then 65535 else U := ⟨_, rfl⟩
  rw [← hV] at rdJ
  have b5 := ipSum_w16 p
  have bJ := segSum_w16 t.data
  have b8 : w16 (p.dst / 65536) := w16_hi t.dst
  have b9 : w16 (p.dst % 65536) := w16_lo _
  have b11 : w16 p.dp := by have := ok.dp; unfold w16; omega
  have bA1 : w16 (A / 65536) := w16_hi hA
  have bA2 : w16 (A % 65536) := w16_lo _
  have bP : w16 P := by have := hP; unfold portOk at this; unfold w16; omega
  obtain ⟨R, hR⟩ : ∃ R, R = bts (reD p A P) := ⟨_, rfl⟩
  rw [← hR] at C HFR HLR rd5 rdJ
  obtain ⟨c0, hc0⟩ : ∃ x, x = ipSum p := ⟨_, rfl⟩
  obtain ⟨u0, hu0⟩ : ∃ x, x = segSum p := ⟨_, rfl⟩
  obtain ⟨d1, hd1⟩ : ∃ x, x = p.dst / 65536 := ⟨_, rfl⟩
  obtain ⟨d2, hd2⟩ : ∃ x, x = p.dst % 65536 := ⟨_, rfl⟩
  obtain ⟨dp, hdp⟩ : ∃ x, x = p.dp := ⟨_, rfl⟩
  obtain ⟨A1, hA1⟩ : ∃ x, x = A / 65536 := ⟨_, rfl⟩
  obtain ⟨A2, hA2⟩ : ∃ x, x = A % 65536 := ⟨_, rfl⟩
  have k0 : A / 65536 = A1 := hA1.symm
  have k1 : IntKind.u16.wrap A1 = A1 := by rw [IntKind.wrap_u16, hA1]; omega
  have k2 : IntKind.u16.wrap A = A2 := by rw [IntKind.wrap_u16, hA2]
  have k3 : IntKind.u16.wrap P = P := by rw [IntKind.wrap_u16]; unfold w16 at bP; omega
  rw [← hc0] at wd5 b5 rd5
  rw [← hu0] at wdJ bJ hU
  rw [← hd1] at wd8 b8 rd5 hU
  rw [← hd2] at wd9 b9 rd5 hU
  rw [← hdp] at wd11 b11 hU
  rw [← hA1] at bA1 rd5 hU
  rw [← hA2] at bA2 rd5 hU
  obtain ⟨C1, hC1⟩ : ∃ x, x = up (up c0 (d1, A1)) (d2, A2) := ⟨_, rfl⟩
  rw [← hC1] at rd5
  have HC1 := Lib.hid hC1
  have HV := Lib.hid hV
  have hn0 : 28 ≤ n ∧ n ≤ 1048576 := by omega
  have hnJ : 2 * 13 + 1 < n := by
    have h1 := bts_len p
    have h2 := el
    have h3 : (bts p).length = n := by rw [h2, hln]
    have h4 : 8 ≤ segLen p := by unfold segLen; rw [hpr]; simp
    omega
  have CW5 := Lib.hid (fun X (h : In X a n c l) => lword_any a n c 5 l 10 (by omega) X h (by omega) hn0.2)
  have CW8 := Lib.hid (fun X (h : In X a n c l) => lword_any a n c 8 l 16 (by omega) X h (by omega) hn0.2)
  have CW9 := Lib.hid (fun X (h : In X a n c l) => lword_any a n c 9 l 18 (by omega) X h (by omega) hn0.2)
  have CW11 := Lib.hid (fun X (h : In X a n c l) => lword_any a n c 11 l 22 (by omega) X h (by omega) hn0.2)
  have CWJ := Lib.hid (fun X (h : In X a n c l) => lword_any a n c 13 l 26 (by omega) X h hnJ hn0.2)
  have CR5 := Lib.hid (fun X x e (h : In X x n e R) => lword_any x n e 5 R 10 (by omega) X h (by omega) hn0.2)
  have CRJ := Lib.hid (fun X x e (h : In X x n e R) => lword_any x n e 13 R 26 (by omega) X h hnJ hn0.2)
  rw [wd5] at CW5
  rw [wd8] at CW8
  rw [wd9] at CW9
  rw [wd11] at CW11
  rw [wdJ] at CWJ
  rw [rd5] at CR5
  rw [rdJ] at CRJ
  have H9 := Lib.hid h9
  have HU := Lib.hid hU
  have HB := Lib.hid (show w16 c0 ∧ w16 u0 ∧ w16 d1 ∧ w16 d2 ∧ w16 dp ∧ w16 A1 ∧ w16 A2 ∧ w16 P ∧ w16 U from ⟨b5, bJ, b8, b9, b11, bA1, bA2, bP, hU16⟩)
  have hB := HB.out
  have CU2 := Lib.hid (fun X v (h : Prs X v [(d1, A1), (d2, A2)]) => update_any c0 [(d1, A1), (d2, A2)] v X hB.1 h (fit_two hB.2.2.1 hB.2.2.2.2.2.1 hB.2.2.2.1 hB.2.2.2.2.2.2.1) (by simp))
  have CU3 := Lib.hid (fun X v (h : Prs X v [(d1, A1), (d2, A2), (dp, P)]) => update_any u0 [(d1, A1), (d2, A2), (dp, P)] v X hB.2.1 h (fit_three hB.2.2.1 hB.2.2.2.2.2.1 hB.2.2.2.1 hB.2.2.2.2.2.2.1 hB.2.2.2.2.1 hB.2.2.2.2.2.2.2.1) (by simp))
  clear hB
  have hnl : (n == n) = true := by simp
  obtain ⟨n0, n1⟩ := hn0
  clear hI hA hn hi hP hpr hW hX hln hsz el hp ok hS okD tyD t wd5 wd8 wd9 wd11 wdJ rd5 rdJ hsC hC1 hV hU hU16 hsU h9 hmid hmid2 b5 bJ b8 b9 b11 bA1 bA2 bP hR hc0 hu0 hd1 hd2 hdp hA1 hA2 hnJ
  go_enter Try.func10, Try.ntmps10
  go_wp2_with fail
  rw [HW.out]
  refine (alive4_any W).mono ?_
  rintro e w1 ⟨rfl, hb⟩
  have HX1 := Lib.hid (HX.out.next hb)
  have HI1 := Lib.hid (HI.out.below HX1.out.below)
  obtain ⟨x0, x1, x2, x3, x4, x5, x6, x7⟩ := HX1.out.here
  clear hb HX HW
  go_wp2_with fail
  refine (C.out w1 HI1.out).mono ?_
  rintro e w2 ⟨a2, k2, c2, rfl, hk, hown, hb⟩
  obtain rfl : k2 = n := by rw [hk, HLR.out]
  have HX2 := Lib.hid (HX1.out.next hb)
  have HI2 := Lib.hid (HI.out.below HX2.out.below)
  have HR2 := Lib.hid (own_row hown hk.symm HFR.out)
  clear hb hk hown x0 x1 x2 x3 x4 x5 x6 x7 HX1 HI1 C
  obtain ⟨x0, x1, x2, x3, x4, x5, x6, x7⟩ := HX2.out.here
  go_upto_region 9 with fail
  go_cut [6, 7, 8] from 40 to 58 (fun v6 v7 v8 wx => ∃ x y z : Nat, v6 = .pointer (some ⟨x, 0, none⟩) ∧ v7 = .pointer (some ⟨y, 0, none⟩) ∧ v8 = .pointer (some ⟨z, 0, none⟩) ∧ Hid (Trio w2 d1 A1 d2 A2 dp P x y z wx))
  case first =>
    refine wp_region_held_drew (S := fun w' => Below w2.heap.size w2 w') (by kernel_rfl) (below_drewN (Below.refl _ _) 1) (fun hHeld => ?_)
    refine takeD (i := 0) (d := 40) (v := ?_) rfl rfl (by kernel_rfl) (by kernel_rfl) (by kernel_rfl) (fun _ _ _ h => h) rfl ?_ (by assumption) ?_
    rotate_left
    · intro w' hSw
      go_simp
      with_reducible rfl
    rotate_left
    simp only [Act.put, List.setIfInBounds_toArray, List.set_cons_zero, List.set_cons_succ]
    refine takeD (i := 2) (d := 42) (v := ?_) rfl rfl (by kernel_rfl) (by kernel_rfl) (by kernel_rfl) (fun _ _ _ h => h) rfl ?_ (by assumption) ?_
    rotate_left
    · intro w' hSw
      go_simp
      with_reducible rfl
    rotate_left
    simp only [Act.put, List.setIfInBounds_toArray, List.set_cons_zero, List.set_cons_succ]
    refine takeD (i := 3) (d := 43) (v := ?_) rfl rfl (by kernel_rfl) (by kernel_rfl) (by kernel_rfl) (fun _ _ _ h => h) rfl ?_ (by assumption) ?_
    rotate_left
    · intro w' hSw
      have q1 := (HX2.out.here.below hSw HX2.out.here.lt).c1
      go_simp
      with_reducible rfl
    rotate_left
    simp only [Act.put, List.setIfInBounds_toArray, List.set_cons_zero, List.set_cons_succ]
    refine takeD (i := 4) (d := 44) (v := ?_) rfl rfl (by kernel_rfl) (by kernel_rfl) (by kernel_rfl) (fun _ _ _ h => h) rfl ?_ (by assumption) ?_
    rotate_left
    · intro w' hSw
      go_simp
      with_reducible rfl
    rotate_left
    simp only [Act.put, List.setIfInBounds_toArray, List.set_cons_zero, List.set_cons_succ]
    refine takeD (i := 5) (d := 45) (v := ?_) rfl rfl (by kernel_rfl) (by kernel_rfl) (by kernel_rfl) (fun _ _ _ h => h) rfl ?_ (by assumption) ?_
    rotate_left
    · intro w' hSw
      go_simp
      with_reducible rfl
    rotate_left
    simp only [Act.put, List.setIfInBounds_toArray, List.set_cons_zero, List.set_cons_succ]
    refine takeD (i := 7) (d := 47) (v := ?_) rfl rfl (by kernel_rfl) (by kernel_rfl) (by kernel_rfl) (fun _ _ _ h => h) rfl ?_ (by assumption) ?_
    rotate_left
    · intro w' hSw
      go_simp
      with_reducible rfl
    rotate_left
    simp only [Act.put, List.setIfInBounds_toArray, List.set_cons_zero, List.set_cons_succ]
    refine takeD (i := 9) (d := 49) (v := ?_) rfl rfl (by kernel_rfl) (by kernel_rfl) (by kernel_rfl) (fun _ _ _ h => h) rfl ?_ (by assumption) ?_
    rotate_left
    · intro w' hSw
      go_simp
      with_reducible rfl
    rotate_left
    simp only [Act.put, List.setIfInBounds_toArray, List.set_cons_zero, List.set_cons_succ]
    refine takeD (i := 10) (d := 50) (v := ?_) rfl rfl (by kernel_rfl) (by kernel_rfl) (by kernel_rfl) (fun _ _ _ h => h) rfl ?_ (by assumption) ?_
    rotate_left
    · intro w' hSw
      have q1 := (HX2.out.here.below hSw HX2.out.here.lt).c1
      go_simp
      with_reducible rfl
    rotate_left
    simp only [Act.put, List.setIfInBounds_toArray, List.set_cons_zero, List.set_cons_succ]
    refine takeD (i := 11) (d := 51) (v := ?_) rfl rfl (by kernel_rfl) (by kernel_rfl) (by kernel_rfl) (fun _ _ _ h => h) rfl ?_ (by assumption) ?_
    rotate_left
    · intro w' hSw
      go_simp
      with_reducible rfl
    rotate_left
    simp only [Act.put, List.setIfInBounds_toArray, List.set_cons_zero, List.set_cons_succ]
    refine takeD (i := 13) (d := 53) (v := ?_) rfl rfl (by kernel_rfl) (by kernel_rfl) (by kernel_rfl) (fun _ _ _ h => h) rfl ?_ (by assumption) ?_
    rotate_left
    · intro w' hSw
      go_simp
      with_reducible rfl
    rotate_left
    simp only [Act.put, List.setIfInBounds_toArray, List.set_cons_zero, List.set_cons_succ]
    refine takeD (i := 15) (d := 55) (v := ?_) rfl rfl (by kernel_rfl) (by kernel_rfl) (by kernel_rfl) (fun _ _ _ h => h) rfl ?_ (by assumption) ?_
    rotate_left
    · intro w' hSw
      go_simp
      with_reducible rfl
    rotate_left
    simp only [Act.put, List.setIfInBounds_toArray, List.set_cons_zero, List.set_cons_succ]
    refine takeD (i := 16) (d := 56) (v := ?_) rfl rfl (by kernel_rfl) (by kernel_rfl) (by kernel_rfl) (fun _ _ _ h => h) rfl ?_ (by assumption) ?_
    rotate_left
    · intro w' hSw
      have q2 := (HX2.out.here.below hSw HX2.out.here.lt).c2
      go_simp
      with_reducible rfl
    rotate_left
    simp only [Act.put, List.setIfInBounds_toArray, List.set_cons_zero, List.set_cons_succ]
    refine takeD (i := 17) (d := 57) (v := ?_) rfl rfl (by kernel_rfl) (by kernel_rfl) (by kernel_rfl) (fun _ _ _ h => h) rfl ?_ (by assumption) ?_
    rotate_left
    · intro w' hSw
      go_simp
      with_reducible rfl
    rotate_left
    simp only [Act.put, List.setIfInBounds_toArray, List.set_cons_zero, List.set_cons_succ]
    refine callD (i := 1) (d := 41) (v := .int .u16 d1) [6, 8, 12, 14, 18, 22, 23, 24] [19, 20, 21] rfl rfl (by kernel_rfl) (by kernel_rfl) (by kernel_rfl) (by kernel_rfl) (fun _ k h => below_drewN h k) ?_ rfl 36 #[.slice a k2 c, .int .i64 16] ?_ (fun X h => CW8.out X (HI2.out.below h)) (by assumption) (fun m1 => ?_)
    · intro j hj oj ho
      simp only [List.mem_cons, List.not_mem_nil, or_false] at hj
      rcases hj with rfl | rfl | rfl
      all_goals
        cases ho
        exact ⟨by kernel_rfl, pair_deaf _ rfl rfl⟩
    · intro X
      go_simp
    simp only [Act.put, List.setIfInBounds_toArray, List.set_cons_zero, List.set_cons_succ]
    have hH1 : Below w2.heap.size w2 (w2.drew.drewN m1) := below_drewN hHeld m1
    clear hHeld
    refine takeD (i := 6) (d := 46) (v := ?_) rfl rfl (by kernel_rfl) (by kernel_rfl) (by kernel_rfl) (fun _ _ _ h => h) rfl ?_ (by assumption) ?_
    rotate_left
    · intro w' hSw
      go_simp
      with_reducible rfl
    rotate_left
    simp only [Act.put, List.setIfInBounds_toArray, List.set_cons_zero, List.set_cons_succ]
    refine callD (i := 8) (d := 48) (v := .int .u16 d2) [12, 14, 18, 22, 23, 24] [19, 20, 21] rfl rfl (by kernel_rfl) (by kernel_rfl) (by kernel_rfl) (by kernel_rfl) (fun _ k h => below_drewN h k) ?_ rfl 36 #[.slice a k2 c, .int .i64 18] ?_ (fun X h => CW9.out X (HI2.out.below h)) (by assumption) (fun m2 => ?_)
    · intro j hj oj ho
      simp only [List.mem_cons, List.not_mem_nil, or_false] at hj
      rcases hj with rfl | rfl | rfl
      all_goals
        cases ho
        exact ⟨by kernel_rfl, pair_deaf _ rfl rfl⟩
    · intro X
      go_simp
    simp only [Act.put, List.setIfInBounds_toArray, List.set_cons_zero, List.set_cons_succ]
    have hH2 : Below w2.heap.size w2 ((w2.drew.drewN m1).drewN m2) := below_drewN hH1 m2
    clear hH1
    refine takeD (i := 12) (d := 52) (v := ?_) rfl rfl (by kernel_rfl) (by kernel_rfl) (by kernel_rfl) (fun _ _ _ h => h) rfl ?_ (by assumption) ?_
    rotate_left
    · intro w' hSw
      go_simp
      with_reducible rfl
    rotate_left
    simp only [Act.put, List.setIfInBounds_toArray, List.set_cons_zero, List.set_cons_succ]
    refine callD (i := 14) (d := 54) (v := .int .u16 dp) [18, 22, 23, 24] [19, 20, 21] rfl rfl (by kernel_rfl) (by kernel_rfl) (by kernel_rfl) (by kernel_rfl) (fun _ k h => below_drewN h k) ?_ rfl 36 #[.slice a k2 c, .int .i64 22] ?_ (fun X h => CW11.out X (HI2.out.below h)) (by assumption) (fun m3 => ?_)
    · intro j hj oj ho
      simp only [List.mem_cons, List.not_mem_nil, or_false] at hj
      rcases hj with rfl | rfl | rfl
      all_goals
        cases ho
        exact ⟨by kernel_rfl, pair_deaf _ rfl rfl⟩
    · intro X
      go_simp
    simp only [Act.put, List.setIfInBounds_toArray, List.set_cons_zero, List.set_cons_succ]
    have hH3 : Below w2.heap.size w2 (((w2.drew.drewN m1).drewN m2).drewN m3) := below_drewN hH2 m3
    clear hH2
    obtain ⟨Y, hY⟩ : ∃ Y, Y = ((w2.drew.drewN m1).drewN m2).drewN m3 := ⟨_, rfl⟩
    rw [← hY] at hH3
    rw [← hY]
    clear hY
    refine takeD (i := 18) (d := 58) (v := ?_) rfl rfl (by kernel_rfl) (by kernel_rfl) (by kernel_rfl) (fun _ _ _ h => h) rfl ?_ (by assumption) ?_
    rotate_left
    · intro w' hSw
      go_simp
      with_reducible rfl
    rotate_left
    simp only [Act.put, List.setIfInBounds_toArray, List.set_cons_zero, List.set_cons_succ]
    obtain ⟨Y1, hY1⟩ : ∃ Y1, Y1 = Y.alloc (.cells #[.int .u16 0, .int .u16 0] 66) := ⟨_, rfl⟩
    obtain ⟨Y2, hY2⟩ : ∃ Y2, Y2 = Y1.alloc (.cells #[.int .u16 0, .int .u16 0] 66) := ⟨_, rfl⟩
    obtain ⟨Z, hZ⟩ : ∃ Z, Z = Y2.alloc (.cells #[.int .u16 0, .int .u16 0] 66) := ⟨_, rfl⟩
    have hR := Room3.new hH3 Y1 Y2 Z hY1 hY2 hZ
    have hb1 : Below w2.heap.size w2 Y1 := by rw [hY1]; exact bl_al hH3 _
    have hb2 : Below w2.heap.size w2 Y2 := by rw [hY2]; exact bl_al hb1 _
    have r0 : ∀ (o : Oper) (a : Act), o.op = .alloc 66 → (execOp a.eval o).run Try.prog Y = .ok (.value (.pointer (some ⟨Y.heap.size, 0, none⟩))) Y1 := fun o a h => by rw [hY1]; exact pair_run o h a Y
    have r1 : ∀ (o : Oper) (a : Act), o.op = .alloc 66 → (execOp a.eval o).run Try.prog Y1 = .ok (.value (.pointer (some ⟨Y1.heap.size, 0, none⟩))) Y2 := fun o a h => by rw [hY2]; exact pair_run o h a Y1
    have r2 : ∀ (o : Oper) (a : Act), o.op = .alloc 66 → (execOp a.eval o).run Try.prog Y2 = .ok (.value (.pointer (some ⟨Y2.heap.size, 0, none⟩))) Z := fun o a h => by rw [hZ]; exact pair_run o h a Y2
    generalize Y.heap.size = n0 at *
    generalize Y1.heap.size = n1 at *
    generalize Y2.heap.size = n2 at *
    clear hY1 hY2 hZ
    refine wpAnyH_all (rs := [19, 20, 21]) (by kernel_rfl) (by simp) ?_
    intro i hi
    simp only [List.mem_cons, List.not_mem_nil, or_false] at hi
    rcases hi with rfl | rfl | rfl
    · refine wpOp_value (d := 6) rfl rfl rfl (r0 _ _ rfl) ⟨hb1, ?_⟩
      simp only [Act.put, List.setIfInBounds_toArray, List.set_cons_zero, List.set_cons_succ]
      refine wpAnyH_all (rs := [20, 21]) (by kernel_rfl) (by simp) ?_
      intro i hi
      simp only [List.mem_cons, List.not_mem_nil, or_false] at hi
      rcases hi with rfl | rfl
      · refine wpOp_value (d := 7) rfl rfl rfl (r1 _ _ rfl) ⟨hb2, ?_⟩
        simp only [Act.put, List.setIfInBounds_toArray, List.set_cons_zero, List.set_cons_succ]
        refine wpAnyH_all (rs := [21]) (by kernel_rfl) (by simp) ?_
        intro i hi
        obtain rfl : i = 21 := by simpa using hi
        refine wpOp_value (d := 8) rfl rfl rfl (r2 _ _ rfl) ⟨hR.below, ?_⟩
        simp only [Act.put, List.setIfInBounds_toArray, List.set_cons_zero, List.set_cons_succ]
        have hQ : Room3 w2 Z n0 n1 n2 := hR
        refine wpAnyH_all (rs := [22]) (by kernel_rfl) (by simp) ?_
        intro i hi
        obtain rfl : i = 22 := by simpa using hi
        refine wpOp_skip rfl rfl rfl (pair_store _ (.tmp 6) (.tmp 46) rfl _ _ rfl rfl hQ.px) ⟨put2_below hQ.below hQ.gx _ _, ?_⟩
        refine wpAnyH_all (rs := [23]) (by kernel_rfl) (by simp) ?_
        intro i hi
        obtain rfl : i = 23 := by simpa using hi
        refine wpOp_skip rfl rfl rfl (pair_store _ (.tmp 7) (.tmp 52) rfl _ _ rfl rfl (hQ.py.far _ _ hQ.xy)) ⟨put2_below (put2_below hQ.below hQ.gx _ _) hQ.gy _ _, ?_⟩
        refine wpAnyH_all (rs := [24]) (by kernel_rfl) (by simp) ?_
        intro i hi
        obtain rfl : i = 24 := by simpa using hi
        refine wpOp_skip rfl rfl rfl (pair_store _ (.tmp 8) (.tmp 58) rfl _ _ rfl rfl ((hQ.pz.far _ _ hQ.xz).far _ _ hQ.yz)) ⟨put2_below (put2_below (put2_below hQ.below hQ.gx _ _) hQ.gy _ _) hQ.gz _ _, ?_⟩
        refine wpAnyH_done (by kernel_rfl) ?_ _
        have hT := Trio.of hQ d1 A1 d2 A2 dp P
        generalize put2 (put2 (put2 Z n0 d1 A1) n1 d2 A2) n2 dp P = V at *
        go_wp2_with fail
        go_meet
        exact ⟨_, _, _, rfl, rfl, rfl, Lib.hid hT⟩
      · refine wpOp_value (d := 8) rfl rfl rfl (r1 _ _ rfl) ⟨hb2, ?_⟩
        simp only [Act.put, List.setIfInBounds_toArray, List.set_cons_zero, List.set_cons_succ]
        refine wpAnyH_all (rs := [20]) (by kernel_rfl) (by simp) ?_
        intro i hi
        obtain rfl : i = 20 := by simpa using hi
        refine wpOp_value (d := 7) rfl rfl rfl (r2 _ _ rfl) ⟨hR.below, ?_⟩
        simp only [Act.put, List.setIfInBounds_toArray, List.set_cons_zero, List.set_cons_succ]
        have hQ : Room3 w2 Z n0 n2 n1 := hR.swap23
        refine wpAnyH_all (rs := [22]) (by kernel_rfl) (by simp) ?_
        intro i hi
        obtain rfl : i = 22 := by simpa using hi
        refine wpOp_skip rfl rfl rfl (pair_store _ (.tmp 6) (.tmp 46) rfl _ _ rfl rfl hQ.px) ⟨put2_below hQ.below hQ.gx _ _, ?_⟩
        refine wpAnyH_all (rs := [23]) (by kernel_rfl) (by simp) ?_
        intro i hi
        obtain rfl : i = 23 := by simpa using hi
        refine wpOp_skip rfl rfl rfl (pair_store _ (.tmp 7) (.tmp 52) rfl _ _ rfl rfl (hQ.py.far _ _ hQ.xy)) ⟨put2_below (put2_below hQ.below hQ.gx _ _) hQ.gy _ _, ?_⟩
        refine wpAnyH_all (rs := [24]) (by kernel_rfl) (by simp) ?_
        intro i hi
        obtain rfl : i = 24 := by simpa using hi
        refine wpOp_skip rfl rfl rfl (pair_store _ (.tmp 8) (.tmp 58) rfl _ _ rfl rfl ((hQ.pz.far _ _ hQ.xz).far _ _ hQ.yz)) ⟨put2_below (put2_below (put2_below hQ.below hQ.gx _ _) hQ.gy _ _) hQ.gz _ _, ?_⟩
        refine wpAnyH_done (by kernel_rfl) ?_ _
        have hT := Trio.of hQ d1 A1 d2 A2 dp P
        generalize put2 (put2 (put2 Z n0 d1 A1) n2 d2 A2) n1 dp P = V at *
        go_wp2_with fail
        go_meet
        exact ⟨_, _, _, rfl, rfl, rfl, Lib.hid hT⟩
    · refine wpOp_value (d := 7) rfl rfl rfl (r0 _ _ rfl) ⟨hb1, ?_⟩
      simp only [Act.put, List.setIfInBounds_toArray, List.set_cons_zero, List.set_cons_succ]
      refine wpAnyH_all (rs := [19, 21]) (by kernel_rfl) (by simp) ?_
      intro i hi
      simp only [List.mem_cons, List.not_mem_nil, or_false] at hi
      rcases hi with rfl | rfl
      · refine wpOp_value (d := 6) rfl rfl rfl (r1 _ _ rfl) ⟨hb2, ?_⟩
        simp only [Act.put, List.setIfInBounds_toArray, List.set_cons_zero, List.set_cons_succ]
        refine wpAnyH_all (rs := [21]) (by kernel_rfl) (by simp) ?_
        intro i hi
        obtain rfl : i = 21 := by simpa using hi
        refine wpOp_value (d := 8) rfl rfl rfl (r2 _ _ rfl) ⟨hR.below, ?_⟩
        simp only [Act.put, List.setIfInBounds_toArray, List.set_cons_zero, List.set_cons_succ]
        have hQ : Room3 w2 Z n1 n0 n2 := hR.swap12
        refine wpAnyH_all (rs := [22]) (by kernel_rfl) (by simp) ?_
        intro i hi
        obtain rfl : i = 22 := by simpa using hi
        refine wpOp_skip rfl rfl rfl (pair_store _ (.tmp 6) (.tmp 46) rfl _ _ rfl rfl hQ.px) ⟨put2_below hQ.below hQ.gx _ _, ?_⟩
        refine wpAnyH_all (rs := [23]) (by kernel_rfl) (by simp) ?_
        intro i hi
        obtain rfl : i = 23 := by simpa using hi
        refine wpOp_skip rfl rfl rfl (pair_store _ (.tmp 7) (.tmp 52) rfl _ _ rfl rfl (hQ.py.far _ _ hQ.xy)) ⟨put2_below (put2_below hQ.below hQ.gx _ _) hQ.gy _ _, ?_⟩
        refine wpAnyH_all (rs := [24]) (by kernel_rfl) (by simp) ?_
        intro i hi
        obtain rfl : i = 24 := by simpa using hi
        refine wpOp_skip rfl rfl rfl (pair_store _ (.tmp 8) (.tmp 58) rfl _ _ rfl rfl ((hQ.pz.far _ _ hQ.xz).far _ _ hQ.yz)) ⟨put2_below (put2_below (put2_below hQ.below hQ.gx _ _) hQ.gy _ _) hQ.gz _ _, ?_⟩
        refine wpAnyH_done (by kernel_rfl) ?_ _
        have hT := Trio.of hQ d1 A1 d2 A2 dp P
        generalize put2 (put2 (put2 Z n1 d1 A1) n0 d2 A2) n2 dp P = V at *
        go_wp2_with fail
        go_meet
        exact ⟨_, _, _, rfl, rfl, rfl, Lib.hid hT⟩
      · refine wpOp_value (d := 8) rfl rfl rfl (r1 _ _ rfl) ⟨hb2, ?_⟩
        simp only [Act.put, List.setIfInBounds_toArray, List.set_cons_zero, List.set_cons_succ]
        refine wpAnyH_all (rs := [19]) (by kernel_rfl) (by simp) ?_
        intro i hi
        obtain rfl : i = 19 := by simpa using hi
        refine wpOp_value (d := 6) rfl rfl rfl (r2 _ _ rfl) ⟨hR.below, ?_⟩
        simp only [Act.put, List.setIfInBounds_toArray, List.set_cons_zero, List.set_cons_succ]
        have hQ : Room3 w2 Z n2 n0 n1 := hR.swap23.swap12
        refine wpAnyH_all (rs := [22]) (by kernel_rfl) (by simp) ?_
        intro i hi
        obtain rfl : i = 22 := by simpa using hi
        refine wpOp_skip rfl rfl rfl (pair_store _ (.tmp 6) (.tmp 46) rfl _ _ rfl rfl hQ.px) ⟨put2_below hQ.below hQ.gx _ _, ?_⟩
        refine wpAnyH_all (rs := [23]) (by kernel_rfl) (by simp) ?_
        intro i hi
        obtain rfl : i = 23 := by simpa using hi
        refine wpOp_skip rfl rfl rfl (pair_store _ (.tmp 7) (.tmp 52) rfl _ _ rfl rfl (hQ.py.far _ _ hQ.xy)) ⟨put2_below (put2_below hQ.below hQ.gx _ _) hQ.gy _ _, ?_⟩
        refine wpAnyH_all (rs := [24]) (by kernel_rfl) (by simp) ?_
        intro i hi
        obtain rfl : i = 24 := by simpa using hi
        refine wpOp_skip rfl rfl rfl (pair_store _ (.tmp 8) (.tmp 58) rfl _ _ rfl rfl ((hQ.pz.far _ _ hQ.xz).far _ _ hQ.yz)) ⟨put2_below (put2_below (put2_below hQ.below hQ.gx _ _) hQ.gy _ _) hQ.gz _ _, ?_⟩
        refine wpAnyH_done (by kernel_rfl) ?_ _
        have hT := Trio.of hQ d1 A1 d2 A2 dp P
        generalize put2 (put2 (put2 Z n2 d1 A1) n0 d2 A2) n1 dp P = V at *
        go_wp2_with fail
        go_meet
        exact ⟨_, _, _, rfl, rfl, rfl, Lib.hid hT⟩
    · refine wpOp_value (d := 8) rfl rfl rfl (r0 _ _ rfl) ⟨hb1, ?_⟩
      simp only [Act.put, List.setIfInBounds_toArray, List.set_cons_zero, List.set_cons_succ]
      refine wpAnyH_all (rs := [19, 20]) (by kernel_rfl) (by simp) ?_
      intro i hi
      simp only [List.mem_cons, List.not_mem_nil, or_false] at hi
      rcases hi with rfl | rfl
      · refine wpOp_value (d := 6) rfl rfl rfl (r1 _ _ rfl) ⟨hb2, ?_⟩
        simp only [Act.put, List.setIfInBounds_toArray, List.set_cons_zero, List.set_cons_succ]
        refine wpAnyH_all (rs := [20]) (by kernel_rfl) (by simp) ?_
        intro i hi
        obtain rfl : i = 20 := by simpa using hi
        refine wpOp_value (d := 7) rfl rfl rfl (r2 _ _ rfl) ⟨hR.below, ?_⟩
        simp only [Act.put, List.setIfInBounds_toArray, List.set_cons_zero, List.set_cons_succ]
        have hQ : Room3 w2 Z n1 n2 n0 := hR.swap12.swap23
        refine wpAnyH_all (rs := [22]) (by kernel_rfl) (by simp) ?_
        intro i hi
        obtain rfl : i = 22 := by simpa using hi
        refine wpOp_skip rfl rfl rfl (pair_store _ (.tmp 6) (.tmp 46) rfl _ _ rfl rfl hQ.px) ⟨put2_below hQ.below hQ.gx _ _, ?_⟩
        refine wpAnyH_all (rs := [23]) (by kernel_rfl) (by simp) ?_
        intro i hi
        obtain rfl : i = 23 := by simpa using hi
        refine wpOp_skip rfl rfl rfl (pair_store _ (.tmp 7) (.tmp 52) rfl _ _ rfl rfl (hQ.py.far _ _ hQ.xy)) ⟨put2_below (put2_below hQ.below hQ.gx _ _) hQ.gy _ _, ?_⟩
        refine wpAnyH_all (rs := [24]) (by kernel_rfl) (by simp) ?_
        intro i hi
        obtain rfl : i = 24 := by simpa using hi
        refine wpOp_skip rfl rfl rfl (pair_store _ (.tmp 8) (.tmp 58) rfl _ _ rfl rfl ((hQ.pz.far _ _ hQ.xz).far _ _ hQ.yz)) ⟨put2_below (put2_below (put2_below hQ.below hQ.gx _ _) hQ.gy _ _) hQ.gz _ _, ?_⟩
        refine wpAnyH_done (by kernel_rfl) ?_ _
        have hT := Trio.of hQ d1 A1 d2 A2 dp P
        generalize put2 (put2 (put2 Z n1 d1 A1) n2 d2 A2) n0 dp P = V at *
        go_wp2_with fail
        go_meet
        exact ⟨_, _, _, rfl, rfl, rfl, Lib.hid hT⟩
      · refine wpOp_value (d := 7) rfl rfl rfl (r1 _ _ rfl) ⟨hb2, ?_⟩
        simp only [Act.put, List.setIfInBounds_toArray, List.set_cons_zero, List.set_cons_succ]
        refine wpAnyH_all (rs := [19]) (by kernel_rfl) (by simp) ?_
        intro i hi
        obtain rfl : i = 19 := by simpa using hi
        refine wpOp_value (d := 6) rfl rfl rfl (r2 _ _ rfl) ⟨hR.below, ?_⟩
        simp only [Act.put, List.setIfInBounds_toArray, List.set_cons_zero, List.set_cons_succ]
        have hQ : Room3 w2 Z n2 n1 n0 := hR.swap12.swap23.swap12
        refine wpAnyH_all (rs := [22]) (by kernel_rfl) (by simp) ?_
        intro i hi
        obtain rfl : i = 22 := by simpa using hi
        refine wpOp_skip rfl rfl rfl (pair_store _ (.tmp 6) (.tmp 46) rfl _ _ rfl rfl hQ.px) ⟨put2_below hQ.below hQ.gx _ _, ?_⟩
        refine wpAnyH_all (rs := [23]) (by kernel_rfl) (by simp) ?_
        intro i hi
        obtain rfl : i = 23 := by simpa using hi
        refine wpOp_skip rfl rfl rfl (pair_store _ (.tmp 7) (.tmp 52) rfl _ _ rfl rfl (hQ.py.far _ _ hQ.xy)) ⟨put2_below (put2_below hQ.below hQ.gx _ _) hQ.gy _ _, ?_⟩
        refine wpAnyH_all (rs := [24]) (by kernel_rfl) (by simp) ?_
        intro i hi
        obtain rfl : i = 24 := by simpa using hi
        refine wpOp_skip rfl rfl rfl (pair_store _ (.tmp 8) (.tmp 58) rfl _ _ rfl rfl ((hQ.pz.far _ _ hQ.xz).far _ _ hQ.yz)) ⟨put2_below (put2_below (put2_below hQ.below hQ.gx _ _) hQ.gy _ _) hQ.gz _ _, ?_⟩
        refine wpAnyH_done (by kernel_rfl) ?_ _
        have hT := Trio.of hQ d1 A1 d2 A2 dp P
        generalize put2 (put2 (put2 Z n2 d1 A1) n1 d2 A2) n0 dp P = V at *
        go_wp2_with fail
        go_meet
        exact ⟨_, _, _, rfl, rfl, rfl, Lib.hid hT⟩
  case rest =>
  obtain ⟨x, y, z, rfl, rfl, rfl, HT⟩ := hcut
  obtain ⟨wd, rfl⟩ : ∃ wd : World, wd = wc := ⟨_, rfl⟩
  have HIc := Lib.hid (HI2.out.below HT.out.below)
  have HRc := Lib.hid (HR2.out.below HT.out.below)
  have HXc := Lib.hid (bl_tr HX2.out.below HT.out.below)
  clear HX2 HI2 HR2 x0 x1 x2 x3 x4 x5 x6 x7
  obtain ⟨lb, lo, rfl⟩ := in_addr HIc.out (by omega)
  have c9 := in_cell HIc.out 9 (by omega)
  rw [H9.out] at c9
  go_upto_region 13 with fail
  go_cut [10] from 63 to 68 (fun v wx => v = .int .u16 C1 ∧ Hid (Below wd.heap.size wd wx))
  case first =>
    refine wp_region_held_drew (S := fun w' => Below wd.heap.size wd w') (by kernel_rfl) (below_drewN (Below.refl _ _) 1) (fun hHeld => ?_)
    refine takeD (i := 0) (d := 63) (v := ?_) rfl rfl (by kernel_rfl) (by kernel_rfl) (by kernel_rfl) (fun _ _ _ h => h) rfl ?_ (by assumption) ?_
    rotate_left
    · intro w' hSw
      go_simp
      with_reducible rfl
    rotate_left
    simp only [Act.put, List.setIfInBounds_toArray, List.set_cons_zero, List.set_cons_succ]
    refine takeD (i := 2) (d := 65) (v := ?_) rfl rfl (by kernel_rfl) (by kernel_rfl) (by kernel_rfl) (fun _ _ _ h => h) rfl ?_ (by assumption) ?_
    rotate_left
    · intro w' hSw
      have q0 := cell_later hSw HT.out.px.c0
      have q1 := cell_later hSw HT.out.px.c1
      go_simp
      with_reducible rfl
    rotate_left
    simp only [Act.put, List.setIfInBounds_toArray, List.set_cons_zero, List.set_cons_succ]
    refine takeD (i := 3) (d := 66) (v := ?_) rfl rfl (by kernel_rfl) (by kernel_rfl) (by kernel_rfl) (fun _ _ _ h => h) rfl ?_ (by assumption) ?_
    rotate_left
    · intro w' hSw
      have q0 := cell_later hSw HT.out.py.c0
      have q1 := cell_later hSw HT.out.py.c1
      go_simp
      with_reducible rfl
    rotate_left
    simp only [Act.put, List.setIfInBounds_toArray, List.set_cons_zero, List.set_cons_succ]
    refine wpAnyH_all (rs := [1, 4]) (by kernel_rfl) (by simp) ?_
    intro i hi
    simp only [List.mem_cons, List.not_mem_nil, or_false] at hi
    rcases hi with rfl | rfl
    · refine wpOp_call (d := 64) (f := 36) (args := #[.slice (some ⟨lb, lo, none⟩) k2 c, .int .i64 10]) rfl rfl rfl (by go_simp) ((CW5.out _ (HIc.out.below hHeld)).mono ?_)
      rintro e w' ⟨rfl, m, rfl⟩
      refine ⟨_, rfl, below_drewN hHeld m, ?_⟩
      simp only [Act.put, List.setIfInBounds_toArray, List.set_cons_zero, List.set_cons_succ]
      refine wpAnyH_all (rs := [4]) (by kernel_rfl) (by simp) ?_
      intro i hi
      obtain rfl : i = 4 := by simpa using hi
      refine wpOp_value (d := 67) (v := .slice (some ⟨(wd.drew.drewN m).heap.size, 0, none⟩) 2 2) (w1 := (wd.drew.drewN m).alloc (.cells #[.int .u16 d1, .int .u16 A1, .int .u16 d2, .int .u16 A2] 66)) rfl rfl rfl (by go_simp) ⟨bl_al (below_drewN hHeld m) _, ?_⟩
      simp only [Act.put, List.setIfInBounds_toArray, List.set_cons_zero, List.set_cons_succ]
      refine wpAnyH_all (rs := [5]) (by kernel_rfl) (by simp) ?_
      intro i hi
      obtain rfl : i = 5 := by simpa using hi
      refine wpOp_call (d := 68) (f := 37) (args := #[.int .u16 c0, .slice (some ⟨(wd.drew.drewN m).heap.size, 0, none⟩) 2 2]) rfl rfl rfl (by go_simp) ((CU2.out _ _ ((Prs.two (wd.drew.drewN m) d1 A1 d2 A2 66 _ rfl))).mono ?_)
      rintro e w' ⟨rfl, hb⟩
      have hH9 := bl_tr (bl_al (below_drewN hHeld m) _) hb
      refine ⟨_, rfl, hH9, ?_⟩
      simp only [Act.put, List.setIfInBounds_toArray, List.set_cons_zero, List.set_cons_succ]
      refine wpAnyH_all (rs := [6]) (by kernel_rfl) (by simp) ?_
      intro i hi
      obtain rfl : i = 6 := by simpa using hi
      refine wpOp_value (d := 10) (v := .int .u16 C1) (w1 := w') rfl rfl rfl (by rw [HC1.out]; go_simp) ⟨hH9, ?_⟩
      simp only [Act.put, List.setIfInBounds_toArray, List.set_cons_zero, List.set_cons_succ]
      refine wpAnyH_done (by kernel_rfl) ?_ _
      go_wp2_with fail
      go_meet
      exact ⟨rfl, Lib.hid hH9⟩
    · refine wpOp_value (d := 67) (v := .slice (some ⟨wd.drew.heap.size, 0, none⟩) 2 2) (w1 := wd.drew.alloc (.cells #[.int .u16 d1, .int .u16 A1, .int .u16 d2, .int .u16 A2] 66)) rfl rfl rfl (by go_simp) ⟨bl_al hHeld _, ?_⟩
      simp only [Act.put, List.setIfInBounds_toArray, List.set_cons_zero, List.set_cons_succ]
      refine wpAnyH_all (rs := [1]) (by kernel_rfl) (by simp) ?_
      intro i hi
      obtain rfl : i = 1 := by simpa using hi
      refine wpOp_call (d := 64) (f := 36) (args := #[.slice (some ⟨lb, lo, none⟩) k2 c, .int .i64 10]) rfl rfl rfl (by go_simp) ((CW5.out _ (HIc.out.below (bl_al hHeld _))).mono ?_)
      rintro e w' ⟨rfl, m, rfl⟩
      refine ⟨_, rfl, below_drewN (bl_al hHeld _) m, ?_⟩
      simp only [Act.put, List.setIfInBounds_toArray, List.set_cons_zero, List.set_cons_succ]
      refine wpAnyH_all (rs := [5]) (by kernel_rfl) (by simp) ?_
      intro i hi
      obtain rfl : i = 5 := by simpa using hi
      refine wpOp_call (d := 68) (f := 37) (args := #[.int .u16 c0, .slice (some ⟨wd.drew.heap.size, 0, none⟩) 2 2]) rfl rfl rfl (by go_simp) ((CU2.out _ _ (Prs.drewN (Prs.two wd.drew d1 A1 d2 A2 66 _ rfl) m)).mono ?_)
      rintro e w' ⟨rfl, hb⟩
      have hH9 := bl_tr (below_drewN (bl_al hHeld _) m) hb
      refine ⟨_, rfl, hH9, ?_⟩
      simp only [Act.put, List.setIfInBounds_toArray, List.set_cons_zero, List.set_cons_succ]
      refine wpAnyH_all (rs := [6]) (by kernel_rfl) (by simp) ?_
      intro i hi
      obtain rfl : i = 6 := by simpa using hi
      refine wpOp_value (d := 10) (v := .int .u16 C1) (w1 := w') rfl rfl rfl (by rw [HC1.out]; go_simp) ⟨hH9, ?_⟩
      simp only [Act.put, List.setIfInBounds_toArray, List.set_cons_zero, List.set_cons_succ]
      refine wpAnyH_done (by kernel_rfl) ?_ _
      go_wp2_with fail
      go_meet
      exact ⟨rfl, Lib.hid hH9⟩
  case rest =>
  obtain ⟨rfl, HB1⟩ := hcut
  go_upto_region 14 with fail
  go_cut [11] from 69 to 76 (fun v wx => v = .int .u16 U ∧ Hid (Below wd.heap.size wd wx))
  case first =>
    refine wp_region_held_drew (S := fun w' => Below wd.heap.size wd w') (by kernel_rfl) (below_drewN HB1.out 1) (fun hHeld => ?_)
    refine takeD (i := 0) (d := 69) (v := ?_) rfl rfl (by kernel_rfl) (by kernel_rfl) (by kernel_rfl) (fun _ _ _ h => h) rfl ?_ (by assumption) ?_
    rotate_left
    · intro w' hSw
      go_simp
      with_reducible rfl
    rotate_left
    simp only [Act.put, List.setIfInBounds_toArray, List.set_cons_zero, List.set_cons_succ]
    refine takeD (i := 1) (d := 70) (v := ?_) rfl rfl (by kernel_rfl) (by kernel_rfl) (by kernel_rfl) (fun _ _ _ h => h) rfl ?_ (by assumption) ?_
    rotate_left
    · intro w' hSw
      go_simp
      with_reducible rfl
    rotate_left
    simp only [Act.put, List.setIfInBounds_toArray, List.set_cons_zero, List.set_cons_succ]
    refine takeD (i := 3) (d := 72) (v := ?_) rfl rfl (by kernel_rfl) (by kernel_rfl) (by kernel_rfl) (fun _ _ _ h => h) rfl ?_ (by assumption) ?_
    rotate_left
    · intro w' hSw
      have q0 := cell_later hSw HT.out.px.c0
      have q1 := cell_later hSw HT.out.px.c1
      go_simp
      with_reducible rfl
    rotate_left
    simp only [Act.put, List.setIfInBounds_toArray, List.set_cons_zero, List.set_cons_succ]
    refine takeD (i := 4) (d := 73) (v := ?_) rfl rfl (by kernel_rfl) (by kernel_rfl) (by kernel_rfl) (fun _ _ _ h => h) rfl ?_ (by assumption) ?_
    rotate_left
    · intro w' hSw
      have q0 := cell_later hSw HT.out.py.c0
      have q1 := cell_later hSw HT.out.py.c1
      go_simp
      with_reducible rfl
    rotate_left
    simp only [Act.put, List.setIfInBounds_toArray, List.set_cons_zero, List.set_cons_succ]
    refine takeD (i := 5) (d := 74) (v := ?_) rfl rfl (by kernel_rfl) (by kernel_rfl) (by kernel_rfl) (fun _ _ _ h => h) rfl ?_ (by assumption) ?_
    rotate_left
    · intro w' hSw
      have q0 := cell_later hSw HT.out.pz.c0
      have q1 := cell_later hSw HT.out.pz.c1
      go_simp
      with_reducible rfl
    rotate_left
    simp only [Act.put, List.setIfInBounds_toArray, List.set_cons_zero, List.set_cons_succ]
    refine wpAnyH_all (rs := [2, 6]) (by kernel_rfl) (by simp) ?_
    intro i hi
    simp only [List.mem_cons, List.not_mem_nil, or_false] at hi
    rcases hi with rfl | rfl
    · refine wpOp_call (d := 71) (f := 36) (args := #[.slice (some ⟨lb, lo, none⟩) k2 c, .int .i64 26]) rfl rfl rfl (by go_simp) ((CWJ.out _ (HIc.out.below hHeld)).mono ?_)
      rintro e w' ⟨rfl, m, rfl⟩
      refine ⟨_, rfl, below_drewN hHeld m, ?_⟩
      simp only [Act.put, List.setIfInBounds_toArray, List.set_cons_zero, List.set_cons_succ]
      refine wpAnyH_all (rs := [6]) (by kernel_rfl) (by simp) ?_
      intro i hi
      obtain rfl : i = 6 := by simpa using hi
      refine wpOp_value (d := 75) (v := .slice (some ⟨(wc.drew.drewN m).heap.size, 0, none⟩) 3 3) (w1 := (wc.drew.drewN m).alloc (.cells #[.int .u16 d1, .int .u16 A1, .int .u16 d2, .int .u16 A2, .int .u16 dp, .int .u16 P] 66)) rfl rfl rfl (by go_simp) ⟨bl_al (below_drewN hHeld m) _, ?_⟩
      simp only [Act.put, List.setIfInBounds_toArray, List.set_cons_zero, List.set_cons_succ]
      refine wpAnyH_all (rs := [7]) (by kernel_rfl) (by simp) ?_
      intro i hi
      obtain rfl : i = 7 := by simpa using hi
      refine wpOp_call (d := 76) (f := 37) (args := #[.int .u16 u0, .slice (some ⟨(wc.drew.drewN m).heap.size, 0, none⟩) 3 3]) rfl rfl rfl (by go_simp) ((CU3.out _ _ ((Prs.three (wc.drew.drewN m) d1 A1 d2 A2 dp P 66 _ rfl))).mono ?_)
      rintro e w' ⟨rfl, hb⟩
      have hH9 := bl_tr (bl_al (below_drewN hHeld m) _) hb
      refine ⟨_, rfl, hH9, ?_⟩
      simp only [Act.put, List.setIfInBounds_toArray, List.set_cons_zero, List.set_cons_succ]
      refine wpAnyH_all (rs := [8]) (by kernel_rfl) (by simp) ?_
      intro i hi
      obtain rfl : i = 8 := by simpa using hi
      refine wpOp_value (d := 11) (v := .int .u16 U) (w1 := w') rfl rfl rfl (by rw [HU.out]; go_simp) ⟨hH9, ?_⟩
      simp only [Act.put, List.setIfInBounds_toArray, List.set_cons_zero, List.set_cons_succ]
      refine wpAnyH_done (by kernel_rfl) ?_ _
      go_wp2_with fail
      go_meet
      exact ⟨rfl, Lib.hid hH9⟩
    · refine wpOp_value (d := 75) (v := .slice (some ⟨wc.drew.heap.size, 0, none⟩) 3 3) (w1 := wc.drew.alloc (.cells #[.int .u16 d1, .int .u16 A1, .int .u16 d2, .int .u16 A2, .int .u16 dp, .int .u16 P] 66)) rfl rfl rfl (by go_simp) ⟨bl_al hHeld _, ?_⟩
      simp only [Act.put, List.setIfInBounds_toArray, List.set_cons_zero, List.set_cons_succ]
      refine wpAnyH_all (rs := [2]) (by kernel_rfl) (by simp) ?_
      intro i hi
      obtain rfl : i = 2 := by simpa using hi
      refine wpOp_call (d := 71) (f := 36) (args := #[.slice (some ⟨lb, lo, none⟩) k2 c, .int .i64 26]) rfl rfl rfl (by go_simp) ((CWJ.out _ (HIc.out.below (bl_al hHeld _))).mono ?_)
      rintro e w' ⟨rfl, m, rfl⟩
      refine ⟨_, rfl, below_drewN (bl_al hHeld _) m, ?_⟩
      simp only [Act.put, List.setIfInBounds_toArray, List.set_cons_zero, List.set_cons_succ]
      refine wpAnyH_all (rs := [7]) (by kernel_rfl) (by simp) ?_
      intro i hi
      obtain rfl : i = 7 := by simpa using hi
      refine wpOp_call (d := 76) (f := 37) (args := #[.int .u16 u0, .slice (some ⟨wc.drew.heap.size, 0, none⟩) 3 3]) rfl rfl rfl (by go_simp) ((CU3.out _ _ (Prs.drewN (Prs.three wc.drew d1 A1 d2 A2 dp P 66 _ rfl) m)).mono ?_)
      rintro e w' ⟨rfl, hb⟩
      have hH9 := bl_tr (below_drewN (bl_al hHeld _) m) hb
      refine ⟨_, rfl, hH9, ?_⟩
      simp only [Act.put, List.setIfInBounds_toArray, List.set_cons_zero, List.set_cons_succ]
      refine wpAnyH_all (rs := [8]) (by kernel_rfl) (by simp) ?_
      intro i hi
      obtain rfl : i = 8 := by simpa using hi
      refine wpOp_value (d := 11) (v := .int .u16 U) (w1 := w') rfl rfl rfl (by rw [HU.out]; go_simp) ⟨hH9, ?_⟩
      simp only [Act.put, List.setIfInBounds_toArray, List.set_cons_zero, List.set_cons_succ]
      refine wpAnyH_done (by kernel_rfl) ?_ _
      go_wp2_with fail
      go_meet
      exact ⟨rfl, Lib.hid hH9⟩
  case rest =>
  obtain ⟨rfl, HB2⟩ := hcut
  have d9 := cell_later HB2.out c9
  have qC : (C1 == C1) = true := by simp
  clear c9 HT HIc
  by_cases hU0 : U = 0
  · have hv : V = 65535 := by rw [HV.out]; simp [hU0]
    have q0 : (U == 0) = true := by simp [hU0]
    have qV : (V == 65535) = true := by simp [hv]
    clear hv hU0
    go_wp2_with fail
    refine (CR5.out _ _ _ (HRc.out.below HB2.out)).mono ?_
    rintro e w' ⟨rfl, m, rfl⟩
    go_wp2_with fail
    refine (CRJ.out _ _ _ (HRc.out.below (below_drewN HB2.out m))).mono ?_
    rintro e w' ⟨rfl, m', rfl⟩
    go_wp2
    go_ret
    exact ⟨rfl, bl_tr HXc.out (below_drewN HB2.out _)⟩
  · have hv : V = U := by rw [HV.out]; simp [hU0]
    have q0 : (U == 0) = false := by simp [hU0]
    have qV : (V == U) = true := by simp [hv]
    clear hv hU0
    go_wp2_with fail
    refine (CR5.out _ _ _ (HRc.out.below HB2.out)).mono ?_
    rintro e w' ⟨rfl, m, rfl⟩
    go_wp2_with fail
    refine (CRJ.out _ _ _ (HRc.out.below (below_drewN HB2.out m))).mono ?_
    rintro e w' ⟨rfl, m', rfl⟩
    go_wp2
    go_ret
    exact ⟨rfl, bl_tr HXc.out (below_drewN HB2.out _)⟩

set_option maxRecDepth 100000 in
set_option maxHeartbeats 2000000 in
theorem sums_6 (a : Option Addr) (n c : Nat) (l : List Int) (A P : Int) (g : Pk) (w : World) (hI : In w a n c l) (hA : 0 ≤ A ∧ A < 4294967296) (hn : n ≤ 4611686018427387904) (hi : Is l) (hP : portOk P) (hpr : (dec l).proto = 6) :
    Calls Try.prog 10 #[xval a n c A P g] w fun e w' => e = .returned (.bool true) ∧ Below w.heap.size w w' := by
  obtain ⟨W, hW, hX⟩ := XBox.start w a n c A P g
  have HW := Lib.hid hW
  have HX := Lib.hid hX
  have HI := Lib.hid hI
  have hln := hI.len
  have hsz := hi.size
  have t := dec_typed hI.fit
  have el := hi.2
  obtain ⟨p, hp⟩ : ∃ p, p = dec l := ⟨_, rfl⟩
  have ok : Ok p := by rw [hp]; exact hi.1
  have hS : Out l (portOk P) (reD (dec l) A P) (bts (reD (dec l) A P)) .nilIface 0 := .inl ⟨hi, hP, rfl, rfl, rfl⟩
  have C := Lib.hid (fun X (h : In X a n c l) => dest_t hS hA a n c X h hn)
  rw [← hp] at C t el hpr
  have okD : Ok (reD p A P) := reD_ok ok hP
  have tyD : Typed (reD p A P) := reD_typed t hA
  have HFR := Lib.hid (fit_bts tyD.data)
  have HLR : Hid ((bts (reD p A P)).length = n) := Lib.hid (by
    have e : (bts (reD p A P)).length = (bts p).length := by rw [bts_len, bts_len]; rfl
    rw [e, el, hln])
  obtain ⟨wd5, wd8, wd9, wd11, wdJ⟩ := words_of ok t
  obtain ⟨rd5, _, _, _, rdJ⟩ := words_of okD tyD
  obtain ⟨hsC, U, hU, hU16, hsU⟩ := sums_reD ok t hA hP
  have h9 : l.getD 9 0 = 6 := by
    have e : (bts p).getD 9 0 = p.proto % 256 := rfl
    rw [el, hpr] at e
    exact e
  have hmid : 12 + mid p.proto = 18 := by rw [hpr]; rfl
  have hmid2 : 12 + mid (reD p A P).proto = 18 := hmid
  rw [hmid] at wdJ
  rw [hmid2] at rdJ
  rw [el] at wd5 wd8 wd9 wd11 wdJ
  rw [← hsC] at rd5
  rw [← hsU, hpr] at rdJ
  obtain ⟨V, hV⟩ : ∃ V, V = if (6 : Int) = 17 ∧ U = 0 then 65535 else U := ⟨_, rfl⟩
  rw [← hV] at rdJ
  have b5 := ipSum_w16 p
  have bJ := segSum_w16 t.data
  have b8 : w16 (p.dst / 65536) := w16_hi t.dst
  have b9 : w16 (p.dst % 65536) := w16_lo _
  have b11 : w16 p.dp := by have := ok.dp; unfold w16; omega
  have bA1 : w16 (A / 65536) := w16_hi hA
  have bA2 : w16 (A % 65536) := w16_lo _
  have bP : w16 P := by have := hP; unfold portOk at this; unfold w16; omega
  obtain ⟨R, hR⟩ : ∃ R, R = bts (reD p A P) := ⟨_, rfl⟩
  rw [← hR] at C HFR HLR rd5 rdJ
  obtain ⟨c0, hc0⟩ : ∃ x, x = ipSum p := ⟨_, rfl⟩
  obtain ⟨u0, hu0⟩ : ∃ x, x = segSum p := ⟨_, rfl⟩
  obtain ⟨d1, hd1⟩ : ∃ x, x = p.dst / 65536 := ⟨_, rfl⟩
  obtain ⟨d2, hd2⟩ : ∃ x, x = p.dst % 65536 := ⟨_, rfl⟩
  obtain ⟨dp, hdp⟩ : ∃ x, x = p.dp := ⟨_, rfl⟩
  obtain ⟨A1, hA1⟩ : ∃ x, x = A / 65536 := ⟨_, rfl⟩
  obtain ⟨A2, hA2⟩ : ∃ x, x = A % 65536 := ⟨_, rfl⟩
  have k0 : A / 65536 = A1 := hA1.symm
  have k1 : IntKind.u16.wrap A1 = A1 := by rw [IntKind.wrap_u16, hA1]; omega
  have k2 : IntKind.u16.wrap A = A2 := by rw [IntKind.wrap_u16, hA2]
  have k3 : IntKind.u16.wrap P = P := by rw [IntKind.wrap_u16]; unfold w16 at bP; omega
  rw [← hc0] at wd5 b5 rd5
  rw [← hu0] at wdJ bJ hU
  rw [← hd1] at wd8 b8 rd5 hU
  rw [← hd2] at wd9 b9 rd5 hU
  rw [← hdp] at wd11 b11 hU
  rw [← hA1] at bA1 rd5 hU
  rw [← hA2] at bA2 rd5 hU
  obtain ⟨C1, hC1⟩ : ∃ x, x = up (up c0 (d1, A1)) (d2, A2) := ⟨_, rfl⟩
  rw [← hC1] at rd5
  have HC1 := Lib.hid hC1
  have HV := Lib.hid hV
  have hn0 : 28 ≤ n ∧ n ≤ 1048576 := by omega
  have hnJ : 2 * 18 + 1 < n := by
    have h1 := bts_len p
    have h2 := el
    have h3 : (bts p).length = n := by rw [h2, hln]
    have h4 : 20 ≤ segLen p := by unfold segLen; rw [hpr]; simp
    omega
  have CW5 := Lib.hid (fun X (h : In X a n c l) => lword_any a n c 5 l 10 (by omega) X h (by omega) hn0.2)
  have CW8 := Lib.hid (fun X (h : In X a n c l) => lword_any a n c 8 l 16 (by omega) X h (by omega) hn0.2)
  have CW9 := Lib.hid (fun X (h : In X a n c l) => lword_any a n c 9 l 18 (by omega) X h (by omega) hn0.2)
  have CW11 := Lib.hid (fun X (h : In X a n c l) => lword_any a n c 11 l 22 (by omega) X h (by omega) hn0.2)
  have CWJ := Lib.hid (fun X (h : In X a n c l) => lword_any a n c 18 l 36 (by omega) X h hnJ hn0.2)
  have CR5 := Lib.hid (fun X x e (h : In X x n e R) => lword_any x n e 5 R 10 (by omega) X h (by omega) hn0.2)
  have CRJ := Lib.hid (fun X x e (h : In X x n e R) => lword_any x n e 18 R 36 (by omega) X h hnJ hn0.2)
  rw [wd5] at CW5
  rw [wd8] at CW8
  rw [wd9] at CW9
  rw [wd11] at CW11
  rw [wdJ] at CWJ
  rw [rd5] at CR5
  rw [rdJ] at CRJ
  have H9 := Lib.hid h9
  have HU := Lib.hid hU
  have HB := Lib.hid (show w16 c0 ∧ w16 u0 ∧ w16 d1 ∧ w16 d2 ∧ w16 dp ∧ w16 A1 ∧ w16 A2 ∧ w16 P ∧ w16 U from ⟨b5, bJ, b8, b9, b11, bA1, bA2, bP, hU16⟩)
  have hB := HB.out
  have CU2 := Lib.hid (fun X v (h : Prs X v [(d1, A1), (d2, A2)]) => update_any c0 [(d1, A1), (d2, A2)] v X hB.1 h (fit_two hB.2.2.1 hB.2.2.2.2.2.1 hB.2.2.2.1 hB.2.2.2.2.2.2.1) (by simp))
  have CU3 := Lib.hid (fun X v (h : Prs X v [(d1, A1), (d2, A2), (dp, P)]) => update_any u0 [(d1, A1), (d2, A2), (dp, P)] v X hB.2.1 h (fit_three hB.2.2.1 hB.2.2.2.2.2.1 hB.2.2.2.1 hB.2.2.2.2.2.2.1 hB.2.2.2.2.1 hB.2.2.2.2.2.2.2.1) (by simp))
  clear hB
  have hnl : (n == n) = true := by simp
  obtain ⟨n0, n1⟩ := hn0
  clear hI hA hn hi hP hpr hW hX hln hsz el hp ok hS okD tyD t wd5 wd8 wd9 wd11 wdJ rd5 rdJ hsC hC1 hV hU hU16 hsU h9 hmid hmid2 b5 bJ b8 b9 b11 bA1 bA2 bP hR hc0 hu0 hd1 hd2 hdp hA1 hA2 hnJ
  go_enter Try.func10, Try.ntmps10
  go_wp2_with fail
  rw [HW.out]
  refine (alive4_any W).mono ?_
  rintro e w1 ⟨rfl, hb⟩
  have HX1 := Lib.hid (HX.out.next hb)
  have HI1 := Lib.hid (HI.out.below HX1.out.below)
  obtain ⟨x0, x1, x2, x3, x4, x5, x6, x7⟩ := HX1.out.here
  clear hb HX HW
  go_wp2_with fail
  refine (C.out w1 HI1.out).mono ?_
  rintro e w2 ⟨a2, k2, c2, rfl, hk, hown, hb⟩
  obtain rfl : k2 = n := by rw [hk, HLR.out]
  have HX2 := Lib.hid (HX1.out.next hb)
  have HI2 := Lib.hid (HI.out.below HX2.out.below)
  have HR2 := Lib.hid (own_row hown hk.symm HFR.out)
  clear hb hk hown x0 x1 x2 x3 x4 x5 x6 x7 HX1 HI1 C
  obtain ⟨x0, x1, x2, x3, x4, x5, x6, x7⟩ := HX2.out.here
  go_upto_region 9 with fail
  go_cut [6, 7, 8] from 40 to 58 (fun v6 v7 v8 wx => ∃ x y z : Nat, v6 = .pointer (some ⟨x, 0, none⟩) ∧ v7 = .pointer (some ⟨y, 0, none⟩) ∧ v8 = .pointer (some ⟨z, 0, none⟩) ∧ Hid (Trio w2 d1 A1 d2 A2 dp P x y z wx))
  case first =>
    refine wp_region_held_drew (S := fun w' => Below w2.heap.size w2 w') (by kernel_rfl) (below_drewN (Below.refl _ _) 1) (fun hHeld => ?_)
    refine takeD (i := 0) (d := 40) (v := ?_) rfl rfl (by kernel_rfl) (by kernel_rfl) (by kernel_rfl) (fun _ _ _ h => h) rfl ?_ (by assumption) ?_
    rotate_left
    · intro w' hSw
      go_simp
      with_reducible rfl
    rotate_left
    simp only [Act.put, List.setIfInBounds_toArray, List.set_cons_zero, List.set_cons_succ]
    refine takeD (i := 2) (d := 42) (v := ?_) rfl rfl (by kernel_rfl) (by kernel_rfl) (by kernel_rfl) (fun _ _ _ h => h) rfl ?_ (by assumption) ?_
    rotate_left
    · intro w' hSw
      go_simp
      with_reducible rfl
    rotate_left
    simp only [Act.put, List.setIfInBounds_toArray, List.set_cons_zero, List.set_cons_succ]
    refine takeD (i := 3) (d := 43) (v := ?_) rfl rfl (by kernel_rfl) (by kernel_rfl) (by kernel_rfl) (fun _ _ _ h => h) rfl ?_ (by assumption) ?_
    rotate_left
    · intro w' hSw
      have q1 := (HX2.out.here.below hSw HX2.out.here.lt).c1
      go_simp
      with_reducible rfl
    rotate_left
    simp only [Act.put, List.setIfInBounds_toArray, List.set_cons_zero, List.set_cons_succ]
    refine takeD (i := 4) (d := 44) (v := ?_) rfl rfl (by kernel_rfl) (by kernel_rfl) (by kernel_rfl) (fun _ _ _ h => h) rfl ?_ (by assumption) ?_
    rotate_left
    · intro w' hSw
      go_simp
      with_reducible rfl
    rotate_left
    simp only [Act.put, List.setIfInBounds_toArray, List.set_cons_zero, List.set_cons_succ]
    refine takeD (i := 5) (d := 45) (v := ?_) rfl rfl (by kernel_rfl) (by kernel_rfl) (by kernel_rfl) (fun _ _ _ h => h) rfl ?_ (by assumption) ?_
    rotate_left
    · intro w' hSw
      go_simp
      with_reducible rfl
    rotate_left
    simp only [Act.put, List.setIfInBounds_toArray, List.set_cons_zero, List.set_cons_succ]
    refine takeD (i := 7) (d := 47) (v := ?_) rfl rfl (by kernel_rfl) (by kernel_rfl) (by kernel_rfl) (fun _ _ _ h => h) rfl ?_ (by assumption) ?_
    rotate_left
    · intro w' hSw
      go_simp
      with_reducible rfl
    rotate_left
    simp only [Act.put, List.setIfInBounds_toArray, List.set_cons_zero, List.set_cons_succ]
    refine takeD (i := 9) (d := 49) (v := ?_) rfl rfl (by kernel_rfl) (by kernel_rfl) (by kernel_rfl) (fun _ _ _ h => h) rfl ?_ (by assumption) ?_
    rotate_left
    · intro w' hSw
      go_simp
      with_reducible rfl
    rotate_left
    simp only [Act.put, List.setIfInBounds_toArray, List.set_cons_zero, List.set_cons_succ]
    refine takeD (i := 10) (d := 50) (v := ?_) rfl rfl (by kernel_rfl) (by kernel_rfl) (by kernel_rfl) (fun _ _ _ h => h) rfl ?_ (by assumption) ?_
    rotate_left
    · intro w' hSw
      have q1 := (HX2.out.here.below hSw HX2.out.here.lt).c1
      go_simp
      with_reducible rfl
    rotate_left
    simp only [Act.put, List.setIfInBounds_toArray, List.set_cons_zero, List.set_cons_succ]
    refine takeD (i := 11) (d := 51) (v := ?_) rfl rfl (by kernel_rfl) (by kernel_rfl) (by kernel_rfl) (fun _ _ _ h => h) rfl ?_ (by assumption) ?_
    rotate_left
    · intro w' hSw
      go_simp
      with_reducible rfl
    rotate_left
    simp only [Act.put, List.setIfInBounds_toArray, List.set_cons_zero, List.set_cons_succ]
    refine takeD (i := 13) (d := 53) (v := ?_) rfl rfl (by kernel_rfl) (by kernel_rfl) (by kernel_rfl) (fun _ _ _ h => h) rfl ?_ (by assumption) ?_
    rotate_left
    · intro w' hSw
      go_simp
      with_reducible rfl
    rotate_left
    simp only [Act.put, List.setIfInBounds_toArray, List.set_cons_zero, List.set_cons_succ]
    refine takeD (i := 15) (d := 55) (v := ?_) rfl rfl (by kernel_rfl) (by kernel_rfl) (by kernel_rfl) (fun _ _ _ h => h) rfl ?_ (by assumption) ?_
    rotate_left
    · intro w' hSw
      go_simp
      with_reducible rfl
    rotate_left
    simp only [Act.put, List.setIfInBounds_toArray, List.set_cons_zero, List.set_cons_succ]
    refine takeD (i := 16) (d := 56) (v := ?_) rfl rfl (by kernel_rfl) (by kernel_rfl) (by kernel_rfl) (fun _ _ _ h => h) rfl ?_ (by assumption) ?_
    rotate_left
    · intro w' hSw
      have q2 := (HX2.out.here.below hSw HX2.out.here.lt).c2
      go_simp
      with_reducible rfl
    rotate_left
    simp only [Act.put, List.setIfInBounds_toArray, List.set_cons_zero, List.set_cons_succ]
    refine takeD (i := 17) (d := 57) (v := ?_) rfl rfl (by kernel_rfl) (by kernel_rfl) (by kernel_rfl) (fun _ _ _ h => h) rfl ?_ (by assumption) ?_
    rotate_left
    · intro w' hSw
      go_simp
      with_reducible rfl
    rotate_left
    simp only [Act.put, List.setIfInBounds_toArray, List.set_cons_zero, List.set_cons_succ]
    refine callD (i := 1) (d := 41) (v := .int .u16 d1) [6, 8, 12, 14, 18, 22, 23, 24] [19, 20, 21] rfl rfl (by kernel_rfl) (by kernel_rfl) (by kernel_rfl) (by kernel_rfl) (fun _ k h => below_drewN h k) ?_ rfl 36 #[.slice a k2 c, .int .i64 16] ?_ (fun X h => CW8.out X (HI2.out.below h)) (by assumption) (fun m1 => ?_)
    · intro j hj oj ho
      simp only [List.mem_cons, List.not_mem_nil, or_false] at hj
      rcases hj with rfl | rfl | rfl
      all_goals
        cases ho
        exact ⟨by kernel_rfl, pair_deaf _ rfl rfl⟩
    · intro X
      go_simp
    simp only [Act.put, List.setIfInBounds_toArray, List.set_cons_zero, List.set_cons_succ]
    have hH1 : Below w2.heap.size w2 (w2.drew.drewN m1) := below_drewN hHeld m1
    clear hHeld
    refine takeD (i := 6) (d := 46) (v := ?_) rfl rfl (by kernel_rfl) (by kernel_rfl) (by kernel_rfl) (fun _ _ _ h => h) rfl ?_ (by assumption) ?_
    rotate_left
    · intro w' hSw
      go_simp
      with_reducible rfl
    rotate_left
    simp only [Act.put, List.setIfInBounds_toArray, List.set_cons_zero, List.set_cons_succ]
    refine callD (i := 8) (d := 48) (v := .int .u16 d2) [12, 14, 18, 22, 23, 24] [19, 20, 21] rfl rfl (by kernel_rfl) (by kernel_rfl) (by kernel_rfl) (by kernel_rfl) (fun _ k h => below_drewN h k) ?_ rfl 36 #[.slice a k2 c, .int .i64 18] ?_ (fun X h => CW9.out X (HI2.out.below h)) (by assumption) (fun m2 => ?_)
    · intro j hj oj ho
      simp only [List.mem_cons, List.not_mem_nil, or_false] at hj
      rcases hj with rfl | rfl | rfl
      all_goals
        cases ho
        exact ⟨by kernel_rfl, pair_deaf _ rfl rfl⟩
    · intro X
      go_simp
    simp only [Act.put, List.setIfInBounds_toArray, List.set_cons_zero, List.set_cons_succ]
    have hH2 : Below w2.heap.size w2 ((w2.drew.drewN m1).drewN m2) := below_drewN hH1 m2
    clear hH1
    refine takeD (i := 12) (d := 52) (v := ?_) rfl rfl (by kernel_rfl) (by kernel_rfl) (by kernel_rfl) (fun _ _ _ h => h) rfl ?_ (by assumption) ?_
    rotate_left
    · intro w' hSw
      go_simp
      with_reducible rfl
    rotate_left
    simp only [Act.put, List.setIfInBounds_toArray, List.set_cons_zero, List.set_cons_succ]
    refine callD (i := 14) (d := 54) (v := .int .u16 dp) [18, 22, 23, 24] [19, 20, 21] rfl rfl (by kernel_rfl) (by kernel_rfl) (by kernel_rfl) (by kernel_rfl) (fun _ k h => below_drewN h k) ?_ rfl 36 #[.slice a k2 c, .int .i64 22] ?_ (fun X h => CW11.out X (HI2.out.below h)) (by assumption) (fun m3 => ?_)
    · intro j hj oj ho
      simp only [List.mem_cons, List.not_mem_nil, or_false] at hj
      rcases hj with rfl | rfl | rfl
      all_goals
        cases ho
        exact ⟨by kernel_rfl, pair_deaf _ rfl rfl⟩
    · intro X
      go_simp
    simp only [Act.put, List.setIfInBounds_toArray, List.set_cons_zero, List.set_cons_succ]
    have hH3 : Below w2.heap.size w2 (((w2.drew.drewN m1).drewN m2).drewN m3) := below_drewN hH2 m3
    clear hH2
    obtain ⟨Y, hY⟩ : ∃ Y, Y = ((w2.drew.drewN m1).drewN m2).drewN m3 := ⟨_, rfl⟩
    rw [← hY] at hH3
    rw [← hY]
    clear hY
    refine takeD (i := 18) (d := 58) (v := ?_) rfl rfl (by kernel_rfl) (by kernel_rfl) (by kernel_rfl) (fun _ _ _ h => h) rfl ?_ (by assumption) ?_
    rotate_left
    · intro w' hSw
      go_simp
      with_reducible rfl
    rotate_left
    simp only [Act.put, List.setIfInBounds_toArray, List.set_cons_zero, List.set_cons_succ]
    obtain ⟨Y1, hY1⟩ : ∃ Y1, Y1 = Y.alloc (.cells #[.int .u16 0, .int .u16 0] 66) := ⟨_, rfl⟩
    obtain ⟨Y2, hY2⟩ : ∃ Y2, Y2 = Y1.alloc (.cells #[.int .u16 0, .int .u16 0] 66) := ⟨_, rfl⟩
    obtain ⟨Z, hZ⟩ : ∃ Z, Z = Y2.alloc (.cells #[.int .u16 0, .int .u16 0] 66) := ⟨_, rfl⟩
    have hR := Room3.new hH3 Y1 Y2 Z hY1 hY2 hZ
    have hb1 : Below w2.heap.size w2 Y1 := by rw [hY1]; exact bl_al hH3 _
    have hb2 : Below w2.heap.size w2 Y2 := by rw [hY2]; exact bl_al hb1 _
    have r0 : ∀ (o : Oper) (a : Act), o.op = .alloc 66 → (execOp a.eval o).run Try.prog Y = .ok (.value (.pointer (some ⟨Y.heap.size, 0, none⟩))) Y1 := fun o a h => by rw [hY1]; exact pair_run o h a Y
    have r1 : ∀ (o : Oper) (a : Act), o.op = .alloc 66 → (execOp a.eval o).run Try.prog Y1 = .ok (.value (.pointer (some ⟨Y1.heap.size, 0, none⟩))) Y2 := fun o a h => by rw [hY2]; exact pair_run o h a Y1
    have r2 : ∀ (o : Oper) (a : Act), o.op = .alloc 66 → (execOp a.eval o).run Try.prog Y2 = .ok (.value (.pointer (some ⟨Y2.heap.size, 0, none⟩))) Z := fun o a h => by rw [hZ]; exact pair_run o h a Y2
    generalize Y.heap.size = n0 at *
    generalize Y1.heap.size = n1 at *
    generalize Y2.heap.size = n2 at *
    clear hY1 hY2 hZ
    refine wpAnyH_all (rs := [19, 20, 21]) (by kernel_rfl) (by simp) ?_
    intro i hi
    simp only [List.mem_cons, List.not_mem_nil, or_false] at hi
    rcases hi with rfl | rfl | rfl
    · refine wpOp_value (d := 6) rfl rfl rfl (r0 _ _ rfl) ⟨hb1, ?_⟩
      simp only [Act.put, List.setIfInBounds_toArray, List.set_cons_zero, List.set_cons_succ]
      refine wpAnyH_all (rs := [20, 21]) (by kernel_rfl) (by simp) ?_
      intro i hi
      simp only [List.mem_cons, List.not_mem_nil, or_false] at hi
      rcases hi with rfl | rfl
      · refine wpOp_value (d := 7) rfl rfl rfl (r1 _ _ rfl) ⟨hb2, ?_⟩
        simp only [Act.put, List.setIfInBounds_toArray, List.set_cons_zero, List.set_cons_succ]
        refine wpAnyH_all (rs := [21]) (by kernel_rfl) (by simp) ?_
        intro i hi
        obtain rfl : i = 21 := by simpa using hi
        refine wpOp_value (d := 8) rfl rfl rfl (r2 _ _ rfl) ⟨hR.below, ?_⟩
        simp only [Act.put, List.setIfInBounds_toArray, List.set_cons_zero, List.set_cons_succ]
        have hQ : Room3 w2 Z n0 n1 n2 := hR
        refine wpAnyH_all (rs := [22]) (by kernel_rfl) (by simp) ?_
        intro i hi
        obtain rfl : i = 22 := by simpa using hi
        refine wpOp_skip rfl rfl rfl (pair_store _ (.tmp 6) (.tmp 46) rfl _ _ rfl rfl hQ.px) ⟨put2_below hQ.below hQ.gx _ _, ?_⟩
        refine wpAnyH_all (rs := [23]) (by kernel_rfl) (by simp) ?_
        intro i hi
        obtain rfl : i = 23 := by simpa using hi
        refine wpOp_skip rfl rfl rfl (pair_store _ (.tmp 7) (.tmp 52) rfl _ _ rfl rfl (hQ.py.far _ _ hQ.xy)) ⟨put2_below (put2_below hQ.below hQ.gx _ _) hQ.gy _ _, ?_⟩
        refine wpAnyH_all (rs := [24]) (by kernel_rfl) (by simp) ?_
        intro i hi
        obtain rfl : i = 24 := by simpa using hi
        refine wpOp_skip rfl rfl rfl (pair_store _ (.tmp 8) (.tmp 58) rfl _ _ rfl rfl ((hQ.pz.far _ _ hQ.xz).far _ _ hQ.yz)) ⟨put2_below (put2_below (put2_below hQ.below hQ.gx _ _) hQ.gy _ _) hQ.gz _ _, ?_⟩
        refine wpAnyH_done (by kernel_rfl) ?_ _
        have hT := Trio.of hQ d1 A1 d2 A2 dp P
        generalize put2 (put2 (put2 Z n0 d1 A1) n1 d2 A2) n2 dp P = V at *
        go_wp2_with fail
        go_meet
        exact ⟨_, _, _, rfl, rfl, rfl, Lib.hid hT⟩
      · refine wpOp_value (d := 8) rfl rfl rfl (r1 _ _ rfl) ⟨hb2, ?_⟩
        simp only [Act.put, List.setIfInBounds_toArray, List.set_cons_zero, List.set_cons_succ]
        refine wpAnyH_all (rs := [20]) (by kernel_rfl) (by simp) ?_
        intro i hi
        obtain rfl : i = 20 := by simpa using hi
        refine wpOp_value (d := 7) rfl rfl rfl (r2 _ _ rfl) ⟨hR.below, ?_⟩
        simp only [Act.put, List.setIfInBounds_toArray, List.set_cons_zero, List.set_cons_succ]
        have hQ : Room3 w2 Z n0 n2 n1 := hR.swap23
        refine wpAnyH_all (rs := [22]) (by kernel_rfl) (by simp) ?_
        intro i hi
        obtain rfl : i = 22 := by simpa using hi
        refine wpOp_skip rfl rfl rfl (pair_store _ (.tmp 6) (.tmp 46) rfl _ _ rfl rfl hQ.px) ⟨put2_below hQ.below hQ.gx _ _, ?_⟩
        refine wpAnyH_all (rs := [23]) (by kernel_rfl) (by simp) ?_
        intro i hi
        obtain rfl : i = 23 := by simpa using hi
        refine wpOp_skip rfl rfl rfl (pair_store _ (.tmp 7) (.tmp 52) rfl _ _ rfl rfl (hQ.py.far _ _ hQ.xy)) ⟨put2_below (put2_below hQ.below hQ.gx _ _) hQ.gy _ _, ?_⟩
        refine wpAnyH_all (rs := [24]) (by kernel_rfl) (by simp) ?_
        intro i hi
        obtain rfl : i = 24 := by simpa using hi
        refine wpOp_skip rfl rfl rfl (pair_store _ (.tmp 8) (.tmp 58) rfl _ _ rfl rfl ((hQ.pz.far _ _ hQ.xz).far _ _ hQ.yz)) ⟨put2_below (put2_below (put2_below hQ.below hQ.gx _ _) hQ.gy _ _) hQ.gz _ _, ?_⟩
        refine wpAnyH_done (by kernel_rfl) ?_ _
        have hT := Trio.of hQ d1 A1 d2 A2 dp P
        generalize put2 (put2 (put2 Z n0 d1 A1) n2 d2 A2) n1 dp P = V at *
        go_wp2_with fail
        go_meet
        exact ⟨_, _, _, rfl, rfl, rfl, Lib.hid hT⟩
    · refine wpOp_value (d := 7) rfl rfl rfl (r0 _ _ rfl) ⟨hb1, ?_⟩
      simp only [Act.put, List.setIfInBounds_toArray, List.set_cons_zero, List.set_cons_succ]
      refine wpAnyH_all (rs := [19, 21]) (by kernel_rfl) (by simp) ?_
      intro i hi
      simp only [List.mem_cons, List.not_mem_nil, or_false] at hi
      rcases hi with rfl | rfl
      · refine wpOp_value (d := 6) rfl rfl rfl (r1 _ _ rfl) ⟨hb2, ?_⟩
        simp only [Act.put, List.setIfInBounds_toArray, List.set_cons_zero, List.set_cons_succ]
        refine wpAnyH_all (rs := [21]) (by kernel_rfl) (by simp) ?_
        intro i hi
        obtain rfl : i = 21 := by simpa using hi
        refine wpOp_value (d := 8) rfl rfl rfl (r2 _ _ rfl) ⟨hR.below, ?_⟩
        simp only [Act.put, List.setIfInBounds_toArray, List.set_cons_zero, List.set_cons_succ]
        have hQ : Room3 w2 Z n1 n0 n2 := hR.swap12
        refine wpAnyH_all (rs := [22]) (by kernel_rfl) (by simp) ?_
        intro i hi
        obtain rfl : i = 22 := by simpa using hi
        refine wpOp_skip rfl rfl rfl (pair_store _ (.tmp 6) (.tmp 46) rfl _ _ rfl rfl hQ.px) ⟨put2_below hQ.below hQ.gx _ _, ?_⟩
        refine wpAnyH_all (rs := [23]) (by kernel_rfl) (by simp) ?_
        intro i hi
        obtain rfl : i = 23 := by simpa using hi
        refine wpOp_skip rfl rfl rfl (pair_store _ (.tmp 7) (.tmp 52) rfl _ _ rfl rfl (hQ.py.far _ _ hQ.xy)) ⟨put2_below (put2_below hQ.below hQ.gx _ _) hQ.gy _ _, ?_⟩
        refine wpAnyH_all (rs := [24]) (by kernel_rfl) (by simp) ?_
        intro i hi
        obtain rfl : i = 24 := by simpa using hi
        refine wpOp_skip rfl rfl rfl (pair_store _ (.tmp 8) (.tmp 58) rfl _ _ rfl rfl ((hQ.pz.far _ _ hQ.xz).far _ _ hQ.yz)) ⟨put2_below (put2_below (put2_below hQ.below hQ.gx _ _) hQ.gy _ _) hQ.gz _ _, ?_⟩
        refine wpAnyH_done (by kernel_rfl) ?_ _
        have hT := Trio.of hQ d1 A1 d2 A2 dp P
        generalize put2 (put2 (put2 Z n1 d1 A1) n0 d2 A2) n2 dp P = V at *
        go_wp2_with fail
        go_meet
        exact ⟨_, _, _, rfl, rfl, rfl, Lib.hid hT⟩
      · refine wpOp_value (d := 8) rfl rfl rfl (r1 _ _ rfl) ⟨hb2, ?_⟩
        simp only [Act.put, List.setIfInBounds_toArray, List.set_cons_zero, List.set_cons_succ]
        refine wpAnyH_all (rs := [19]) (by kernel_rfl) (by simp) ?_
        intro i hi
        obtain rfl : i = 19 := by simpa using hi
        refine wpOp_value (d := 6) rfl rfl rfl (r2 _ _ rfl) ⟨hR.below, ?_⟩
        simp only [Act.put, List.setIfInBounds_toArray, List.set_cons_zero, List.set_cons_succ]
        have hQ : Room3 w2 Z n2 n0 n1 := hR.swap23.swap12
        refine wpAnyH_all (rs := [22]) (by kernel_rfl) (by simp) ?_
        intro i hi
        obtain rfl : i = 22 := by simpa using hi
        refine wpOp_skip rfl rfl rfl (pair_store _ (.tmp 6) (.tmp 46) rfl _ _ rfl rfl hQ.px) ⟨put2_below hQ.below hQ.gx _ _, ?_⟩
        refine wpAnyH_all (rs := [23]) (by kernel_rfl) (by simp) ?_
        intro i hi
        obtain rfl : i = 23 := by simpa using hi
        refine wpOp_skip rfl rfl rfl (pair_store _ (.tmp 7) (.tmp 52) rfl _ _ rfl rfl (hQ.py.far _ _ hQ.xy)) ⟨put2_below (put2_below hQ.below hQ.gx _ _) hQ.gy _ _, ?_⟩
        refine wpAnyH_all (rs := [24]) (by kernel_rfl) (by simp) ?_
        intro i hi
        obtain rfl : i = 24 := by simpa using hi
        refine wpOp_skip rfl rfl rfl (pair_store _ (.tmp 8) (.tmp 58) rfl _ _ rfl rfl ((hQ.pz.far _ _ hQ.xz).far _ _ hQ.yz)) ⟨put2_below (put2_below (put2_below hQ.below hQ.gx _ _) hQ.gy _ _) hQ.gz _ _, ?_⟩
        refine wpAnyH_done (by kernel_rfl) ?_ _
        have hT := Trio.of hQ d1 A1 d2 A2 dp P
        generalize put2 (put2 (put2 Z n2 d1 A1) n0 d2 A2) n1 dp P = V at *
        go_wp2_with fail
        go_meet
        exact ⟨_, _, _, rfl, rfl, rfl, Lib.hid hT⟩
    · refine wpOp_value (d := 8) rfl rfl rfl (r0 _ _ rfl) ⟨hb1, ?_⟩
      simp only [Act.put, List.setIfInBounds_toArray, List.set_cons_zero, List.set_cons_succ]
      refine wpAnyH_all (rs := [19, 20]) (by kernel_rfl) (by simp) ?_
      intro i hi
      simp only [List.mem_cons, List.not_mem_nil, or_false] at hi
      rcases hi with rfl | rfl
      · refine wpOp_value (d := 6) rfl rfl rfl (r1 _ _ rfl) ⟨hb2, ?_⟩
        simp only [Act.put, List.setIfInBounds_toArray, List.set_cons_zero, List.set_cons_succ]
        refine wpAnyH_all (rs := [20]) (by kernel_rfl) (by simp) ?_
        intro i hi
        obtain rfl : i = 20 := by simpa using hi
        refine wpOp_value (d := 7) rfl rfl rfl (r2 _ _ rfl) ⟨hR.below, ?_⟩
        simp only [Act.put, List.setIfInBounds_toArray, List.set_cons_zero, List.set_cons_succ]
        have hQ : Room3 w2 Z n1 n2 n0 := hR.swap12.swap23
        refine wpAnyH_all (rs := [22]) (by kernel_rfl) (by simp) ?_
        intro i hi
        obtain rfl : i = 22 := by simpa using hi
        refine wpOp_skip rfl rfl rfl (pair_store _ (.tmp 6) (.tmp 46) rfl _ _ rfl rfl hQ.px) ⟨put2_below hQ.below hQ.gx _ _, ?_⟩
        refine wpAnyH_all (rs := [23]) (by kernel_rfl) (by simp) ?_
        intro i hi
        obtain rfl : i = 23 := by simpa using hi
        refine wpOp_skip rfl rfl rfl (pair_store _ (.tmp 7) (.tmp 52) rfl _ _ rfl rfl (hQ.py.far _ _ hQ.xy)) ⟨put2_below (put2_below hQ.below hQ.gx _ _) hQ.gy _ _, ?_⟩
        refine wpAnyH_all (rs := [24]) (by kernel_rfl) (by simp) ?_
        intro i hi
        obtain rfl : i = 24 := by simpa using hi
        refine wpOp_skip rfl rfl rfl (pair_store _ (.tmp 8) (.tmp 58) rfl _ _ rfl rfl ((hQ.pz.far _ _ hQ.xz).far _ _ hQ.yz)) ⟨put2_below (put2_below (put2_below hQ.below hQ.gx _ _) hQ.gy _ _) hQ.gz _ _, ?_⟩
        refine wpAnyH_done (by kernel_rfl) ?_ _
        have hT := Trio.of hQ d1 A1 d2 A2 dp P
        generalize put2 (put2 (put2 Z n1 d1 A1) n2 d2 A2) n0 dp P = V at *
        go_wp2_with fail
        go_meet
        exact ⟨_, _, _, rfl, rfl, rfl, Lib.hid hT⟩
      · refine wpOp_value (d := 7) rfl rfl rfl (r1 _ _ rfl) ⟨hb2, ?_⟩
        simp only [Act.put, List.setIfInBounds_toArray, List.set_cons_zero, List.set_cons_succ]
        refine wpAnyH_all (rs := [19]) (by kernel_rfl) (by simp) ?_
        intro i hi
        obtain rfl : i = 19 := by simpa using hi
        refine wpOp_value (d := 6) rfl rfl rfl (r2 _ _ rfl) ⟨hR.below, ?_⟩
        simp only [Act.put, List.setIfInBounds_toArray, List.set_cons_zero, List.set_cons_succ]
        have hQ : Room3 w2 Z n2 n1 n0 := hR.swap12.swap23.swap12
        refine wpAnyH_all (rs := [22]) (by kernel_rfl) (by simp) ?_
        intro i hi
        obtain rfl : i = 22 := by simpa using hi
        refine wpOp_skip rfl rfl rfl (pair_store _ (.tmp 6) (.tmp 46) rfl _ _ rfl rfl hQ.px) ⟨put2_below hQ.below hQ.gx _ _, ?_⟩
        refine wpAnyH_all (rs := [23]) (by kernel_rfl) (by simp) ?_
        intro i hi
        obtain rfl : i = 23 := by simpa using hi
        refine wpOp_skip rfl rfl rfl (pair_store _ (.tmp 7) (.tmp 52) rfl _ _ rfl rfl (hQ.py.far _ _ hQ.xy)) ⟨put2_below (put2_below hQ.below hQ.gx _ _) hQ.gy _ _, ?_⟩
        refine wpAnyH_all (rs := [24]) (by kernel_rfl) (by simp) ?_
        intro i hi
        obtain rfl : i = 24 := by simpa using hi
        refine wpOp_skip rfl rfl rfl (pair_store _ (.tmp 8) (.tmp 58) rfl _ _ rfl rfl ((hQ.pz.far _ _ hQ.xz).far _ _ hQ.yz)) ⟨put2_below (put2_below (put2_below hQ.below hQ.gx _ _) hQ.gy _ _) hQ.gz _ _, ?_⟩
        refine wpAnyH_done (by kernel_rfl) ?_ _
        have hT := Trio.of hQ d1 A1 d2 A2 dp P
        generalize put2 (put2 (put2 Z n2 d1 A1) n1 d2 A2) n0 dp P = V at *
        go_wp2_with fail
        go_meet
        exact ⟨_, _, _, rfl, rfl, rfl, Lib.hid hT⟩
  case rest =>
  obtain ⟨x, y, z, rfl, rfl, rfl, HT⟩ := hcut
  obtain ⟨wd, rfl⟩ : ∃ wd : World, wd = wc := ⟨_, rfl⟩
  have HIc := Lib.hid (HI2.out.below HT.out.below)
  have HRc := Lib.hid (HR2.out.below HT.out.below)
  have HXc := Lib.hid (bl_tr HX2.out.below HT.out.below)
  clear HX2 HI2 HR2 x0 x1 x2 x3 x4 x5 x6 x7
  obtain ⟨lb, lo, rfl⟩ := in_addr HIc.out (by omega)
  have c9 := in_cell HIc.out 9 (by omega)
  rw [H9.out] at c9
  go_upto_region 13 with fail
  go_cut [10] from 63 to 68 (fun v wx => v = .int .u16 C1 ∧ Hid (Below wd.heap.size wd wx))
  case first =>
    refine wp_region_held_drew (S := fun w' => Below wd.heap.size wd w') (by kernel_rfl) (below_drewN (Below.refl _ _) 1) (fun hHeld => ?_)
    refine takeD (i := 0) (d := 63) (v := ?_) rfl rfl (by kernel_rfl) (by kernel_rfl) (by kernel_rfl) (fun _ _ _ h => h) rfl ?_ (by assumption) ?_
    rotate_left
    · intro w' hSw
      go_simp
      with_reducible rfl
    rotate_left
    simp only [Act.put, List.setIfInBounds_toArray, List.set_cons_zero, List.set_cons_succ]
    refine takeD (i := 2) (d := 65) (v := ?_) rfl rfl (by kernel_rfl) (by kernel_rfl) (by kernel_rfl) (fun _ _ _ h => h) rfl ?_ (by assumption) ?_
    rotate_left
    · intro w' hSw
      have q0 := cell_later hSw HT.out.px.c0
      have q1 := cell_later hSw HT.out.px.c1
      go_simp
      with_reducible rfl
    rotate_left
    simp only [Act.put, List.setIfInBounds_toArray, List.set_cons_zero, List.set_cons_succ]
    refine takeD (i := 3) (d := 66) (v := ?_) rfl rfl (by kernel_rfl) (by kernel_rfl) (by kernel_rfl) (fun _ _ _ h => h) rfl ?_ (by assumption) ?_
    rotate_left
    · intro w' hSw
      have q0 := cell_later hSw HT.out.py.c0
      have q1 := cell_later hSw HT.out.py.c1
      go_simp
      with_reducible rfl
    rotate_left
    simp only [Act.put, List.setIfInBounds_toArray, List.set_cons_zero, List.set_cons_succ]
    refine wpAnyH_all (rs := [1, 4]) (by kernel_rfl) (by simp) ?_
    intro i hi
    simp only [List.mem_cons, List.not_mem_nil, or_false] at hi
    rcases hi with rfl | rfl
    · refine wpOp_call (d := 64) (f := 36) (args := #[.slice (some ⟨lb, lo, none⟩) k2 c, .int .i64 10]) rfl rfl rfl (by go_simp) ((CW5.out _ (HIc.out.below hHeld)).mono ?_)
      rintro e w' ⟨rfl, m, rfl⟩
      refine ⟨_, rfl, below_drewN hHeld m, ?_⟩
      simp only [Act.put, List.setIfInBounds_toArray, List.set_cons_zero, List.set_cons_succ]
      refine wpAnyH_all (rs := [4]) (by kernel_rfl) (by simp) ?_
      intro i hi
      obtain rfl : i = 4 := by simpa using hi
      refine wpOp_value (d := 67) (v := .slice (some ⟨(wd.drew.drewN m).heap.size, 0, none⟩) 2 2) (w1 := (wd.drew.drewN m).alloc (.cells #[.int .u16 d1, .int .u16 A1, .int .u16 d2, .int .u16 A2] 66)) rfl rfl rfl (by go_simp) ⟨bl_al (below_drewN hHeld m) _, ?_⟩
      simp only [Act.put, List.setIfInBounds_toArray, List.set_cons_zero, List.set_cons_succ]
      refine wpAnyH_all (rs := [5]) (by kernel_rfl) (by simp) ?_
      intro i hi
      obtain rfl : i = 5 := by simpa using hi
      refine wpOp_call (d := 68) (f := 37) (args := #[.int .u16 c0, .slice (some ⟨(wd.drew.drewN m).heap.size, 0, none⟩) 2 2]) rfl rfl rfl (by go_simp) ((CU2.out _ _ ((Prs.two (wd.drew.drewN m) d1 A1 d2 A2 66 _ rfl))).mono ?_)
      rintro e w' ⟨rfl, hb⟩
      have hH9 := bl_tr (bl_al (below_drewN hHeld m) _) hb
      refine ⟨_, rfl, hH9, ?_⟩
      simp only [Act.put, List.setIfInBounds_toArray, List.set_cons_zero, List.set_cons_succ]
      refine wpAnyH_all (rs := [6]) (by kernel_rfl) (by simp) ?_
      intro i hi
      obtain rfl : i = 6 := by simpa using hi
      refine wpOp_value (d := 10) (v := .int .u16 C1) (w1 := w') rfl rfl rfl (by rw [HC1.out]; go_simp) ⟨hH9, ?_⟩
      simp only [Act.put, List.setIfInBounds_toArray, List.set_cons_zero, List.set_cons_succ]
      refine wpAnyH_done (by kernel_rfl) ?_ _
      go_wp2_with fail
      go_meet
      exact ⟨rfl, Lib.hid hH9⟩
    · refine wpOp_value (d := 67) (v := .slice (some ⟨wd.drew.heap.size, 0, none⟩) 2 2) (w1 := wd.drew.alloc (.cells #[.int .u16 d1, .int .u16 A1, .int .u16 d2, .int .u16 A2] 66)) rfl rfl rfl (by go_simp) ⟨bl_al hHeld _, ?_⟩
      simp only [Act.put, List.setIfInBounds_toArray, List.set_cons_zero, List.set_cons_succ]
      refine wpAnyH_all (rs := [1]) (by kernel_rfl) (by simp) ?_
      intro i hi
      obtain rfl : i = 1 := by simpa using hi
      refine wpOp_call (d := 64) (f := 36) (args := #[.slice (some ⟨lb, lo, none⟩) k2 c, .int .i64 10]) rfl rfl rfl (by go_simp) ((CW5.out _ (HIc.out.below (bl_al hHeld _))).mono ?_)
      rintro e w' ⟨rfl, m, rfl⟩
      refine ⟨_, rfl, below_drewN (bl_al hHeld _) m, ?_⟩
      simp only [Act.put, List.setIfInBounds_toArray, List.set_cons_zero, List.set_cons_succ]
      refine wpAnyH_all (rs := [5]) (by kernel_rfl) (by simp) ?_
      intro i hi
      obtain rfl : i = 5 := by simpa using hi
      refine wpOp_call (d := 68) (f := 37) (args := #[.int .u16 c0, .slice (some ⟨wd.drew.heap.size, 0, none⟩) 2 2]) rfl rfl rfl (by go_simp) ((CU2.out _ _ (Prs.drewN (Prs.two wd.drew d1 A1 d2 A2 66 _ rfl) m)).mono ?_)
      rintro e w' ⟨rfl, hb⟩
      have hH9 := bl_tr (below_drewN (bl_al hHeld _) m) hb
      refine ⟨_, rfl, hH9, ?_⟩
      simp only [Act.put, List.setIfInBounds_toArray, List.set_cons_zero, List.set_cons_succ]
      refine wpAnyH_all (rs := [6]) (by kernel_rfl) (by simp) ?_
      intro i hi
      obtain rfl : i = 6 := by simpa using hi
      refine wpOp_value (d := 10) (v := .int .u16 C1) (w1 := w') rfl rfl rfl (by rw [HC1.out]; go_simp) ⟨hH9, ?_⟩
      simp only [Act.put, List.setIfInBounds_toArray, List.set_cons_zero, List.set_cons_succ]
      refine wpAnyH_done (by kernel_rfl) ?_ _
      go_wp2_with fail
      go_meet
      exact ⟨rfl, Lib.hid hH9⟩
  case rest =>
  obtain ⟨rfl, HB1⟩ := hcut
  go_upto_region 14 with fail
  go_cut [11] from 69 to 76 (fun v wx => v = .int .u16 U ∧ Hid (Below wd.heap.size wd wx))
  case first =>
    refine wp_region_held_drew (S := fun w' => Below wd.heap.size wd w') (by kernel_rfl) (below_drewN HB1.out 1) (fun hHeld => ?_)
    refine takeD (i := 0) (d := 69) (v := ?_) rfl rfl (by kernel_rfl) (by kernel_rfl) (by kernel_rfl) (fun _ _ _ h => h) rfl ?_ (by assumption) ?_
    rotate_left
    · intro w' hSw
      go_simp
      with_reducible rfl
    rotate_left
    simp only [Act.put, List.setIfInBounds_toArray, List.set_cons_zero, List.set_cons_succ]
    refine takeD (i := 1) (d := 70) (v := ?_) rfl rfl (by kernel_rfl) (by kernel_rfl) (by kernel_rfl) (fun _ _ _ h => h) rfl ?_ (by assumption) ?_
    rotate_left
    · intro w' hSw
      go_simp
      with_reducible rfl
    rotate_left
    simp only [Act.put, List.setIfInBounds_toArray, List.set_cons_zero, List.set_cons_succ]
    refine takeD (i := 3) (d := 72) (v := ?_) rfl rfl (by kernel_rfl) (by kernel_rfl) (by kernel_rfl) (fun _ _ _ h => h) rfl ?_ (by assumption) ?_
    rotate_left
    · intro w' hSw
      have q0 := cell_later hSw HT.out.px.c0
      have q1 := cell_later hSw HT.out.px.c1
      go_simp
      with_reducible rfl
    rotate_left
    simp only [Act.put, List.setIfInBounds_toArray, List.set_cons_zero, List.set_cons_succ]
    refine takeD (i := 4) (d := 73) (v := ?_) rfl rfl (by kernel_rfl) (by kernel_rfl) (by kernel_rfl) (fun _ _ _ h => h) rfl ?_ (by assumption) ?_
    rotate_left
    · intro w' hSw
      have q0 := cell_later hSw HT.out.py.c0
      have q1 := cell_later hSw HT.out.py.c1
      go_simp
      with_reducible rfl
    rotate_left
    simp only [Act.put, List.setIfInBounds_toArray, List.set_cons_zero, List.set_cons_succ]
    refine takeD (i := 5) (d := 74) (v := ?_) rfl rfl (by kernel_rfl) (by kernel_rfl) (by kernel_rfl) (fun _ _ _ h => h) rfl ?_ (by assumption) ?_
    rotate_left
    · intro w' hSw
      have q0 := cell_later hSw HT.out.pz.c0
      have q1 := cell_later hSw HT.out.pz.c1
      go_simp
      with_reducible rfl
    rotate_left
    simp only [Act.put, List.setIfInBounds_toArray, List.set_cons_zero, List.set_cons_succ]
    refine wpAnyH_all (rs := [2, 6]) (by kernel_rfl) (by simp) ?_
    intro i hi
    simp only [List.mem_cons, List.not_mem_nil, or_false] at hi
    rcases hi with rfl | rfl
    · refine wpOp_call (d := 71) (f := 36) (args := #[.slice (some ⟨lb, lo, none⟩) k2 c, .int .i64 36]) rfl rfl rfl (by go_simp) ((CWJ.out _ (HIc.out.below hHeld)).mono ?_)
      rintro e w' ⟨rfl, m, rfl⟩
      refine ⟨_, rfl, below_drewN hHeld m, ?_⟩
      simp only [Act.put, List.setIfInBounds_toArray, List.set_cons_zero, List.set_cons_succ]
      refine wpAnyH_all (rs := [6]) (by kernel_rfl) (by simp) ?_
      intro i hi
      obtain rfl : i = 6 := by simpa using hi
      refine wpOp_value (d := 75) (v := .slice (some ⟨(wc.drew.drewN m).heap.size, 0, none⟩) 3 3) (w1 := (wc.drew.drewN m).alloc (.cells #[.int .u16 d1, .int .u16 A1, .int .u16 d2, .int .u16 A2, .int .u16 dp, .int .u16 P] 66)) rfl rfl rfl (by go_simp) ⟨bl_al (below_drewN hHeld m) _, ?_⟩
      simp only [Act.put, List.setIfInBounds_toArray, List.set_cons_zero, List.set_cons_succ]
      refine wpAnyH_all (rs := [7]) (by kernel_rfl) (by simp) ?_
      intro i hi
      obtain rfl : i = 7 := by simpa using hi
      refine wpOp_call (d := 76) (f := 37) (args := #[.int .u16 u0, .slice (some ⟨(wc.drew.drewN m).heap.size, 0, none⟩) 3 3]) rfl rfl rfl (by go_simp) ((CU3.out _ _ ((Prs.three (wc.drew.drewN m) d1 A1 d2 A2 dp P 66 _ rfl))).mono ?_)
      rintro e w' ⟨rfl, hb⟩
      have hH9 := bl_tr (bl_al (below_drewN hHeld m) _) hb
      refine ⟨_, rfl, hH9, ?_⟩
      simp only [Act.put, List.setIfInBounds_toArray, List.set_cons_zero, List.set_cons_succ]
      refine wpAnyH_all (rs := [8]) (by kernel_rfl) (by simp) ?_
      intro i hi
      obtain rfl : i = 8 := by simpa using hi
      refine wpOp_value (d := 11) (v := .int .u16 U) (w1 := w') rfl rfl rfl (by rw [HU.out]; go_simp) ⟨hH9, ?_⟩
      simp only [Act.put, List.setIfInBounds_toArray, List.set_cons_zero, List.set_cons_succ]
      refine wpAnyH_done (by kernel_rfl) ?_ _
      go_wp2_with fail
      go_meet
      exact ⟨rfl, Lib.hid hH9⟩
    · refine wpOp_value (d := 75) (v := .slice (some ⟨wc.drew.heap.size, 0, none⟩) 3 3) (w1 := wc.drew.alloc (.cells #[.int .u16 d1, .int .u16 A1, .int .u16 d2, .int .u16 A2, .int .u16 dp, .int .u16 P] 66)) rfl rfl rfl (by go_simp) ⟨bl_al hHeld _, ?_⟩
      simp only [Act.put, List.setIfInBounds_toArray, List.set_cons_zero, List.set_cons_succ]
      refine wpAnyH_all (rs := [2]) (by kernel_rfl) (by simp) ?_
      intro i hi
      obtain rfl : i = 2 := by simpa using hi
      refine wpOp_call (d := 71) (f := 36) (args := #[.slice (some ⟨lb, lo, none⟩) k2 c, .int .i64 36]) rfl rfl rfl (by go_simp) ((CWJ.out _ (HIc.out.below (bl_al hHeld _))).mono ?_)
      rintro e w' ⟨rfl, m, rfl⟩
      refine ⟨_, rfl, below_drewN (bl_al hHeld _) m, ?_⟩
      simp only [Act.put, List.setIfInBounds_toArray, List.set_cons_zero, List.set_cons_succ]
      refine wpAnyH_all (rs := [7]) (by kernel_rfl) (by simp) ?_
      intro i hi
      obtain rfl : i = 7 := by simpa using hi
      refine wpOp_call (d := 76) (f := 37) (args := #[.int .u16 u0, .slice (some ⟨wc.drew.heap.size, 0, none⟩) 3 3]) rfl rfl rfl (by go_simp) ((CU3.out _ _ (Prs.drewN (Prs.three wc.drew d1 A1 d2 A2 dp P 66 _ rfl) m)).mono ?_)
      rintro e w' ⟨rfl, hb⟩
      have hH9 := bl_tr (below_drewN (bl_al hHeld _) m) hb
      refine ⟨_, rfl, hH9, ?_⟩
      simp only [Act.put, List.setIfInBounds_toArray, List.set_cons_zero, List.set_cons_succ]
      refine wpAnyH_all (rs := [8]) (by kernel_rfl) (by simp) ?_
      intro i hi
      obtain rfl : i = 8 := by simpa using hi
      refine wpOp_value (d := 11) (v := .int .u16 U) (w1 := w') rfl rfl rfl (by rw [HU.out]; go_simp) ⟨hH9, ?_⟩
      simp only [Act.put, List.setIfInBounds_toArray, List.set_cons_zero, List.set_cons_succ]
      refine wpAnyH_done (by kernel_rfl) ?_ _
      go_wp2_with fail
      go_meet
      exact ⟨rfl, Lib.hid hH9⟩
  case rest =>
  obtain ⟨rfl, HB2⟩ := hcut
  have d9 := cell_later HB2.out c9
  have qC : (C1 == C1) = true := by simp
  clear c9 HT HIc
  by_cases hU0 : U = 0
  · have hv : V = U := by rw [HV.out]; simp [hU0]
    have q0 : (U == 0) = true := by simp [hU0]
    have qV : (V == U) = true := by simp [hv]
    clear hv hU0
    go_wp2_with fail
    refine (CR5.out _ _ _ (HRc.out.below HB2.out)).mono ?_
    rintro e w' ⟨rfl, m, rfl⟩
    go_wp2_with fail
    refine (CRJ.out _ _ _ (HRc.out.below (below_drewN HB2.out m))).mono ?_
    rintro e w' ⟨rfl, m', rfl⟩
    go_wp2
    go_ret
    exact ⟨rfl, bl_tr HXc.out (below_drewN HB2.out _)⟩
  · have hv : V = U := by rw [HV.out]; simp [hU0]
    have q0 : (U == 0) = false := by simp [hU0]
    have qV : (V == U) = true := by simp [hv]
    clear hv hU0
    go_wp2_with fail
    refine (CR5.out _ _ _ (HRc.out.below HB2.out)).mono ?_
    rintro e w' ⟨rfl, m, rfl⟩
    go_wp2_with fail
    refine (CRJ.out _ _ _ (HRc.out.below (below_drewN HB2.out m))).mono ?_
    rintro e w' ⟨rfl, m', rfl⟩
    go_wp2
    go_ret
    exact ⟨rfl, bl_tr HXc.out (below_drewN HB2.out _)⟩

theorem sums_any (a : Option Addr) (n c : Nat) (l : List Int) (A P : Int) (g : Pk) (w : World) (hI : In w a n c l) (hA : 0 ≤ A ∧ A < 4294967296) (hn : n ≤ 4611686018427387904) :
    Calls Try.prog 10 #[xval a n c A P g] w fun e w' => e = .returned (.bool true) ∧ Below w.heap.size w w' := by
  by_cases h : Is l ∧ portOk P
  · obtain ⟨hi, hP⟩ := h
    rcases hi.1.proto with hpr | hpr
    · exact sums_6 a n c l A P g w hI hA hn hi hP hpr
    · exact sums_17 a n c l A P g w hI hA hn hi hP hpr
  · exact sums_no a n c l A P g w hI hA hn h
end Go.Proofs.Ytfgajgdbojapcaa
