/- Contract of RewriteKeeps: true. Conditions: the row came in, of at most 2^62 bytes; the addresses are of 32 bits. -/
import Derived.Test.YtfgajgdbojapcaaAlvR
import Derived.Test.YtfgajgdbojapcaaOpen4
import Derived.Deep.QuietTactic
import Derived.BigQuiet
namespace Go.Proofs.Ytfgajgdbojapcaa
open Go Go.RowKit
set_option linter.unusedVariables false
set_option linter.unusedSimpArgs false

theorem same2 (w : World) : (binOp .eql 32 (errno 2) (.iface 52 (.int .i64 2))).run Try.prog w = .ok (.bool true) w := by kernel_rfl
theorem same92 (w : World) : (binOp .eql 32 (errno 9) (.iface 52 (.int .i64 2))).run Try.prog w = .ok (.bool false) w := by kernel_rfl
theorem same9 (w : World) : (binOp .eql 32 (errno 9) (.iface 52 (.int .i64 9))).run Try.prog w = .ok (.bool true) w := by kernel_rfl
theorem getD_parts (A X M U T X' U' : List Int) (m i : Nat) (hA : A.length = 10) (hX : X.length = 14) (hX' : X'.length = 14) (hM : M.length = 2 * m) (hU : U.length = 2) (hU' : U'.length = 2) (h : i < 10 ∨ (24 ≤ i ∧ i < 24 + 2 * m) ∨ 26 + 2 * m ≤ i) :
    (A ++ (X ++ (M ++ (U ++ T)))).getD i 0 = (A ++ (X' ++ (M ++ (U' ++ T)))).getD i 0 := by
  simp only [List.getD_eq_getElem?_getD]
  congr 1
  rcases h with h | ⟨h1, h2⟩ | h
  · rw [List.getElem?_append_left (by omega), List.getElem?_append_left (by omega)]
  · rw [List.getElem?_append_right (by omega), List.getElem?_append_right (by omega), List.getElem?_append_left (by omega), List.getElem?_append_right (by omega), List.getElem?_append_right (by omega), List.getElem?_append_left (by omega), hX, hX']
  · rw [List.getElem?_append_right (by omega), List.getElem?_append_right (by omega), List.getElem?_append_right (by omega), List.getElem?_append_right (by omega), List.getElem?_append_right (by omega), List.getElem?_append_right (by omega), List.getElem?_append_right (by omega), List.getElem?_append_right (by omega), hX, hX', hU, hU']
theorem form_keeps (A : List Int) (c s1 s2 d1 d2 sp dp : Int) (M : List Int) (u : Int) (T : List Int) (c' s1' s2' d1' d2' sp' dp' u' : Int) (m i : Nat) (hA : A.length = 10) (hM : M.length = 2 * m) (h : i < 10 ∨ (24 ≤ i ∧ i < 24 + 2 * m) ∨ 26 + 2 * m ≤ i) :
    (form A c s1 s2 d1 d2 sp dp M u T).getD i 0 = (form A c' s1' s2' d1' d2' sp' dp' M u' T).getD i 0 := by
  have e : ∀ c s1 s2 d1 d2 sp dp u, form A c s1 s2 d1 d2 sp dp M u T = A ++ ((b2 c ++ (b2 s1 ++ (b2 s2 ++ (b2 d1 ++ (b2 d2 ++ (b2 sp ++ b2 dp)))))) ++ (M ++ (b2 u ++ T))) := by
    intros
    unfold form
    simp only [List.append_assoc]
  rw [e, e]
  exact getD_parts _ _ _ _ _ _ _ m i hA rfl rfl hM rfl rfl h
theorem re_keeps {p f : Pk} (t : Typed p) (t' : Typed (p.re f)) (i : Nat) (h : i < 10 ∨ (24 ≤ i ∧ i < 24 + 2 * mid p.proto) ∨ 26 + 2 * mid p.proto ≤ i) : (bts (p.re f)).getD i 0 = (bts p).getD i 0 := by
  rw [bts_form t, bts_form t']
  exact form_keeps _ _ _ _ _ _ _ _ _ _ _ _ _ _ _ _ _ _ _ (mid p.proto) i (headA_len p) (midM_len p) h

set_option maxRecDepth 100000 in
set_option maxHeartbeats 1000000 in
theorem keeps_no (a : Option Addr) (n c : Nat) (l : List Int) (A P : Int) (g : Pk) (w : World) (hI : In w a n c l) (hs : 0 ≤ g.src ∧ g.src < 4294967296) (hd : 0 ≤ g.dst ∧ g.dst < 4294967296) (hn : n ≤ 4611686018427387904) (h : ¬ (Is l ∧ (FlowOk g ∧ g.proto = (dec l).proto))) :
    Calls Try.prog 13 #[xval a n c A P g] w fun e w' => e = .returned (.bool true) ∧ Below w.heap.size w w' := by
  obtain ⟨W, hW, hX⟩ := XBox.start w a n c A P g
  have HW := Lib.hid hW
  have HX := Lib.hid hX
  have HI := Lib.hid hI
  obtain ⟨R, E, f, ho⟩ := Out.some l (FlowOk g ∧ g.proto = (dec l).proto) ((dec l).re g)
  have C := Lib.hid (fun X (h : In X a n c l) => both_t ho hs hd a n c X h hn)
  have s1 := same2
  have s2 := same92
  have s3 := same9
  rcases ho with ⟨hi, hQ, _⟩ | ⟨hi, hQ, rfl, rfl, rfl⟩ | ⟨hi, rfl, rfl, rfl⟩
  · exact absurd ⟨hi, hQ⟩ h
  all_goals
    clear hI hs hd hW hX hi h
    try clear hQ
    go_enter Try.func13, Try.ntmps13
    go_wp2_with fail
    rw [HW.out]
    refine (alive4_any W).mono ?_
    rintro e w1 ⟨rfl, hb⟩
    have HX1 := Lib.hid (HX.out.next hb)
    have HI1 := Lib.hid (HI.out.below HX1.out.below)
    obtain ⟨x0, x1, x2, x3, x4, x5, x6, x7⟩ := HX1.out.here
    clear hb HX HW
    go_wp2_with fail
    refine (C.out w1 HI1.out).mono ?_
    rintro e w2 ⟨a2, k2, c2, rfl, hk, hown, hb⟩
    obtain rfl : k2 = 0 := hk
    have HX2 := Lib.hid (HX1.out.next hb)
    clear hown hb x0 x1 x2 x3 x4 x5 x6 x7 HX1 HI1 C
    go_wp2
    go_ret
    exact ⟨rfl, HX2.out.below⟩

set_option maxRecDepth 100000 in
set_option maxHeartbeats 2000000 in
theorem keeps_17 (a : Option Addr) (n c : Nat) (l : List Int) (A P : Int) (g : Pk) (w : World) (hI : In w a n c l) (hs : 0 ≤ g.src ∧ g.src < 4294967296) (hd : 0 ≤ g.dst ∧ g.dst < 4294967296) (hn : n ≤ 4611686018427387904) (hi : Is l) (hf : FlowOk g) (hp : g.proto = (dec l).proto) (hpr : (dec l).proto = 17) :
    Calls Try.prog 13 #[xval a n c A P g] w fun e w' => e = .returned (.bool true) ∧ Below w.heap.size w w' := by
  obtain ⟨W, hW, hX⟩ := XBox.start w a n c A P g
  have HW := Lib.hid hW
  have HX := Lib.hid hX
  have HI := Lib.hid hI
  have ho : Out l (FlowOk g ∧ g.proto = (dec l).proto) ((dec l).re g) (bts ((dec l).re g)) .nilIface 0 := .inl ⟨hi, ⟨hf, hp⟩, rfl, rfl, rfl⟩
  have C := Lib.hid (fun X (h : In X a n c l) => both_t ho hs hd a n c X h hn)
  have t := dec_typed hI.fit
  have t' : Typed ((dec l).re g) := re_typed t hs hd
  have HFR := Lib.hid (fit_bts t'.data)
  have hsz := hi.size
  have hln := hI.len
  have HLR : Hid ((bts ((dec l).re g)).length = n) := Lib.hid (by
    have e : (bts ((dec l).re g)).length = (bts (dec l)).length := by rw [bts_len, bts_len]; rfl
    rw [e, hi.2, hln])
  have h9 : (bts ((dec l).re g)).getD 9 0 = 17 := by
    have e : (bts ((dec l).re g)).getD 9 0 = (dec l).proto % 256 := rfl
    rw [e, hpr]
    rfl
  have HKP : Hid (∀ i, i < 10 ∨ (24 ≤ i ∧ i < 26) ∨ 28 ≤ i → (bts ((dec l).re g)).getD i 0 = l.getD i 0) := Lib.hid (fun i h => by
    have e := re_keeps t t' i (by
      unfold mid
      rw [if_pos hpr]
      omega)
    rw [hi.2] at e
    exact e)
  have hn0 : 28 ≤ n ∧ n ≤ 1500 := by omega
  obtain ⟨R, hR⟩ : ∃ R, R = bts ((dec l).re g) := ⟨_, rfl⟩
  rw [← hR] at C HFR HLR h9 HKP
  have H9 := Lib.hid h9
  obtain ⟨n0, n1⟩ := hn0
  clear hI hs hd hW hX hi hf hp hpr ho t t' hsz hln hR h9
  go_enter Try.func13, Try.ntmps13
  go_wp2_with fail
  rw [HW.out]
  refine (alive4_any W).mono ?_
  rintro e w1 ⟨rfl, hb⟩
  have HX1 := Lib.hid (HX.out.next hb)
  have HI1 := Lib.hid (HI.out.below HX1.out.below)
  obtain ⟨x0, x1, x2, x3, x4, x5, x6, x7⟩ := HX1.out.here
  clear hb HX HW
  go_wp2_with fail
  refine (C.out w1 HI1.out).mono ?_
  rintro e w2 ⟨a2, k2, c2, rfl, hk, hown, hb⟩
  obtain rfl : k2 = n := by rw [hk, HLR.out]
  have HX2 := Lib.hid (HX1.out.next hb)
  have HI2 := Lib.hid (HI.out.below HX2.out.below)
  have hr := own_row hown hk.symm HFR.out
  obtain ⟨rb, ro, rfl⟩ := in_addr hr (by omega)
  obtain ⟨lb, lo, rfl⟩ := in_addr HI2.out (by omega)
  have HR2 := Lib.hid hr
  have c9 := in_cell hr 9 (by omega)
  rw [H9.out] at c9
  clear hown hb hk hr x0 x1 x2 x3 x4 x5 x6 x7 HX1 HI1 C
  obtain ⟨x0, x1, x2, x3, x4, x5, x6, x7⟩ := HX2.out.here
  go_wp2
  go_loopw [50] (fun i wr => ∃ j : Nat, j ≤ k2 ∧ i = .int .i64 j ∧ Hid (Below w2.heap.size w2 wr)) (fun i _ => k2 - (intOf i).toNat)
  case atStart => exact ⟨0, by omega, rfl, Lib.hid (Below.refl _ _)⟩
  case round =>
    obtain ⟨j, hj, rfl, hB⟩ := hrel
    have e0 := cell_later hB.out x0
    clear x0 x1 x2 x3 x4 x5 x6 x7 c9
    by_cases hlt : j < k2
    · have ij : (j : Int) < (k2 : Int) := by omega
      have hcase : (10 ≤ j ∧ j < 24) ∨ (j < 10 ∨ 24 ≤ j ∧ j ≠ 26 ∧ j ≠ 27) ∨ (24 ≤ j ∧ j = 26) ∨ (24 ≤ j ∧ j = 27) := by omega
      have h0 : 0 ≤ (j : Int) := by omega
      rcases hcase with ⟨h1, h2⟩ | hno | ⟨h1, rfl⟩ | ⟨h1, rfl⟩
      · have d1 : decide (10 ≤ (j : Int)) = true := decide_eq_true (by omega)
        have d2 : decide ((j : Int) < 24) = true := decide_eq_true (by omega)
        clear h1 h2
        go_wp2
        go_quiet (fail)
        go_wp2
        go_roundw
        case rel => exact ⟨j + 1, by omega, by go_num, Lib.hid (below_drewN hB.out _)⟩
        case measure => simp [intOf]; omega
      · have hv : R.getD j 0 = l.getD j 0 := HKP.out j (by omega)
        have r1 := in_cell (HR2.out.below hB.out) j hlt
        have r2 := in_cell (HI2.out.below hB.out) j hlt
        rw [hv] at r1
        obtain ⟨y, hy⟩ : ∃ y, y = l.getD j 0 := ⟨_, rfl⟩
        rw [← hy] at r1 r2
        have q1 : ((j : Int) == 26) = false := by simp; omega
        have q2 : ((j : Int) == 27) = false := by simp; omega
        have qy : (y != y) = false := by simp
        clear hv hy
        rcases hno with h1 | ⟨h1, _, _⟩
        · have d1 : decide (10 ≤ (j : Int)) = false := decide_eq_false (by omega)
          clear h1
          go_wp2
          go_quiet (fail)
          go_wp2
          go_roundw
          case rel => exact ⟨j + 1, by omega, by go_num, Lib.hid (below_drewN hB.out _)⟩
          case measure => simp [intOf]; omega
        · have d1 : decide (10 ≤ (j : Int)) = true := decide_eq_true (by omega)
          have d2 : decide ((j : Int) < 24) = false := decide_eq_false (by omega)
          clear h1
          go_wp2
          go_quiet (fail)
          go_wp2
          go_roundw
          case rel => exact ⟨j + 1, by omega, by go_num, Lib.hid (below_drewN hB.out _)⟩
          case measure => simp [intOf]; omega
      · clear h1 ij h0
        go_wp2
        go_quiet (fail)
        go_wp2
        go_roundw
        case rel => exact ⟨27, by omega, by go_num, Lib.hid (below_drewN hB.out _)⟩
        case measure => simp [intOf]; omega
      · clear h1 ij h0
        go_wp2
        go_quiet (fail)
        go_wp2
        go_roundw
        case rel => exact ⟨28, by omega, by go_num, Lib.hid (below_drewN hB.out _)⟩
        case measure => simp [intOf]; omega
    · go_wp2
      go_ret
      exact ⟨rfl, bl_tr HX2.out.below hB.out⟩
set_option maxRecDepth 100000 in
set_option maxHeartbeats 2000000 in
theorem keeps_6 (a : Option Addr) (n c : Nat) (l : List Int) (A P : Int) (g : Pk) (w : World) (hI : In w a n c l) (hs : 0 ≤ g.src ∧ g.src < 4294967296) (hd : 0 ≤ g.dst ∧ g.dst < 4294967296) (hn : n ≤ 4611686018427387904) (hi : Is l) (hf : FlowOk g) (hp : g.proto = (dec l).proto) (hpr : (dec l).proto = 6) :
    Calls Try.prog 13 #[xval a n c A P g] w fun e w' => e = .returned (.bool true) ∧ Below w.heap.size w w' := by
  obtain ⟨W, hW, hX⟩ := XBox.start w a n c A P g
  have HW := Lib.hid hW
  have HX := Lib.hid hX
  have HI := Lib.hid hI
  have ho : Out l (FlowOk g ∧ g.proto = (dec l).proto) ((dec l).re g) (bts ((dec l).re g)) .nilIface 0 := .inl ⟨hi, ⟨hf, hp⟩, rfl, rfl, rfl⟩
  have C := Lib.hid (fun X (h : In X a n c l) => both_t ho hs hd a n c X h hn)
  have t := dec_typed hI.fit
  have t' : Typed ((dec l).re g) := re_typed t hs hd
  have HFR := Lib.hid (fit_bts t'.data)
  have hsz := hi.size
  have hln := hI.len
  have HLR : Hid ((bts ((dec l).re g)).length = n) := Lib.hid (by
    have e : (bts ((dec l).re g)).length = (bts (dec l)).length := by rw [bts_len, bts_len]; rfl
    rw [e, hi.2, hln])
  have h9 : (bts ((dec l).re g)).getD 9 0 = 6 := by
    have e : (bts ((dec l).re g)).getD 9 0 = (dec l).proto % 256 := rfl
    rw [e, hpr]
    rfl
  have HKP : Hid (∀ i, i < 10 ∨ (24 ≤ i ∧ i < 36) ∨ 38 ≤ i → (bts ((dec l).re g)).getD i 0 = l.getD i 0) := Lib.hid (fun i h => by
    have e := re_keeps t t' i (by
      unfold mid
      rw [if_neg (by omega)]
      omega)
    rw [hi.2] at e
    exact e)
  have hn0 : 28 ≤ n ∧ n ≤ 1500 := by omega
  obtain ⟨R, hR⟩ : ∃ R, R = bts ((dec l).re g) := ⟨_, rfl⟩
  rw [← hR] at C HFR HLR h9 HKP
  have H9 := Lib.hid h9
  obtain ⟨n0, n1⟩ := hn0
  clear hI hs hd hW hX hi hf hp hpr ho t t' hsz hln hR h9
  go_enter Try.func13, Try.ntmps13
  go_wp2_with fail
  rw [HW.out]
  refine (alive4_any W).mono ?_
  rintro e w1 ⟨rfl, hb⟩
  have HX1 := Lib.hid (HX.out.next hb)
  have HI1 := Lib.hid (HI.out.below HX1.out.below)
  obtain ⟨x0, x1, x2, x3, x4, x5, x6, x7⟩ := HX1.out.here
  clear hb HX HW
  go_wp2_with fail
  refine (C.out w1 HI1.out).mono ?_
  rintro e w2 ⟨a2, k2, c2, rfl, hk, hown, hb⟩
  obtain rfl : k2 = n := by rw [hk, HLR.out]
  have HX2 := Lib.hid (HX1.out.next hb)
  have HI2 := Lib.hid (HI.out.below HX2.out.below)
  have hr := own_row hown hk.symm HFR.out
  obtain ⟨rb, ro, rfl⟩ := in_addr hr (by omega)
  obtain ⟨lb, lo, rfl⟩ := in_addr HI2.out (by omega)
  have HR2 := Lib.hid hr
  have c9 := in_cell hr 9 (by omega)
  rw [H9.out] at c9
  clear hown hb hk hr x0 x1 x2 x3 x4 x5 x6 x7 HX1 HI1 C
  obtain ⟨x0, x1, x2, x3, x4, x5, x6, x7⟩ := HX2.out.here
  go_wp2
  go_loopw [50] (fun i wr => ∃ j : Nat, j ≤ k2 ∧ i = .int .i64 j ∧ Hid (Below w2.heap.size w2 wr)) (fun i _ => k2 - (intOf i).toNat)
  case atStart => exact ⟨0, by omega, rfl, Lib.hid (Below.refl _ _)⟩
  case round =>
    obtain ⟨j, hj, rfl, hB⟩ := hrel
    have e0 := cell_later hB.out x0
    clear x0 x1 x2 x3 x4 x5 x6 x7 c9
    by_cases hlt : j < k2
    · have ij : (j : Int) < (k2 : Int) := by omega
      have hcase : (10 ≤ j ∧ j < 24) ∨ (j < 10 ∨ 24 ≤ j ∧ j ≠ 36 ∧ j ≠ 37) ∨ (24 ≤ j ∧ j = 36) ∨ (24 ≤ j ∧ j = 37) := by omega
      have h0 : 0 ≤ (j : Int) := by omega
      rcases hcase with ⟨h1, h2⟩ | hno | ⟨h1, rfl⟩ | ⟨h1, rfl⟩
      · have d1 : decide (10 ≤ (j : Int)) = true := decide_eq_true (by omega)
        have d2 : decide ((j : Int) < 24) = true := decide_eq_true (by omega)
        clear h1 h2
        go_wp2
        go_quiet (fail)
        go_wp2
        go_roundw
        case rel => exact ⟨j + 1, by omega, by go_num, Lib.hid (below_drewN hB.out _)⟩
        case measure => simp [intOf]; omega
      · have hv : R.getD j 0 = l.getD j 0 := HKP.out j (by omega)
        have r1 := in_cell (HR2.out.below hB.out) j hlt
        have r2 := in_cell (HI2.out.below hB.out) j hlt
        rw [hv] at r1
        obtain ⟨y, hy⟩ : ∃ y, y = l.getD j 0 := ⟨_, rfl⟩
        rw [← hy] at r1 r2
        have q1 : ((j : Int) == 36) = false := by simp; omega
        have q2 : ((j : Int) == 37) = false := by simp; omega
        have qy : (y != y) = false := by simp
        clear hv hy
        rcases hno with h1 | ⟨h1, _, _⟩
        · have d1 : decide (10 ≤ (j : Int)) = false := decide_eq_false (by omega)
          clear h1
          go_wp2
          go_quiet (fail)
          go_wp2
          go_roundw
          case rel => exact ⟨j + 1, by omega, by go_num, Lib.hid (below_drewN hB.out _)⟩
          case measure => simp [intOf]; omega
        · have d1 : decide (10 ≤ (j : Int)) = true := decide_eq_true (by omega)
          have d2 : decide ((j : Int) < 24) = false := decide_eq_false (by omega)
          clear h1
          go_wp2
          go_quiet (fail)
          go_wp2
          go_roundw
          case rel => exact ⟨j + 1, by omega, by go_num, Lib.hid (below_drewN hB.out _)⟩
          case measure => simp [intOf]; omega
      · clear h1 ij h0
        go_wp2
        go_quiet (fail)
        go_wp2
        go_roundw
        case rel => exact ⟨37, by omega, by go_num, Lib.hid (below_drewN hB.out _)⟩
        case measure => simp [intOf]; omega
      · clear h1 ij h0
        go_wp2
        go_quiet (fail)
        go_wp2
        go_roundw
        case rel => exact ⟨38, by omega, by go_num, Lib.hid (below_drewN hB.out _)⟩
        case measure => simp [intOf]; omega
    · go_wp2
      go_ret
      exact ⟨rfl, bl_tr HX2.out.below hB.out⟩
theorem keeps_any (a : Option Addr) (n c : Nat) (l : List Int) (A P : Int) (g : Pk) (w : World) (hI : In w a n c l) (hs : 0 ≤ g.src ∧ g.src < 4294967296) (hd : 0 ≤ g.dst ∧ g.dst < 4294967296) (hn : n ≤ 4611686018427387904) :
    Calls Try.prog 13 #[xval a n c A P g] w fun e w' => e = .returned (.bool true) ∧ Below w.heap.size w w' := by
  by_cases h : Is l ∧ (FlowOk g ∧ g.proto = (dec l).proto)
  · obtain ⟨hi, hf, hp⟩ := h
    rcases hi.1.proto with hpr | hpr
    · exact keeps_6 a n c l A P g w hI hs hd hn hi hf hp hpr
    · exact keeps_17 a n c l A P g w hI hs hd hn hi hf hp hpr
  · exact keeps_no a n c l A P g w hI hs hd hn h
end Go.Proofs.Ytfgajgdbojapcaa
