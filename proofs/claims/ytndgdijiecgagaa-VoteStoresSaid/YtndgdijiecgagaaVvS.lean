/- VoteStores's walk. Conditions: those stated. -/
import Derived.Test.YtndgdijiecgagaaVvC
import Derived.Test.YtndgdijiecgagaaVvG
import Derived.Test.YtndgdijiecgagaaVgB
import Derived.Deep.CutRange
namespace Go.Proofs.Ytndgdijiecgagaa
open Go Go.RowKit
set_option linter.unusedVariables false
set_option linter.unusedSimpArgs false

theorem three_eq (w : World) : (binOp .eql 28 (errnoF 3) .nilIface).run Try.prog w = .ok (.bool false) w := by kernel_rfl
/-- What stands in the store behind the first Put. -/
def st1 (h : Bool) (P : List Int) : List Pr := if h then putL 1048576 kPr P [] else []
def st2 (h g : Bool) (P V : List Int) : List Pr := if g then putL 1048576 kVt V (st1 h P) else st1 h P
def W1 (h : Bool) (P : List Int) : Bool := !h || (decide (P.length = 16) && decide (OkB (rdB P)))
def W2 (h g : Bool) (P V : List Int) : Bool := W1 h P && (!g || (decide (16 ≤ V.length) && (decide (OkB (rdB V)) && decide (IsLog (V.drop 16)))))
theorem st1_find {h : Bool} {P : List Int} (hl : P.length ≤ 8192) (k : Ky) : findP k (st1 h P) = if h = true ∧ k = kPr then some P else none := by
  unfold st1
  cases h with
  | true =>
    have h0 : putN 1048576 kPr P [] = 0 := putN_room okPr (by show ((0 + 7 + P.length : Nat) : Int) ≤ 1048576; omega)
    rw [if_pos rfl, putL_put h0, findP_put]
    by_cases hk : k = kPr
    · rw [if_pos hk, if_pos ⟨rfl, hk⟩]
    · rw [if_neg hk, if_neg (fun h => hk h.2)]; exact findP_nil k
  | false => rw [if_neg (by decide), if_neg (fun h => by cases h.1)]; exact findP_nil k
theorem st1_used {h : Bool} {P : List Int} (hl : P.length ≤ 8192) : usedP (st1 h P) ≤ 8199 := by
  unfold st1
  cases h with
  | true =>
    have h0 : putN 1048576 kPr P [] = 0 := putN_room okPr (by show ((0 + 7 + P.length : Nat) : Int) ≤ 1048576; omega)
    rw [if_pos rfl, putL_put h0]
    have := used_ins_le kPr P []
    have e : usedP [] = 0 := rfl
    have e2 : kPr.length = 7 := rfl
    omega
  | false => rw [if_neg (by decide)]; exact Nat.zero_le _
theorem st2_find {h g : Bool} {P V : List Int} (hl : P.length ≤ 8192) (hv : V.length ≤ 8192) : findP kPr (st2 h g P V) = (if h = true then some P else none) ∧ findP kVt (st2 h g P V) = if g = true then some V else none := by
  have hu := st1_used (h := h) hl
  unfold st2
  cases g with
  | true =>
    have h0 : putN 1048576 kVt V (st1 h P) = 0 := putN_room okVt (by have e2 : kVt.length = 4 := rfl; omega)
    rw [if_pos rfl, putL_put h0, findP_put, findP_put, if_neg kne, if_pos rfl, if_pos rfl, st1_find hl]
    refine ⟨?_, rfl⟩
    cases h <;> rfl
  | false =>
    rw [if_neg (by decide), st1_find hl, st1_find hl]
    refine ⟨?_, ?_⟩
    · cases h <;> rfl
    · rw [if_neg (fun h => kne h.2.symm), if_neg (by decide)]
theorem W2_load {h g : Bool} {P V : List Int} (hl : P.length ≤ 8192) (hv : V.length ≤ 8192) :
    (W2 h g P V = true → ∃ pr ac ls, ldP (st2 h g P V) = some pr ∧ ldV (st2 h g P V) = some (ac, ls)) ∧ (W2 h g P V = false → ldP (st2 h g P V) = none ∨ ldV (st2 h g P V) = none) := by
  obtain ⟨f1, f2⟩ := st2_find (h := h) (g := g) hl hv
  have hP : ldP (st2 h g P V) = if W1 h P = true then some (if h = true then rdB P else bl0) else none := by
    unfold ldP W1
    rw [f1]
    cases h with
    | false => rfl
    | true =>
      simp only [if_true, Bool.not_true, Bool.false_or]
      by_cases ho : OkB (rdB P)
      · have h16 := okB_len ho
        rw [rests2 h16, List.length_drop]
        by_cases h2 : P.length = 16
        · rw [if_pos ⟨ho, by omega⟩, if_pos (by simp [ho, h2])]
        · rw [if_neg (fun h => h2 (by omega)), if_neg (by simp [h2])]
      · rw [if_neg (fun h => ho h.1), if_neg (by simp [ho])]
  have hV : (∃ ac ls, ldV (st2 h g P V) = some (ac, ls)) ∧ (!g || (decide (16 ≤ V.length) && (decide (OkB (rdB V)) && decide (IsLog (V.drop 16))))) = true ∨ ldV (st2 h g P V) = none ∧ (!g || (decide (16 ≤ V.length) && (decide (OkB (rdB V)) && decide (IsLog (V.drop 16))))) = false := by
    unfold ldV
    rw [f2]
    cases g with
    | false => exact .inl ⟨⟨bl0, [], rfl⟩, rfl⟩
    | true =>
      simp only [if_true, Bool.not_true, Bool.false_or]
      by_cases ho : OkB (rdB V)
      · have h16 := okB_len ho
        rw [rests2 h16]
        by_cases h2 : IsLog (V.drop 16)
        · rw [if_pos ⟨ho, h2⟩]
          exact .inl ⟨⟨_, _, rfl⟩, by simp [ho, h2, h16]⟩
        · rw [if_neg (fun h => h2 h.2)]
          exact .inr ⟨rfl, by simp [h2]⟩
      · rw [if_neg (fun h => ho h.1)]
        exact .inr ⟨rfl, by simp [ho]⟩
  unfold W2
  rcases hV with ⟨⟨ac, ls, e⟩, hw⟩ | ⟨e, hw⟩
  · rw [hw, hP, e, Bool.and_true]
    refine ⟨fun h => ⟨_, ac, ls, if_pos h, rfl⟩, fun h => .inl (if_neg (by rw [h]; decide))⟩
  · rw [hw, e, Bool.and_false]
    exact ⟨fun h => (by cases h), fun _ => .inr rfl⟩
theorem st2_rows {h g : Bool} {P V : List Int} (hl : P.length ≤ 8192) (hv : V.length ≤ 8192) : ∀ k r, k = kPr ∨ k = kVt → findP k (st2 h g P V) = some r → r.length ≤ 1048576 := by
  obtain ⟨f1, f2⟩ := st2_find (h := h) (g := g) hl hv
  intro k r hk hr
  rcases hk with rfl | rfl
  · rw [f1] at hr
    cases h with
    | true => cases hr; omega
    | false => cases hr
  · rw [f2] at hr
    cases g with
    | true => cases hr; omega
    | false => cases hr
theorem drop16_in {w : World} {b off n c c2 off2 : Nat} {V : List Int} (h : In w (some ⟨b, off, none⟩) n c V) (h16 : 16 ≤ n) (hc : n - 16 ≤ c2) (ho : 16 < n → off2 = off + 16) : In w (some ⟨b, off2, none⟩) (n - 16) c2 (V.drop 16) := by
  have hl := h.len
  rcases Nat.lt_or_ge 16 n with h1 | h1
  · refine ⟨by rw [List.length_drop]; omega, hc, fun h => (by cases h), ?_, fun x hx => h.fit x (List.mem_of_mem_drop hx)⟩
    have := At.sub h.here hl 16 n h16 (Nat.le_refl _) (n - 16) c2 off2 rfl (ho h1)
    rwa [List.take_of_length_le (by rw [List.length_drop]; omega)] at this
  · have e : V.drop 16 = [] := List.drop_of_length_le (by omega)
    rw [e, show n - 16 = 0 by omega]
    exact ⟨rfl, Nat.zero_le _, fun h => (by cases h), At.nil _ _ _, fit_nil⟩
set_option maxRecDepth 100000 in
set_option maxHeartbeats 16000000 in
theorem opens_c (P V : List Int) (h g : Bool) (aP aV : Option Addr) (nP cP nV cV : Nat) (w : World) (hP : In w aP nP cP P) (hV : In w aV nV cV V) (hnP : nP ≤ 140737488351232) (hnV : nV ≤ 140737488351232) :
    Calls Try.prog 44 #[.slice aP nP cP, .slice aV nV cV, .bool h, .bool g] w fun e w' => e = .returned (.bool true) ∧ Below w.heap.size w w' := by
  have HP := Lib.hid hP
  have HV := Lib.hid hV
  have CA := Lib.hid (alive_c w)
  clear hP hV
  go_enter Try.func44, Try.ntmps44
  go_wp2_with fail
  refine CA.out.mono ?_
  rintro e w1 ⟨rfl, hb1⟩
  have HB1 := Lib.hid hb1
  clear hb1 CA
  obtain ⟨S, hS⟩ : ∃ S, S = nP + nV := ⟨_, rfl⟩
  have vs1 : ∀ [Inhabited Nat], IntKind.i64.wrap ((nP : Int) + (nV : Int)) = (S : Int) := by intro _; rw [IntWalk.i64_in _ (by omega)]; omega
  have vs2 : wrap64 ((nP : Int) + (nV : Int)) = (S : Int) := by unfold wrap64; omega
  have vs3 : (nP : Int) + (nV : Int) = (S : Int) := by omega
  have HSS := Lib.hid hS
  clear hS
  by_cases hbig : 8192 < S
  · have gb : (8192 : Int) < (S : Int) := by omega
    go_wp2
    go_ret
    exact ⟨rfl, HB1.out⟩
  · have gb : ¬ (8192 : Int) < (S : Int) := by omega
    have hP8 : nP ≤ 8192 := by have := HSS.out; omega
    have hV8 : nV ≤ 8192 := by have := HSS.out; omega
    have CN := Lib.hid (new_c 1048576 w1)
    go_wp2_with fail
    refine CN.out.mono ?_
    intro e w2 hN
    obtain ⟨s, rfl, hS0, _⟩ := SOn.made (w0 := w1) (w := w1) (K := Old w1) (by decide) (Below.refl _ _) (fun k hk => hk) hN
    have HS0 := Lib.hid hS0
    have HPL := Lib.hid HP.out.len
    have HVL := Lib.hid HV.out.len
    have qn := nilNe
    have hs0 : ((some (⟨s, 0, none⟩ : Addr)) == none) = false := rfl
    clear hN hS0 CN vs1 vs2 vs3 gb hbig
    obtain ⟨D1, hD1⟩ : ∃ D, D = W1 h P := ⟨_, rfl⟩
    have HD1 := Lib.hid hD1
    clear hD1
    go_upto_if 35 with fail
    go_cut [11] from 36 to 46 (fun v wx => v = .bool D1 ∧ Hid (SOn w1 wx s 1048576 (st1 h P) [] (Old w1)))
    case first =>
      cases h with
      | false =>
        have HF : Hid (D1 = true) := Lib.hid (by rw [HD1.out]; rfl)
        go_wp2
        go_meet
        exact ⟨by rw [HF.out], HS0⟩
      | true =>
        have HP2 := Lib.hid (HP.out.below (bl_tr HB1.out HS0.out.bel))
        have CP := Lib.hid (HS0.out.put1 kPr (by decide) HP2.out (by omega))
        rw [sv_kPr] at CP
        go_wp2_with fail
        refine CP.out.mono ?_
        rintro e w3 ⟨rfl, hS3, _⟩
        have HS3 : Hid (SOn w1 w3 s 1048576 (st1 true P) [] (Old w1)) := Lib.hid hS3
        clear hS3 CP HP2
        by_cases h16 : nP = 16
        · have g17 : ((nP : Int) == 16) = true := by rw [h16]; rfl
          have CG := Lib.hid (goodS_c P aP nP cP w3 (HP.out.below (bl_tr HB1.out HS3.out.bel)) (by omega) (by omega))
          have HF : Hid (D1 = decide (OkB (rdB P))) := Lib.hid (by rw [HD1.out]; unfold W1; rw [HPL.out, decide_eq_true h16]; rfl)
          clear h16
          go_wp2_with fail
          refine CG.out.mono ?_
          rintro e w4 ⟨rfl, hb4⟩
          have HS4 := Lib.hid (HS3.out.new hb4).1
          clear hb4 CG
          go_wp2
          go_meet
          exact ⟨by rw [HF.out], HS4⟩
        · have g16 : ¬ (nP : Int) = 16 := by omega
          have g17 : ((nP : Int) == 16) = false := by simp [g16]
          have HF : Hid (D1 = false) := Lib.hid (by rw [HD1.out]; unfold W1; rw [HPL.out, decide_eq_false h16]; rfl)
          clear h16
          go_wp2
          go_meet
          exact ⟨by rw [HF.out], HS3⟩
    case rest =>
      obtain ⟨rfl, HS1⟩ := hcut
      obtain ⟨w5, hw5⟩ : ∃ v, v = wc := ⟨_, rfl⟩
      subst hw5
      obtain ⟨D2, hD2⟩ : ∃ D, D = W2 h g P V := ⟨_, rfl⟩
      have HD2 := Lib.hid hD2
      clear hD2
      go_upto_if 47 with fail
      go_cut [11, 12, 13] from 48 to 70 (fun v _ _ wx => v = .bool D2 ∧ Hid (SOn w1 wx s 1048576 (st2 h g P V) [] (Old w1)))
      case first =>
        cases g with
        | false =>
          have HF : Hid (D2 = D1) := Lib.hid (by rw [HD2.out, HD1.out]; unfold W2; simp)
          go_wp2
          go_meet
          exact ⟨by rw [HF.out], HS1⟩
        | true =>
          have HV2 := Lib.hid (HV.out.below (bl_tr HB1.out HS1.out.bel))
          have CP := Lib.hid (HS1.out.put1 kVt (by decide) HV2.out (by omega))
          rw [sv_kVt] at CP
          go_wp2_with fail
          refine CP.out.mono ?_
          rintro e w6 ⟨rfl, hS3, _⟩
          have HS6 : Hid (SOn w1 w6 s 1048576 (st2 h true P V) [] (Old w1)) := Lib.hid hS3
          have HB6 := Lib.hid (bl_tr HB1.out HS6.out.bel)
          clear hS3 CP HV2
          cases hd1 : D1 with
          | false =>
            have HF : Hid (D2 = false) := Lib.hid (by rw [HD2.out]; unfold W2; rw [← HD1.out, hd1]; rfl)
            clear hd1
            go_wp2
            go_meet
            exact ⟨by rw [HF.out], HS6⟩
          | true =>
            have HT1 : Hid (D2 = (decide (16 ≤ nV) && (decide (OkB (rdB V)) && decide (IsLog (V.drop 16))))) := Lib.hid (by rw [HD2.out]; unfold W2; rw [← HD1.out, hd1, HVL.out]; rfl)
            clear hd1
            by_cases h16 : 16 ≤ nV
            · have g16 : (16 : Int) ≤ (nV : Int) := by omega
              have CG := Lib.hid (goodS_c V aV nV cV w6 (HV.out.below HB6.out) (by omega) h16)
              rw [decide_eq_true h16, Bool.true_and] at HT1
              obtain ⟨E, hE⟩ : ∃ E, E = decide (OkB (rdB V)) := ⟨_, rfl⟩
              rw [← hE] at CG HT1
              clear hE
              go_wp2_with fail
              refine CG.out.mono ?_
              rintro e w7 ⟨rfl, hb7⟩
              have HS7 := Lib.hid (HS6.out.new hb7).1
              have HB7 := Lib.hid (bl_tr HB6.out hb7)
              clear hb7 CG
              cases E with
              | false =>
                have HF : Hid (D2 = false) := Lib.hid HT1.out
                go_wp2
                go_meet
                exact ⟨by rw [HF.out], HS7⟩
              | true =>
                have HT2 : Hid (D2 = decide (IsLog (V.drop 16))) := Lib.hid HT1.out
                obtain ⟨bv, ov, rfl⟩ := in_block HV.out (by omega)
                have hroom := HV.out.room
                have hV7 := HV.out.below HB7.out
                have g1 : (16 : Int) ≤ (cV : Int) := by omega
                obtain ⟨D5, hD5⟩ : ∃ D, D = decide (IsLog (V.drop 16)) := ⟨_, rfl⟩
                rw [← hD5] at HT2
                have HD5 := Lib.hid hD5
                by_cases hcap : cV = 16
                · have CD := Lib.hid (readR_c (V.drop 16) (some ⟨bv, ov, none⟩) (nV - 16) (cV - 16) w7 (drop16_in hV7 h16 (by omega) (fun h => by omega)) (by omega))
                  rw [show nV - 16 = 0 by omega, show cV - 16 = 0 by omega] at CD
                  have hnn : nV = 16 := by omega
                  subst hcap
                  subst hnn
                  clear hV7 hD5 hroom h16
                  go_wp2_with fail
                  refine CD.out.mono ?_
                  intro e w8 hR
                  have HS8 := Lib.hid (HS7.out.new hR.bel).1
                  by_cases hL : IsLog (V.drop 16)
                  · obtain ⟨ar, cr, vr, rfl, _⟩ := hR.yes hL
                    have HF : Hid (D2 = true) := Lib.hid (by rw [HT2.out, HD5.out, decide_eq_true hL])
                    clear hR hL CD
                    go_wp2
                    go_meet
                    exact ⟨by rw [HF.out], HS8⟩
                  · have e0 := hR.no hL
                    subst e0
                    have HF : Hid (D2 = false) := Lib.hid (by rw [HT2.out, HD5.out, decide_eq_false hL])
                    clear hR hL CD
                    go_wp2
                    go_meet
                    exact ⟨by rw [HF.out], HS8⟩
                · have CD := Lib.hid (readR_c (V.drop 16) (some ⟨bv, ov + 16, none⟩) (nV - 16) (cV - 16) w7 (drop16_in hV7 h16 (by omega) (fun _ => rfl)) (by omega))
                  clear hV7 hD5 hroom h16
                  go_wp2_with fail
                  refine CD.out.mono ?_
                  intro e w8 hR
                  have HS8 := Lib.hid (HS7.out.new hR.bel).1
                  by_cases hL : IsLog (V.drop 16)
                  · obtain ⟨ar, cr, vr, rfl, _⟩ := hR.yes hL
                    have HF : Hid (D2 = true) := Lib.hid (by rw [HT2.out, HD5.out, decide_eq_true hL])
                    clear hR hL CD
                    go_wp2
                    go_meet
                    exact ⟨by rw [HF.out], HS8⟩
                  · have e0 := hR.no hL
                    subst e0
                    have HF : Hid (D2 = false) := Lib.hid (by rw [HT2.out, HD5.out, decide_eq_false hL])
                    clear hR hL CD
                    go_wp2
                    go_meet
                    exact ⟨by rw [HF.out], HS8⟩
            · have g16 : ¬ (16 : Int) ≤ (nV : Int) := by omega
              have HF : Hid (D2 = false) := Lib.hid (by rw [HT1.out, decide_eq_false h16]; rfl)
              clear h16
              go_wp2
              go_meet
              exact ⟨by rw [HF.out], HS6⟩
      case rest =>
        obtain ⟨rfl, HS2⟩ := hcut
        obtain ⟨w9, hw9⟩ : ∃ v, v = wc := ⟨_, rfl⟩
        subst hw9
        have hPl : P.length ≤ 8192 := by rw [HPL.out]; exact hP8
        have hVl : V.length ≤ 8192 := by rw [HVL.out]; exact hV8
        have HLD := Lib.hid (W2_load (h := h) (g := g) hPl hVl)
        have CO := Lib.hid (open_c w1 w9 s 1048576 (st2 h g P V) [] 20 (Old w1) HS2.out ⟨by decide, by decide⟩ (st2_rows hPl hVl))
        clear hPl hVl
        rw [← HD2.out] at HLD
        go_wp2_with fail
        refine CO.out.mono ?_
        intro e wA hO
        have HOB := Lib.hid (bl_tr HB1.out hO.on.bel)
        have hmg : IsMgr 20 := by decide
        have q9 := fun W => err_eql 9 9 W
        cases D2 with
        | true =>
          obtain ⟨pr, ac, ls, e1, e2⟩ := HLD.out.1 rfl
          obtain ⟨pv, rfl, _⟩ := hO.yes hmg pr ac ls e1 e2
          have hpv : ((some (⟨pv, 0, none⟩ : Addr)) == none) = false := rfl
          have CN := Lib.hid (open_nil wA 20)
          have qe := nilEl
          clear hO e1 e2 HLD CO
          go_wp2_with fail
          refine CN.out.mono ?_
          rintro e wB ⟨rfl, rfl⟩
          clear CN
          go_wp2
          go_ret
          exact ⟨rfl, HOB.out⟩
        | false =>
          have e0 := hO.bad hmg (HLD.out.2 rfl)
          subst e0
          have CN := Lib.hid (open_nil wA 20)
          have qe := three_eq
          have q3 := fun W => err_eql 3 3 W
          clear hO HLD CO
          go_wp2_with fail
          refine CN.out.mono ?_
          rintro e wB ⟨rfl, rfl⟩
          clear CN
          go_wp2
          go_ret
          exact ⟨rfl, HOB.out⟩
abbrev tyStd : TypeId := 93
set_option maxRecDepth 100000 in
set_option maxHeartbeats 4000000 in
theorem voteStores_t (P V : List Int) (h g : Bool) (aP aV : Option Addr) (nP cP nV cV : Nat) (w : World) (hP : In w aP nP cP P) (hV : In w aV nV cV V) (hnP : nP ≤ 140737488351232) (hnV : nV ≤ 140737488351232) :
    Calls Try.prog 8 #[.agg #[.slice aP nP cP, .slice aV nV cV, .bool h, .bool g]] w fun e w' => e = .returned (.bool true) ∧ Below w.heap.size w w' := by
  obtain ⟨w1, hw1⟩ : ∃ W, W = w.alloc (.cells #[.slice aP nP cP, .slice aV nV cV, .bool h, .bool g] tyStd) := ⟨_, rfl⟩
  have hb1 : Below w.heap.size w w1 := by rw [hw1]; exact bl_al (Below.refl _ _) _
  have hA : w1.heap[w.heap.size]? = some (.cells #[.slice aP nP cP, .slice aV nV cV, .bool h, .bool g] tyStd (0, 0)) := by rw [hw1]; exact heap_alloc_new w _
  obtain ⟨q, hq⟩ : ∃ q, q = w.heap.size := ⟨_, rfl⟩
  rw [← hq] at hA
  have c0 : w1.cell? ⟨q, 0, none⟩ = some (.slice aP nP cP) := by rw [cell_of_row w1 q 0 _ _ _ hA]; rfl
  have c1 : w1.cell? ⟨q, 1, none⟩ = some (.slice aV nV cV) := by rw [cell_of_row w1 q 1 _ _ _ hA]; rfl
  have c2 : w1.cell? ⟨q, 2, none⟩ = some (.bool h) := by rw [cell_of_row w1 q 2 _ _ _ hA]; rfl
  have c3 : w1.cell? ⟨q, 3, none⟩ = some (.bool g) := by rw [cell_of_row w1 q 3 _ _ _ hA]; rfl
  have HW := Lib.hid (And.intro hw1 hq)
  have HB := Lib.hid hb1
  have CF := Lib.hid (opens_c P V h g aP aV nP cP nV cV w1 (hP.below hb1) (hV.below hb1) hnP hnV)
  clear hw1 hb1 hA hq hP hV
  go_enter Try.func8, Try.ntmps8
  go_upto_region 1 with fail
  rw [show w.alloc (.cells #[.slice aP nP cP, .slice aV nV cV, .bool h, .bool g] tyStd) = w1 from HW.out.1.symm, ← HW.out.2]
  go_wp2_with fail
  refine CF.out.mono ?_
  rintro e w2 ⟨rfl, hb2⟩
  have HB2 := Lib.hid (bl_tr HB.out hb2)
  clear hb2 CF c0 c1 c2 c3
  go_wp2
  go_ret
  exact ⟨rfl, HB2.out⟩
end Go.Proofs.Ytndgdijiecgagaa
