/- The walk of QueueUrgent over the contracts of package queue's lanes. Conditions: the arguments came in. -/
import Derived.Test.YtdjeacmonlgdhaaQUa
namespace Go.Proofs.Ytdjeacmonlgdhaa
open Go Go.RowKit
set_option linter.unusedVariables false
set_option linter.unusedSimpArgs false

/-- Ints that came in. -/
structure IsIn (w : World) (ao : Option Addr) (n : Nat) (is : List Int) : Prop where
  len : is.length = n
  here : n = 0 ∨ ∃ b off, ao = some ⟨b, off, none⟩ ∧ ∀ j, j < n → w.cell? ⟨b, off + j, none⟩ = some (.int .i64 (is.getD j 0))
  range : ∀ j, j < n → -9223372036854775808 ≤ is.getD j 0 ∧ is.getD j 0 ≤ 9223372036854775807
theorem IsIn.below {w w' : World} {ao : Option Addr} {n : Nat} {is : List Int} (h : IsIn w ao n is) (hb : Below w.heap.size w w') : IsIn w' ao n is :=
  ⟨h.len, h.here.imp id (fun ⟨b, off, e, hc⟩ => ⟨b, off, e, fun j hj => cell_later hb (hc j hj)⟩), h.range⟩
theorem ris_cells {w : World} {vs : List Value} {ps : List (List Int)} (h : Ris w vs ps) : ∀ u ∈ vs, u.oneCell' = true := by
  intro u hu
  obtain ⟨j, hj, e⟩ := List.getElem_of_mem hu
  have hl := h.len
  obtain ⟨a, n, c, e2, _⟩ := h.at (j := j) (by omega)
  rw [List.getD_eq_getElem?_getD, List.getElem?_eq_getElem hj, Option.getD_some, e] at e2
  rw [e2]
  rfl
theorem RsIn.cells {w : World} {ao : Option Addr} {n cap : Nat} {us : List Value} {ps : List (List Int)} (h : RsIn w ao n cap us ps) : ∀ ad, ao = some ad → ∀ j u, us[j]? = some u → w.cell? (ad.add j) = some u := by
  intro ad e j u hu
  have hj : j < us.length := by
    rcases Nat.lt_or_ge j us.length with h | h
    · exact h
    · rw [List.getElem?_eq_none h] at hu; cases hu
  have h1 := h.rows.len
  have h2 := h.len
  obtain ⟨b, off, e2⟩ := h.block (by omega)
  subst e
  cases e2
  rw [Go.WideShapes.add_plain, h.cell (by omega), List.getD_eq_getElem?_getD, hu]
  rfl
theorem RsIn.zero' {w : World} {ao : Option Addr} {n cap : Nat} {us : List Value} {ps : List (List Int)} (h : RsIn w ao n cap us ps) : ao = none → n = 0 ∧ cap = 0 := fun e => by
  have h1 := h.zero e
  have h2 := h.room
  omega
theorem fits_all {n : Nat} (h : n ≤ 500) : fits 0 1000 n = n := by unfold fits; omega
set_option maxRecDepth 100000 in
set_option maxHeartbeats 4000000 in
theorem urgent_main (ao : Option Addr) (n c : Nat) (us : List Value) (qs : List (List Int)) (bo : Option Addr) (k d : Nat) (vs : List Value) (rs : List (List Int)) (tq : Option Addr) (tn tc : Nat) (is : List Int) (w : World) (hI : RsIn w ao n c us qs) (hJ : RsIn w bo k d vs rs) (hT : IsIn w tq tn is) (hn : n ≤ 500) (hk : k ≤ 500) (ht : tn ≤ 100) (hlq : ∀ p ∈ qs, p.length ≤ 4611686018427387904) (hlr : ∀ p ∈ rs, p.length ≤ 4611686018427387904) :
    Calls Try.prog 6 #[.slice ao n c, .slice bo k d, .slice tq tn tc] w fun e w' => e = .returned (.bool true) ∧ Below w.heap.size w w' := by
  obtain ⟨j0', hj0', hy0, hy1, hy2⟩ := info_parts info26
  have CA := Lib.hid (alive7_any w)
  have CN : Hid (∀ w, Calls Try.prog 24 #[.int .i64 1000] w fun e w' => ∃ l F, e = .returned (.tuple #[.pointer (some ⟨l, 0, none⟩), .nilIface]) ∧ LSt w' w.heap.size F l 1000 [] [] [] [] ∧ Below w.heap.size w w') := Lib.hid (fun w => newL_yes 1000 (by omega) w)
  have HI := Lib.hid hI
  have HJ := Lib.hid hJ
  have HT := Lib.hid hT
  have HQ := Lib.hid hlq
  have HR := Lib.hid hlr
  have en := errNe
  have i0 : ¬ (500 < (n : Int)) := by omega
  have i1 : ¬ (500 < (k : Int)) := by omega
  have i2 : ¬ (100 < (tn : Int)) := by omega
  clear hI hJ hT hlq hlr
  go_enter Try.func6, Try.ntmps6
  go_wp2_with fail
  refine CA.out.mono ?_
  rintro e w1 ⟨rfl, hb1⟩
  have HB1 := Lib.hid hb1
  have CS : Hid (Calls Try.prog 32 #[.slice ao n c, .int .i64 1048576] w1 fun e w' => ∃ s' : Nat, e = .returned (.int .i64 s') ∧ SumOut qs 1048576 s' ∧ w1 = w') := Lib.hid (sum_t us qs ao n c 1048576 w1 ((HI.out.below hb1).rsd) (by omega) (by omega) HQ.out)
  have CS2 : Hid (Calls Try.prog 32 #[.slice bo k d, .int .i64 1048576] w1 fun e w' => ∃ s' : Nat, e = .returned (.int .i64 s') ∧ SumOut rs 1048576 s' ∧ w1 = w') := Lib.hid (sum_t vs rs bo k d 1048576 w1 ((HJ.out.below hb1).rsd) (by omega) (by omega) HR.out)
  clear hb1 CA
  go_wp2_with fail
  refine CS.out.mono ?_
  rintro e w2 ⟨s, rfl, hso, rfl⟩
  clear CS
  go_wp2_with fail
  refine CS2.out.mono ?_
  rintro e w2 ⟨s2, rfl, hso2, rfl⟩
  clear CS2
  obtain ⟨T, hT⟩ : ∃ T : Nat, T = s + s2 := ⟨_, rfl⟩
  have hTb : T ≤ 2097152 := by rcases hso with h | h <;> rcases hso2 with h2 | h2 <;> omega
  have v1 : ∀ [Inhabited Nat], IntKind.i64.wrap ((s : Int) + (s2 : Int)) = (T : Int) := by intro _; rw [IntWalk.i64_in _ (by omega)]; omega
  by_cases hs2 : 262144 < T
  · have i3 : (262144 : Int) < (T : Int) := by omega
    clear hs2 hso hso2 hT hTb
    go_wp2
    go_ret
    exact ⟨rfl, HB1.out⟩
  · have i3 : ¬ ((262144 : Int) < (T : Int)) := by omega
    have HSQ : Hid (∀ p ∈ qs, p.length ≤ 1048576) := Lib.hid (fun p hp => by
      have h1 := tot_mem hp
      rcases hso with ⟨h2, h3⟩ | ⟨h2, h3⟩ <;> omega)
    have HSR : Hid (∀ p ∈ rs, p.length ≤ 1048576) := Lib.hid (fun p hp => by
      have h1 := tot_mem hp
      rcases hso2 with ⟨h2, h3⟩ | ⟨h2, h3⟩ <;> omega)
    clear hs2 hso hso2 hT hTb
    go_wp2_with fail
    refine (CN.out w1).mono ?_
    rintro e w2 ⟨l, F, rfl, hl, hb⟩
    have hl2 := hl.lower (B' := w.heap.size) HB1.out.size
    have hB2 := bl_tr HB1.out hb
    have hF := hl2.base
    have HF := Lib.hid (fun k hk => (hF k hk).1)
    have CP := Lib.hid (plain_t w.heap.size F l 1000 [] [] [] [] vs rs bo k d w2 hl2 hB2.size (fun w' hw' => (HJ.out.below (hB2.trans (hw'.below (fun k hk => (hF k hk).1) hB2.size))).rsp) (by omega) HSR.out)
    have HB2 := Lib.hid hB2
    clear hb HB1 hl hl2 hB2 hF CN
    have hfk : fits ([] : List (List Int)).length 1000 rs.length = k := by rw [HJ.out.len]; exact fits_all hk
    have hfn : fits ([] : List (List Int)).length 1000 qs.length = n := by rw [HI.out.len]; exact fits_all hn
    unfold LPla at CP
    rw [hfk] at CP
    clear hfk
    go_wp2_with fail
    refine CP.out.mono ?_
    rintro e w3 ⟨xs, rfl, hl3, ht3, _⟩
    have hl3' : LSt w3 w.heap.size F l 1000 [] [] xs rs := by
      have h := hl3
      rwa [List.nil_append, List.nil_append, List.take_of_length_le (by have := HJ.out.len; omega)] at h
    have hB3 := HB2.out.trans (ht3.below HF.out HB2.out.size)
    have hF := hl3'.base
    have CU := Lib.hid (urgent_t w.heap.size F l 1000 [] [] xs rs us qs ao n c w3 hl3' hB3.size (fun w' hw' => (HI.out.below (hB3.trans (hw'.below (fun k hk => (hF k hk).1) hB3.size))).rsp) (by omega) HSQ.out)
    have HB3 := Lib.hid hB3
    unfold LUrg at CU
    rw [hfn] at CU
    clear hl3 hl3' ht3 hB3 hF HB2 CP hfn
    go_wp2_with fail
    refine CU.out.mono ?_
    rintro e w4 ⟨ys, rfl, hl4, ht4, _⟩
    have hl4' : LSt w4 w.heap.size F l 1000 ys qs xs rs := by
      have h := hl4
      rwa [List.nil_append, List.nil_append, List.take_of_length_le (by have := HI.out.len; omega)] at h
    have hB4 := HB3.out.trans (ht4.below HF.out HB3.out.size)
    have hbl := hl4'.base
    have hyl : ys.length = n := by have := hl4'.urg.len; have := HI.out.len; omega
    have hxl : xs.length = k := by have := hl4'.pla.len; have := HJ.out.len; omega
    have hT4 : Tch Non w4 (w4.alloc (.cells #[] 42)) := tch_new (bl_al (Below.refl _ _) _)
    have hl5 := hl4'.keep hT4 (fun _ _ h => h)
    have U0 : Hid (UrI w (w4.alloc (.cells #[] 42)) F l ys qs xs rs 0 w4.heap.size 0) := Lib.hid ⟨by simpa using hl5, hl5.urg, hl5.pla, hl5.far, by simpa using own_base (World.ownsRow_made w4 #[] 0 (Nat.le_refl _) (by decide) rfl) hB4.size, fun h => Nat.lt_irrefl _ (hbl _ h).2, bl_al hB4 _⟩
    have HYL := Lib.hid hyl
    have HXL := Lib.hid hxl
    clear hl4 hl4' ht4 hB4 hbl hyl hxl hT4 hl5 HB3 CU
    obtain ⟨X, hX⟩ : ∃ X, X = w4.alloc (.cells #[] 42) := ⟨_, rfl⟩
    obtain ⟨g0, hg0⟩ : ∃ g, g = w4.heap.size := ⟨_, rfl⟩
    rw [← hX, ← hg0] at U0
    go_upto_region 9 with fail
    rw [← hX, ← hg0]
    clear hX hg0
    go_wp2
    go_loopw [9, 69] (fun v i wr => ∃ (j J g gc : Nat), j ≤ tn ∧ i = .int .i64 j ∧ v = .slice (some ⟨g, 0, none⟩) J gc ∧ Hid (UrI w wr F l ys qs xs rs J g gc)) (fun _ i _ => tn - (intOf i).toNat)
    case atStart => exact ⟨0, 0, g0, 0, by omega, rfl, rfl, U0⟩
    case round =>
      obtain ⟨j, J, g, gc, hj, rfl, rfl, HU⟩ := hrel
      clear U0
      have HJL : Hid (J ≤ n + k) := Lib.hid (by
        have h := HU.out.got.1
        rw [List.length_take, List.length_append, HYL.out, HXL.out] at h
        omega)
      by_cases hlj : j < tn
      · have hTr := HT.out.below HU.out.below
        rcases hTr.here with h0 | ⟨b, off, rfl, hcs⟩
        · omega
        have hcj := hcs j hlj
        have hra := hTr.range j hlj
        obtain ⟨num, hnum⟩ : ∃ num, num = is.getD j 0 := ⟨_, rfl⟩
        rw [← hnum] at hcj hra
        have ilj : (j : Int) < (tn : Int) := by omega
        have j0 : (0 : Int) ≤ (j : Int) := by omega
        have CT := Lib.hid (ltake_t w.heap.size F l 1000 _ _ _ _ num hra wr HU.out.st (by omega))
        obtain ⟨K, hK⟩ : ∃ K, K = tkn num ((qs.drop J).length + (rs.drop (J - ys.length)).length) := ⟨_, rfl⟩
        rw [← hK] at CT
        have HKB : Hid (K ≤ num.toNat ∧ K ≤ 1000) := Lib.hid (by
          rw [hK]
          unfold tkn
          rw [List.length_drop, List.length_drop]
          have := HI.out.len
          have := HJ.out.len
          omega)
        clear hcs hTr hra hnum hK
        go_upto_region 12 with fail
        go_wp2_with fail
        refine CT.out.mono ?_
        rintro e w5 ⟨ta, tc5, rfl, ho5, hL5, ht5⟩
        have HG5 := Lib.hid (ht5.own HU.out.got (fun k hk => by rw [ob hk]; exact HU.out.gf))
        have HO5 := Lib.hid ho5
        have HL5 := Lib.hid hL5
        have HT5 := Lib.hid ht5
        have HB5 : Hid (w.heap.size ≤ w5.heap.size) := Lib.hid (Nat.le_trans HU.out.below.size ht5.size)
        have HC5 : Hid (∀ u ∈ (ys.drop J ++ xs.drop (J - ys.length)).take K, u.oneCell' = true) := Lib.hid (fun u hu => by
          have hm := List.mem_of_mem_take hu
          rcases List.mem_append.1 hm with hm | hm
          · exact rws_cells HU.out.urg u (List.mem_of_mem_drop hm)
          · exact rws_cells HU.out.pla u (List.mem_of_mem_drop hm))
        clear ho5 hL5 ht5 CT hcj
        by_cases hneg : num < 0
        case' pos => have hmx : ¬ ((0 : Int) < (K : Int)) := by have := HKB.out.1; omega
        case' neg => have hmx : ¬ (num < (K : Int)) := by have := HKB.out.1; omega
        all_goals
          go_wp2_with (at_builtin; refine append_some rfl (.tmp 81) (.tmp 82) 33 rfl w.heap.size 42 j0' (.slice none 0 0) 1 24 Try.underlying33 hj0' hy0 hy1 hy2 rfl (by decide) g J gc _ rfl HG5.out ta K tc5 _ rfl (own_none HO5.out) ?c1 (own_cells HO5.out) HC5.out ?c2 ?c3 HB5.out ?_)
          case c1 => have := HO5.out.1; omega
          case c2 => unfold maxLen; have := HJL.out; have := HKB.out.2; omega
          case c3 => have := HJL.out; have := HKB.out.2; omega
          intro g8 c8 w8 hown htc hat
          have HU8 := Lib.hid (HU.out.took HL5.out HT5.out hown htc hat)
          clear hown htc hat HL5 HT5 HO5 HG5 HB5 HC5 HU HKB hmx HJL
          go_wp2
          go_roundw
          case rel => exact ⟨j + 1, J + K, g8, c8, by omega, by go_num, rfl, HU8⟩
          case measure => simp [intOf]; omega
      · have ilj : ¬ ((j : Int) < (tn : Int)) := by omega
        have CT := Lib.hid (ltake_t w.heap.size F l 1000 _ _ _ _ 2000 (by omega) wr HU.out.st (by omega))
        obtain ⟨K, hK⟩ : ∃ K, K = tkn 2000 ((qs.drop J).length + (rs.drop (J - ys.length)).length) := ⟨_, rfl⟩
        rw [← hK] at CT
        have HKB : Hid (J + K = n + k) := Lib.hid (by
          rw [hK]
          unfold tkn
          rw [List.length_drop, List.length_drop]
          have := HI.out.len
          have := HJ.out.len
          have := HYL.out
          have := HJL.out
          omega)
        clear hK
        go_upto_region 17 with fail
        go_wp2_with fail
        refine CT.out.mono ?_
        rintro e w5 ⟨ta, tc5, rfl, ho5, hL5, ht5⟩
        have HG5 := Lib.hid (ht5.own HU.out.got (fun k hk => by rw [ob hk]; exact HU.out.gf))
        have HO5 := Lib.hid ho5
        have HL5 := Lib.hid hL5
        have HT5 := Lib.hid ht5
        have HB5 : Hid (w.heap.size ≤ w5.heap.size) := Lib.hid (Nat.le_trans HU.out.below.size ht5.size)
        have HC5 : Hid (∀ u ∈ (ys.drop J ++ xs.drop (J - ys.length)).take K, u.oneCell' = true) := Lib.hid (fun u hu => by
          have hm := List.mem_of_mem_take hu
          rcases List.mem_append.1 hm with hm | hm
          · exact rws_cells HU.out.urg u (List.mem_of_mem_drop hm)
          · exact rws_cells HU.out.pla u (List.mem_of_mem_drop hm))
        clear ho5 hL5 ht5 CT
        go_wp2_with (at_builtin; refine append_some rfl (.tmp 85) (.tmp 87) 33 rfl w.heap.size 42 j0' (.slice none 0 0) 1 24 Try.underlying33 hj0' hy0 hy1 hy2 rfl (by decide) g J gc _ rfl HG5.out ta K tc5 _ rfl (own_none HO5.out) ?f1 (own_cells HO5.out) HC5.out ?f2 ?f3 HB5.out ?_)
        case f1 => have := HO5.out.1; omega
        case f2 => unfold maxLen; have := HKB.out; omega
        case f3 => have := HKB.out; omega
        intro g8 c8 w8 hown htc hat
        have HU8 := Lib.hid (HU.out.took HL5.out HT5.out hown htc hat)
        obtain ⟨N, hN⟩ : ∃ N, N = J + K := ⟨_, rfl⟩
        rw [← hN] at HU8 HKB
        rw [← hN]
        clear hN hown htc hat HL5 HT5 HO5 HG5 HB5 HC5 HU HJL
        have hst := HU8.out.st
        rw [List.drop_eq_nil_of_le (show ys.length ≤ N by have := HYL.out; have := HKB.out; omega), List.drop_eq_nil_of_le (show qs.length ≤ N by have := HI.out.len; have := HKB.out; omega), List.drop_eq_nil_of_le (show xs.length ≤ N - ys.length by have := HYL.out; have := HXL.out; have := HKB.out; omega), List.drop_eq_nil_of_le (show rs.length ≤ N - ys.length by have := HYL.out; have := HJ.out.len; have := HKB.out; omega)] at hst
        have CG := Lib.hid (lget0_t w.heap.size F l 1000 w8 hst)
        have hgot := HU8.out.got
        rw [List.take_of_length_le (show (ys ++ xs).length ≤ N by rw [List.length_append]; have := HYL.out; have := HXL.out; have := HKB.out; omega)] at hgot
        have HE8 : Hid (Rsd w8 (some ⟨g8, 0, none⟩) N (ys ++ xs) (qs ++ rs)) := Lib.hid (rsd_own hgot (HU8.out.urg.app HU8.out.pla))
        have HB8 := Lib.hid HU8.out.below
        clear hst hgot HU8
        go_wp2_with fail
        refine CG.out.mono ?_
        rintro e w9 ⟨rfl, ht9⟩
        have hb9 : Below w8.heap.size w8 w9 := ht9.below (fun _ h => h.elim) (Nat.le_refl _)
        have HE9 := Lib.hid (HE8.out.below hb9)
        have HB9 := Lib.hid (HB8.out.trans (hb9.mono HB8.out.size))
        clear ht9 hb9 CG HE8 HB8
        have hbX := bl_al (Below.refl w9.heap.size w9) (.cells #[] 42)
        have HO9 : Hid ((w9.alloc (.cells #[] 42)).ownsRow w9.heap.size 42 1 (.slice (some ⟨w9.heap.size, 0, none⟩) 0 0) 0 []) := Lib.hid (World.ownsRow_made w9 #[] 0 (Nat.le_refl _) (by decide) rfl)
        have HIX := Lib.hid (HI.out.below (HB9.out.trans (hbX.mono HB9.out.size)))
        have HBX := Lib.hid hbX
        have HZ1 := Lib.hid HI.out.zero'
        have HZ2 := Lib.hid HJ.out.zero'
        have HC1 := Lib.hid (ris_cells HI.out.rows)
        have HC2 := Lib.hid (ris_cells HJ.out.rows)
        clear hbX
        go_wp2_with (at_builtin; refine append_some rfl (.tmp 95) (.tmp 96) 33 rfl w9.heap.size 42 j0' (.slice none 0 0) 1 24 Try.underlying33 hj0' hy0 hy1 hy2 rfl (by decide) w9.heap.size 0 0 _ rfl HO9.out ao n c us rfl HZ1.out ?x1 HIX.out.cells HC1.out ?x2 ?x3 ?x4 ?_)
        case x1 => have h1 := HI.out.rows.len; have h2 := HI.out.len; omega
        case x2 => unfold maxLen; omega
        case x3 => omega
        case x4 => exact HBX.out.size
        intro gA cA wA howA htA hatA
        have howA' : wA.ownsRow w9.heap.size 42 1 (.slice (some ⟨gA, 0, none⟩) n cA) n us := by simpa using howA
        have hbA : Below w9.heap.size w9 wA := HBX.out.trans (htA.below (fun k hk => by omega) HBX.out.size)
        have HOA := Lib.hid howA'
        have HBA := Lib.hid hbA
        have HJA := Lib.hid (HJ.out.below (HB9.out.trans (hbA.mono HB9.out.size)))
        have HGA : Hid (w9.heap.size ≤ gA) := Lib.hid (howA'.lt gA rfl).1
        clear howA htA hatA howA' hbA HO9 HIX HBX
        go_wp2_with (at_builtin; refine append_some rfl (.tmp 97) (.tmp 98) 33 rfl w9.heap.size 42 j0' (.slice none 0 0) 1 24 Try.underlying33 hj0' hy0 hy1 hy2 rfl (by decide) gA n cA _ rfl HOA.out bo k d vs rfl HZ2.out ?y1 HJA.out.cells HC2.out ?y2 ?y3 ?y4 ?_)
        case y1 => have h1 := HJ.out.rows.len; have h2 := HJ.out.len; omega
        case y2 => unfold maxLen; omega
        case y3 => omega
        case y4 => exact HBA.out.size
        intro gB cB wB howB htB hatB
        have hbB : Below w9.heap.size w9 wB := HBA.out.trans (htB.below (fun k hk => by have := HGA.out; omega) HBA.out.size)
        have HRW := Lib.hid (rsd_put (w0 := w) howB (HI.out.rows.app HJ.out.rows) (HB9.out.trans (hbB.mono HB9.out.size)))
        have HRG := Lib.hid (HE9.out.below hbB)
        have HBB := Lib.hid (HB9.out.trans (hbB.mono HB9.out.size))
        have hNk : N = n + k := HKB.out
        subst hNk
        have CW := Lib.hid (rows_t (ys ++ xs) (us ++ vs) (qs ++ rs) (qs ++ rs) (some ⟨g8, 0, none⟩) (some ⟨gB, 0, none⟩) (n + k) c8 (n + k) cB wB HRG.out HRW.out (by omega) true (by simp))
        obtain ⟨N, hN⟩ : ∃ N, N = n + k := ⟨_, rfl⟩
        rw [← hN] at CW
        rw [← hN]
        clear hN hbB howB htB hatB HOA HBA HJA HGA
        go_wp2_with fail
        refine CW.out.mono ?_
        rintro e wC ⟨rfl, hbC⟩
        have HBC := Lib.hid (bl_tr HBB.out hbC)
        clear hbC CW HBB
        go_wp2
        go_ret
        exact ⟨rfl, HBC.out⟩
end Go.Proofs.Ytdjeacmonlgdhaa
