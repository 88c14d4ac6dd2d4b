/- The walk of QueueOrders over the contracts of package queue, in full. Conditions: the arguments came in. -/
import Derived.Test.YtdjeacmonlgdhaaQOr
namespace Go.Proofs.Ytdjeacmonlgdhaa
open Go Go.RowKit
set_option linter.unusedVariables false
set_option linter.unusedSimpArgs false

set_option maxRecDepth 100000 in
set_option maxHeartbeats 4000000 in
theorem orders_main (size : Nat) (hs : size ≤ 300) (ao : Option Addr) (n c : Nat) (us : List Value) (qs : List (List Int)) (bo : Option Addr) (bn bc : Nat) (bs : List Bool) (w : World) (hI : RsIn w ao n c us qs) (hJ : BsIn w bo bn bs) (hn : n ≤ 2000) (hl : ∀ p ∈ qs, p.length ≤ 4611686018427387904) (hbn : bn ≤ 4611686018427387904) :
    Calls Try.prog 5 #[.int .i64 size, .slice ao n c, .slice bo bn bc] w fun e w' => e = .returned (.bool true) ∧ Below w.heap.size w w' := by
  obtain ⟨j0', hj0', hy0, hy1, hy2⟩ := info_parts info26
  have CA := Lib.hid (alive7_any w)
  have CN := Lib.hid (fun w => new_yes size (by omega) w)
  have HI := Lib.hid hI
  have HJ := Lib.hid hJ
  have HL := Lib.hid hl
  have en := errNe
  have i0 : ¬ ((size : Int) < 0) := by omega
  have i1 : ¬ (300 < (size : Int)) := by omega
  have i2 : ¬ (2000 < (n : Int)) := by omega
  clear hI hJ hl
  go_enter Try.func5, Try.ntmps5
  go_wp2_with fail
  refine CA.out.mono ?_
  rintro e w1 ⟨rfl, hb1⟩
  have HB1 := Lib.hid hb1
  have CS : Hid (Calls Try.prog 32 #[.slice ao n c, .int .i64 1048576] w1 fun e w' => ∃ s' : Nat, e = .returned (.int .i64 s') ∧ SumOut qs 1048576 s' ∧ w1 = w') := Lib.hid (sum_t us qs ao n c 1048576 w1 ((HI.out.below hb1).rsd) (by omega) (by omega) HL.out)
  clear hb1 CA
  go_wp2_with fail
  refine CS.out.mono ?_
  rintro e w2 ⟨s, rfl, hso, rfl⟩
  clear CS
  by_cases hs2 : 262144 < s
  · have i3 : (262144 : Int) < (s : Int) := by omega
    clear hs2 hso
    go_wp2
    go_ret
    exact ⟨rfl, HB1.out⟩
  · have i3 : ¬ ((262144 : Int) < (s : Int)) := by omega
    have HSH : Hid (∀ p ∈ qs, p.length ≤ 1048576) := Lib.hid (fun p hp => by
      have h1 := tot_mem hp
      rcases hso with ⟨h2, h3⟩ | ⟨h2, h3⟩ <;> omega)
    clear hs2 hso
    go_wp2_with fail
    refine (CN.out w1).mono ?_
    rintro e w2 ⟨q, F, rfl, hq, hb⟩
    have HQ2 := Lib.hid (hq.lower HB1.out.size)
    have HB2 := Lib.hid (bl_tr HB1.out hb)
    clear hb HB1 hq CN
    obtain ⟨X, hX⟩ : ∃ X, X = (w2.alloc (.cells #[] 42)).alloc (.cells #[] 42) := ⟨_, rfl⟩
    have hT2 : Tch Non w2 X := by rw [hX]; exact tch_new (bl_al (bl_al (Below.refl _ _) _) _)
    have O0 : Hid (OrI w X F q size (some ⟨w2.heap.size, 0, none⟩) 0 0 [] (some ⟨w2.heap.size + 1, 0, none⟩) 0 0 [] [] [] []) := Lib.hid (by
      have hs1 : (w2.alloc (.cells #[] 42)).heap.size = w2.heap.size + 1 := by simp
      have hsX : X.heap.size = w2.heap.size + 2 := by rw [hX]; simp
      have hF := HQ2.out.base
      refine ⟨HQ2.out.keep hT2 (fun _ _ h => h) (fun _ _ _ _ h => h), ?_, trivial, ?_, trivial, ⟨fun k hk hk2 => ?_, (fun r hr => by cases hr), (fun r hr => by cases hr), List.Pairwise.nil, fun k hk hf => ?_, fun k hk hf => ?_, (fun r hr => by cases hr), fun k hk => ?_, fun k hk => ?_, (fun r hr => by cases hr), fun k hk => ?_⟩, HB2.out.trans (hT2.below (fun _ h => h.elim) HB2.out.size), (fun p hp => by cases hp)⟩
      · rw [hX]; exact own_base ((World.ownsRow_made w2 #[] 0 (Nat.le_refl _) (by decide) rfl).alloc _) HB2.out.size
      · rw [hX, ← hs1]; exact own_base (World.ownsRow_made (w2.alloc (.cells #[] 42)) #[] 0 (Nat.le_refl _) (by decide) rfl) (by have := HB2.out.size; omega)
      · have := ob hk; have := ob hk2; omega
      · have := ob hk; have := (hF _ hf).2; omega
      · have := ob hk; have := (hF _ hf).2; omega
      · have := ob hk; omega
      · have := ob hk; omega
      · have := (hF k hk).2; omega)
    obtain ⟨g1, hg1⟩ : ∃ g, g = w2.heap.size := ⟨_, rfl⟩
    obtain ⟨g2, hg2⟩ : ∃ g, g = w2.heap.size + 1 := ⟨_, rfl⟩
    rw [← hg2, ← hg1] at O0
    go_upto_region 9 with fail
    rw [← hX, ← hg2, ← hg1]
    clear hX hT2 hg1 hg2 HB2 HQ2
    go_wp2
    go_loopw [9, 10, 49] (fun pv gv i wr => ∃ (j : Nat) (pa : Option Addr) (np pc : Nat) (pvs : List Value) (gg ng gc : Nat) (gvs : List Value) (gps : List (List Int)) (vs : List Value) (ps : List (List Int)), j ≤ n ∧ i = .int .i64 j ∧ pv = .slice pa np pc ∧ gv = .slice (some ⟨gg, 0, none⟩) ng gc ∧ np ≤ j ∧ Hid (OrI w wr F q size pa np pc pvs (some ⟨gg, 0, none⟩) ng gc gvs gps vs ps)) (fun _ _ i _ => n - (intOf i).toNat)
    case atStart => exact ⟨0, _, 0, 0, [], _, 0, 0, [], [], [], [], by omega, rfl, rfl, rfl, by omega, O0⟩
    case round =>
      obtain ⟨j, pa, np, pc, pvs, gg, ng, gc, gvs, gps, vs, ps, hj, rfl, rfl, rfl, hnp, HO⟩ := hrel
      clear O0
      by_cases hlj : j < n
      · have hIr := HI.out.below HO.out.below
        obtain ⟨b, off, rfl⟩ := HI.out.block (by omega)
        have hcj := hIr.cell hlj
        have hjp : j < qs.length := by rw [HI.out.len]; exact hlj
        obtain ⟨a1, k1, c1, he1, hi1⟩ := HI.out.rows.at hjp
        rw [he1] at hcj
        have hp1 := HSH.out (qs.getD j []) (by rw [List.getD_eq_getElem?_getD, List.getElem?_eq_getElem hjp]; exact List.getElem_mem hjp)
        obtain ⟨p, hpp⟩ : ∃ p, p = qs.getD j [] := ⟨_, rfl⟩
        rw [← hpp] at hi1 hp1
        have ilj : (j : Int) < (n : Int) := by omega
        have j0 : (0 : Int) ≤ (j : Int) := by omega
        have hFb : ∀ x, F x → w.heap.size ≤ x ∧ x < wr.heap.size := HO.out.qs.base
        have hal : Tch Non wr (wr.alloc (.cells #[.slice a1 k1 c1] 42)) := tch_new (bl_al (Below.refl _ _) _)
        have CP := Lib.hid (put_t w.heap.size F q size vs [.slice a1 k1 c1] ps [p] (some ⟨wr.heap.size, 0, none⟩) 1 1 (wr.alloc (.cells #[.slice a1 k1 c1] 42)) (HO.out.same hal).qs (Nat.le_trans HO.out.below.size hal.size) (fun U hU => rsp_one HO.out.below hFb hi1 U hU) (by omega) (fun x hx => by rw [List.mem_singleton] at hx; rw [hx]; exact hp1))
        have HIN := Lib.hid hi1
        have HP1 := Lib.hid hp1
        have HAL := Lib.hid hal
        have HFB := Lib.hid hFb
        clear hIr he1 hi1 hp1 hpp hjp hFb hal
        go_wp2_with fail
        refine CP.out.mono ?_
        rintro e w5 ⟨xs, rfl, hQ5, ht5, hu5⟩
        have HT5 := Lib.hid ((HAL.out.mono (fun _ h => h.elim)).trans ht5)
        have HU5 := Lib.hid (show ∀ x ∈ xs, ∀ k, x.ownBlock = some k → wr.heap.size ≤ k from fun x hx k hk => Nat.le_trans HAL.out.size (hu5 x hx k hk))
        have hle5 := hQ5.le
        have hle0 := HO.out.qs.le
        by_cases hr : ps.length < size
        case' pos =>
          have hf : fits ps.length size [p].length = 1 := by unfold fits; simp; omega
          rw [hf] at hQ5
          rw [hf]
          have hQ5' : QSt w5 w.heap.size F q size (vs ++ xs) (ps ++ [p]) := hQ5
          have CL : Hid (Calls Try.prog 22 #[.pointer (some ⟨q, 0, none⟩)] w5 fun e w' => e = .returned (.int .i64 ((ps.length + 1 : Nat) : Int)) ∧ Tch Non w5 w') := Lib.hid (by
            have h := len_t w.heap.size F q size (vs ++ xs) (ps ++ [p]) w5 hQ5'
            rwa [List.length_append] at h)
          have HQ5 := Lib.hid hQ5'
          have il : ¬ ((size : Int) < ((ps.length + 1 : Nat) : Int)) := by omega
          obtain ⟨L, hL⟩ : ∃ L : Nat, L = ps.length + 1 := ⟨_, rfl⟩
          rw [← hL] at CL il
          clear hL hf hQ5 hQ5' ht5 hu5 CP hle5 hle0 hr
          go_wp2_with fail
          refine CL.out.mono ?_
          rintro e w6 ⟨rfl, ht6⟩
          have HT6 := Lib.hid ht6
          have hp6 := ht6.own (HT5.out.own HO.out.put HO.out.liv.pf) (fun _ _ h => h)
          have HP6 := Lib.hid hp6
          have hs6 := ht6.size
          have hB6 : w.heap.size ≤ w6.heap.size := Nat.le_trans (Nat.le_trans HO.out.below.size HT5.out.size) hs6
          have HB6 := Lib.hid hB6
          have hnp' : np ≤ 2000 := by omega
          clear ht6 hp6 hs6 hB6 CL
          go_wp2_with (at_builtin; refine wpList_append_lies _ rfl (.tmp 82) (.tmp 84) 33 rfl w.heap.size 42 j0' (.slice none 0 0) 1 24 Try.underlying33 hj0' hy0 hy1 hy2 rfl (by decide) _ np pvs rfl (HP6.out.alloc _) ⟨w6.heap.size, 0, none⟩ 1 1 [.slice a1 k1 c1] rfl rfl (cell_one_new w6 _ _) ?c1 (by decide) ?c2 ?c3 ?c4 _ rfl ?_)
          case c1 => first | rfl | (intro u hu; simp at hu; subst hu; rfl)
          case c2 => unfold maxLen; omega
          case c3 => omega
          case c4 => have := HB6.out; simp; omega
          intro g8 c8 w8 hown hg hlie hlt
          have ha6 : Tch Non w6 (w6.alloc (.cells #[.slice a1 k1 c1] 42)) := tch_new (bl_al (Below.refl _ _) _)
          have HO8 := Lib.hid (HO.out.took HQ5.out HT5.out HU5.out (w8 := w8) hown ((((HT6.out.trans ha6)).mono (fun _ h => h.elim)).trans ((tch_grown hg).mono (fun k hk => hk.symm))) (fun k hk => by
            have hkg := ob hk
            subst hkg
            rcases hlie with h | h
            · exact .inl h
            · refine .inr ⟨?_, hlt⟩
              have h1 := HT6.out.size
              have h2 := ha6.size
              omega) ⟨a1, k1, c1, rfl, HIN.out⟩ HP1.out)
          have hnp8 : np + 1 ≤ j + 1 := by omega
          clear hown hg hlie hlt ha6 HP6 HT6 HQ5 HB6 il hnp hnp'
        case' neg =>
          have hf : fits ps.length size [p].length = 0 := by unfold fits; omega
          rw [hf] at hQ5
          rw [hf]
          have hxl : xs = [] := by
            have h := hQ5.rows.len
            have h2 := HO.out.qs.rows.len
            simp at h
            exact List.eq_nil_of_length_eq_zero (by omega)
          subst hxl
          have hQ5' : QSt w5 w.heap.size F q size vs ps := by simpa using hQ5
          have CL : Hid (∀ U, Tch Non w5 U → Calls Try.prog 22 #[.pointer (some ⟨q, 0, none⟩)] U fun e w' => e = .returned (.int .i64 size) ∧ Tch Non U w') := Lib.hid (fun U hU => by
            have h := len_t w.heap.size F q size vs ps U (hQ5'.keep hU (fun _ _ h => h) (fun _ _ _ _ h => h))
            rwa [show ps.length = size by omega] at h)
          have HQ5 := Lib.hid hQ5'
          clear hf hQ5 hQ5' ht5 hu5 CP hle5 hle0 hr
          go_wp2_with fail
          refine (CL.out w5 (Tch.refl _ _)).mono ?_
          rintro e w6 ⟨rfl, ht6⟩
          have HT6 := Lib.hid ht6
          clear ht6
          go_wp2_with fail
          refine (CL.out w6 HT6.out).mono ?_
          rintro e w8 ⟨rfl, ht8⟩
          have hTW := HT5.out.trans ((HT6.out.trans ht8).mono (fun _ h => h.elim))
          have HO8 : Hid (OrI w w8 F q size pa np pc pvs (some ⟨gg, 0, none⟩) ng gc gvs gps vs ps) := Lib.hid ⟨HQ5.out.keep (HT6.out.trans ht8) (fun _ _ h => h) (fun _ _ _ _ h => h), hTW.own HO.out.put HO.out.liv.pf, HO.out.prow, hTW.own HO.out.got HO.out.liv.gf, HO.out.grow.keep hTW (fun x hx k hk => HO.out.liv.rf x (List.mem_append_left _ hx) k hk), HO.out.liv.grow hTW.size, HO.out.below.trans (hTW.below (fun k hk => (HFB.out k hk).1) HO.out.below.size), HO.out.short⟩
          have hnp8 : np ≤ j + 1 := by omega
          clear hTW ht8 CL HT6 HQ5 hnp
        all_goals
          clear HT5 HU5 HAL HFB HIN HP1 HO hcj
          obtain ⟨pvs9, vs9, ps9, HO9⟩ : ∃ a b c, Hid (OrI w w8 F q size _ _ _ a (some ⟨gg, 0, none⟩) ng gc gvs gps b c) := ⟨_, _, _, HO8⟩
          clear HO8
          have hcnt := HO9.out.count
          have hn9 := HO9.out.below
          have HJW := Lib.hid (HJ.out.below hn9)
          clear hn9
          by_cases hjb : j < bn
          · have ijb : (j : Int) < (bn : Int) := by omega
            rcases HJW.out.here with h0 | ⟨b2, off2, rfl, hcb⟩
            · omega
            have hcj := hcb j hjb
            clear hcb hjb
            cases hbv : bs.getD j false with
            | true =>
              rw [hbv] at hcj
              clear hbv
              cases ps9 with
              | nil =>
                have hv9 : vs9 = [] := List.eq_nil_of_length_eq_zero HO9.out.qs.rows.len
                subst hv9
                have CG := Lib.hid (get0_t w.heap.size F q size w8 HO9.out.qs)
                go_upto_region 18 with fail
                go_wp2_with fail
                refine CG.out.mono ?_
                rintro e w9 ⟨rfl, ht9⟩
                have HOA := Lib.hid (HO9.out.same ht9)
                clear ht9 CG hcj HO9 HJW
                go_wp2
                go_roundw
                case rel => exact ⟨j + 1, _, _, _, _, _, _, _, _, _, _, _, by omega, by go_num, rfl, rfl, hnp8, HOA⟩
                case measure => simp [intOf]; omega
              | cons y pt =>
                have hv1 := HO9.out.qs.rows.len
                cases vs9 with
                | nil => cases hv1
                | cons v vt =>
                have CG := Lib.hid (get_t w.heap.size F q size v vt y pt w8 HO9.out.qs)
                have hcn2 := HO9.out.lens
                go_upto_region 18 with fail
                go_wp2_with fail
                refine CG.out.mono ?_
                rintro e w9 ⟨rfl, hQA, htA, hoA⟩
                have hgA := htA.own HO9.out.got HO9.out.liv.gf
                have HGA := Lib.hid hgA
                have HQA := Lib.hid hQA
                have HTA := Lib.hid htA
                have hBA : w.heap.size ≤ w9.heap.size := Nat.le_trans HO9.out.below.size htA.size
                have HBA := Lib.hid hBA
                obtain ⟨av, cv, hav⟩ := own_form hoA
                have hng : ng ≤ 2000 := by omega
                subst hav
                clear hgA hQA htA hBA hoA CG hcj HJW
                go_wp2_with (at_builtin; refine wpList_append_lies _ rfl (.tmp 102) (.tmp 104) 33 rfl w.heap.size 42 j0' (.slice none 0 0) 1 24 Try.underlying33 hj0' hy0 hy1 hy2 rfl (by decide) _ ng gvs rfl (HGA.out.alloc _) ⟨w9.heap.size, 0, none⟩ 1 1 [.slice av y.length cv] rfl rfl (cell_one_new w9 _ _) ?d1 (by decide) ?d2 ?d3 ?d4 _ rfl ?_)
                case d1 => first | rfl | (intro u hu; simp at hu; subst hu; rfl)
                case d2 => unfold maxLen; omega
                case d3 => omega
                case d4 => have := HBA.out; simp; omega
                intro gA cA wA hown hg hlie hlt
                have ha9 : Tch Non w9 (w9.alloc (.cells #[.slice av y.length cv] 42)) := tch_new (bl_al (Below.refl _ _) _)
                have HOA := Lib.hid (HO9.out.gave HQA.out HTA.out (w8 := wA) hown ((ha9.mono (fun _ h => h.elim)).trans ((tch_grown hg).mono (fun k hk => hk.symm))) (fun k hk => by
                  have hkg := ob hk
                  subst hkg
                  rcases hlie with h | h
                  · exact .inl h
                  · refine .inr ⟨?_, hlt⟩
                    have h2 := ha9.size
                    omega))
                have hcA := HOA.out.count
                clear hown hg hlie hlt ha9 HGA HQA HTA HBA HO9 hcnt hcn2 hv1
                go_wp2
                go_roundw
                case rel => exact ⟨j + 1, _, _, _, _, _, _, _, _, _, _, _, by omega, by go_num, rfl, rfl, hnp8, HOA⟩
                case measure => simp [intOf]; omega
            | false =>
              rw [hbv] at hcj
              clear hbv HJW
              go_wp2
              go_roundw
              case rel => exact ⟨j + 1, _, _, _, _, _, _, _, _, _, _, _, by omega, by go_num, rfl, rfl, hnp8, HO9⟩
              case measure => simp [intOf]; omega
          · have ijb : ¬ ((j : Int) < (bn : Int)) := by omega
            clear HJW
            go_wp2
            go_roundw
            case rel => exact ⟨j + 1, _, _, _, _, _, _, _, _, _, _, _, by omega, by go_num, rfl, rfl, hnp8, HO9⟩
            case measure => simp [intOf]; omega
      · have ilj : ¬ ((j : Int) < (n : Int)) := by omega
        have hlen := HO.out.lens
        have hle := HO.out.qs.le
        have CD := Lib.hid (drain_t w.heap.size F q size vs ps wr HO.out.qs (by omega))
        have hnp2 : np ≤ 2000 := by omega
        clear hlj hnp
        go_upto_region 24 with fail
        go_wp2_with fail
        refine CD.out.mono ?_
        rintro e w5 ⟨da, dc, rfl, ho5, hQ5, ht5⟩
        have hg5 := ht5.own HO.out.got HO.out.liv.gf
        have hv1 := HO.out.qs.rows.len
        have hv2 := ho5.1
        have hdz : da = none → ps.length = 0 ∧ dc = 0 := fun e => by
          rcases ho5.2 with ⟨h, h0⟩ | ⟨g, cap, cur, h, _⟩
          · exact ⟨h0, (Value.slice.inj h).2.2⟩
          · have := (Value.slice.inj h).1
            rw [e] at this
            cases this
        have hdc : ∀ ad, da = some ad → ∀ j u, vs[j]? = some u → w5.cell? (ad.add j) = some u := fun ad e j u hu => own_cells ho5 ad e j u hu
        have HDZ := Lib.hid hdz
        have HDC := Lib.hid hdc
        have HV1 := Lib.hid hv1
        have hso1 : Hid (∀ u ∈ vs, u.oneCell' = true) := Lib.hid (rws_cells HO.out.qs.rows)
        have HG5 := Lib.hid hg5
        have HB5 := Lib.hid (show w.heap.size ≤ w5.heap.size from Nat.le_trans HO.out.below.size ht5.size)
        have HFI : Hid (∀ (w8 : World) (g8 c8 : Nat), w8.ownsRow w.heap.size 42 1 (.slice (some ⟨g8, 0, none⟩) (ng + ps.length) c8) (ng + ps.length) (gvs ++ vs) → Tch (fun k => (Value.slice (some ⟨gg, 0, none⟩) ng gc).ownBlock = some k) w5 w8 → OrE w w8 F q size pa np pc pvs g8 (ng + ps.length) c8 (gvs ++ vs) (gps ++ ps)) := Lib.hid (fun w8 g8 c8 h8 ht8 => HO.out.fin hQ5 ht5 h8 ht8)
        clear hg5 ht5 hQ5 ho5 hdz hdc hv1 CD HO
        cases da with
        | none =>
          obtain ⟨hz1, rfl⟩ := HDZ.out rfl
          have hps : ps = [] := List.eq_nil_of_length_eq_zero hz1
          subst hps
          have hvs : vs = [] := List.eq_nil_of_length_eq_zero (by have := HV1.out; simpa using this)
          subst hvs
          have HE : Hid (OrE w w5 F q size pa np pc pvs gg ng gc gvs gps) := Lib.hid (by
            have h := HFI.out w5 gg gc (by simpa using HG5.out) (Tch.refl _ _)
            simpa using h)
          clear HFI HDC HDZ hz1 HV1 hlen hle
          go_wp2_with (at_builtin; refine wpList_append_own_none rfl (.tmp 112) (.tmp 114) 33 rfl w.heap.size 42 j0' 1 Try.underlying33 hj0' _ ng gvs rfl HG5.out rfl ?_)
          obtain ⟨N, hN⟩ : ∃ N, N = ng := ⟨_, rfl⟩
          have hN2 : N ≤ 2000 := by have := HE.out.count; omega
          rw [← hN] at HE
          rw [← hN]
          have CR := Lib.hid (HE.out.rows_t (by omega))
          clear hN
          go_wp2_with fail
          refine CR.out.mono ?_
          rintro e wa ⟨rfl, hba⟩
          have HE2 := Lib.hid (HE.out.same (tch_new hba))
          have CL := Lib.hid (len_t w.heap.size F q size [] [] wa HE2.out.qs)
          clear hba CR HE
          go_wp2_with fail
          refine CL.out.mono ?_
          rintro e wb ⟨rfl, htb⟩
          have HE3 := Lib.hid (HE2.out.same htb)
          have CP := Lib.hid (HE3.out.apart_t (by omega))
          clear htb CL HE2
          go_wp2_with fail
          refine CP.out.mono ?_
          rintro e wc ⟨rfl, hbc⟩
          have HBC := Lib.hid (HE3.out.below.trans hbc)
          clear hbc CP HE3
          go_wp2
          go_ret
          exact ⟨rfl, HBC.out⟩
        | some ad =>
          obtain ⟨m, hm⟩ : ∃ m, m = ps.length := ⟨_, rfl⟩
          have HS1 : Hid (∀ u ∈ vs, u.oneCell' = true) := Lib.hid hso1.out
          rw [← hm] at HFI HV1 hlen hle
          rw [← hm]
          rw [hlen.1] at HFI
          clear HDZ hm hso1
          go_wp2_with (at_builtin; refine wpList_append_own _ rfl (.tmp 112) (.tmp 114) 33 rfl w.heap.size 42 j0' (.slice none 0 0) 1 24 Try.underlying33 hj0' hy0 hy1 hy2 rfl (by decide) _ ng gvs rfl HG5.out ad m dc vs rfl ?e1 (HDC.out ad rfl) ?e2 ?e3 ?e4 HB5.out ?_)
          case e1 => have := HV1.out; omega
          case e2 => exact HS1.out
          case e3 => unfold maxLen; omega
          case e4 => omega
          intro v8 w8 hown hg hnn
          obtain ⟨g8, c8, hv8⟩ := own_shape' hown hnn
          subst hv8
          have HE := Lib.hid (HFI.out w8 g8 c8 hown ((tch_grown hg).mono (fun k hk => hk.symm)))
          clear HFI HDC HV1 HS1 HB5 HG5 hown hg hnn
          obtain ⟨N, hN⟩ : ∃ N, N = np := ⟨_, rfl⟩
          have hN2 : N ≤ 2000 := by have := HE.out.count; omega
          rw [← hN] at HE
          rw [← hN]
          have CR := Lib.hid (HE.out.rows_t (by omega))
          clear hN
          go_wp2_with fail
          refine CR.out.mono ?_
          rintro e wa ⟨rfl, hba⟩
          have HE2 := Lib.hid (HE.out.same (tch_new hba))
          have CL := Lib.hid (len_t w.heap.size F q size [] [] wa HE2.out.qs)
          clear hba CR HE
          go_wp2_with fail
          refine CL.out.mono ?_
          rintro e wb ⟨rfl, htb⟩
          have HE3 := Lib.hid (HE2.out.same htb)
          have CP := Lib.hid (HE3.out.apart_t (by omega))
          clear htb CL HE2
          go_wp2_with fail
          refine CP.out.mono ?_
          rintro e wc ⟨rfl, hbc⟩
          have HBC := Lib.hid (HE3.out.below.trans hbc)
          clear hbc CP HE3
          go_wp2
          go_ret
          exact ⟨rfl, HBC.out⟩
end Go.Proofs.Ytdjeacmonlgdhaa
