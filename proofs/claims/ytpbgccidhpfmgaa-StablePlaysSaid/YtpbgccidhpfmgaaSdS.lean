/- The statements' same: a store shows the pairs that it has. Conditions: as it states. -/
import Derived.Test.YtpbgccidhpfmgaaSdM
import Derived.Test.YtpbgccidhpfmgaaOvr
import Derived.Deep.CutRange
namespace Go.Proofs.Ytpbgccidhpfmgaa
open Go Go.RowKit Go.Maps
set_option linter.unusedVariables false
set_option linter.unusedSimpArgs false

set_option maxRecDepth 100000 in
theorem over_t {B n : Nat} {v : Value} {l : List Int} {w : World} (h : w.ownsRow B 5 1 v n (u8s l)) (hb : n ≤ 4611686018427387904) :
    Calls Try.prog 38 #[v] w fun e w' => e = .returned (.tuple #[]) ∧ Tch (fun k => v.ownBlock = some k) w w' := by
  rcases h.2 with ⟨rfl, rfl⟩ | ⟨g, cap, cur, rfl, hB, _⟩
  · go_enter Try.func38, Try.ntmps38
    go_wp2
    refine wp_loop_rounds 1 ?_
    rw [rounds_succ]
    go_wp2
    go_end0
    exact ⟨rfl, Tch.refl _ _⟩
  · have hl : l.length = n := by have := h.1; simpa [u8s] using this
    refine (over_any B g cap n n l w ⟨h, hl, hB⟩ (Nat.le_refl _) hb cap).mono ?_
    rintro e w' ⟨rfl, hg⟩
    exact ⟨rfl, (tch_grown hg).mono (fun k hk => hk.symm)⟩
set_option maxRecDepth 100000 in
set_option maxHeartbeats 4000000 in
theorem same_t {w0 w : World} {p : Nat} {size : Int} {m : List Pr} {K F : Nat → Prop} {B : Nat} {ao : Option Addr} {n c : Nat} {ps : List Pv} (hO : SOn w0 w p size (ps.map (·.1)) m K) (hP : PsV w F B (.slice ao n c) ps) (hln : n = ps.length) :
    Calls Try.prog 47 #[.pointer (some ⟨p, 0, none⟩), .slice ao n c] w fun e w' => e = .returned (.bool true) ∧ Tch Non w w' := by
  subst hln
  have HO := Lib.hid hO
  have HP := Lib.hid hP
  have hn : ps.length ≤ 67108864 := by have := hO.lens.1; simpa using this
  have hu := hO.lens.2.2.1
  have CK := Lib.hid hO.keys
  have en := nilNe
  clear hO hP
  go_enter Try.func47, Try.ntmps47
  go_wp2_with fail
  refine CK.out.mono ?_
  rintro e w1 ⟨v, rfl, hrow, ht⟩
  have hb1 := non_below ht
  obtain ⟨ko, kc, rfl⟩ := own_form hrow
  rw [List.length_map] at hrow
  have HRW : Hid (w1.ownsRow w.heap.size tyK 1 (.slice ko ps.length kc) ps.length ((ps.map (·.1)).map (fun e => sv e.k))) := Lib.hid (by
    have := hrow
    exact this)
  have HO1 := Lib.hid (HO.out.new hb1).1
  have HT1 := Lib.hid ht
  have CU := Lib.hid HO1.out.used
  rw [List.length_map]
  clear hrow ht hb1 CK HO
  go_wp2_with fail
  refine CU.out.mono ?_
  rintro e w2 ⟨rfl, ht⟩
  have HO2 := Lib.hid (HO1.out.new (non_below ht)).1
  have HT2 := Lib.hid (HT1.out.trans ht)
  have hP2 := HP.out.tch HT2.out (fun _ _ h => h) (fun _ h => h.elim)
  have CR := Lib.hid (rused_c F B ao ps.length c ps w2 hP2 (by omega) rfl (by omega))
  have HRW2 := Lib.hid (ht.own HRW.out (fun _ _ h => h))
  clear ht hP2 CU HO1 HT1 HRW
  go_wp2_with fail
  refine CR.out.mono ?_
  rintro e w3 ⟨rfl, ht⟩
  have HO3 := Lib.hid (HO2.out.new (non_below ht)).1
  have HT3 := Lib.hid (HT2.out.trans ht)
  have HRW3 := Lib.hid (ht.own HRW2.out (fun _ _ h => h))
  clear ht CR HO2 HT2 HRW2
  go_wp2
  go_loopw [6, 7, 8, 9, 26] (fun _ _ _ _ i wr => ∃ j : Nat, j ≤ ps.length ∧ i = .int .i64 j ∧ Hid (Tch Non w3 wr)) (fun _ _ _ _ i _ => ps.length - (intOf i).toNat)
  case atStart => exact ⟨0, by omega, rfl, Lib.hid (Tch.refl _ _)⟩
  case round =>
    obtain ⟨j, hj, rfl, HW⟩ := hrel
    by_cases hlj : j < ps.length
    · have hTr := HT3.out.trans HW.out
      have hP := HP.out.tch hTr (fun _ _ h => h) (fun _ h => h.elim)
      obtain ⟨g, a2, c2, e0, hcap, _, hc0, hc1, _, hrow⟩ := hP.at hlj
      subst e0
      have hOr := (HO3.out.new (non_below HW.out)).1
      have hkr := HW.out.own HRW3.out (fun _ _ h => h)
      obtain ⟨gk, ek, hkc, hck⟩ := at_key (l := ps.map (·.1)) (by rw [List.length_map]; exact hkr) (i := j) (by rw [List.length_map]; exact hlj)
      subst ek
      rw [map_getD ps hlj] at hck
      have hmem : (ps.getD j pv0).1 ∈ ps.map (·.1) := List.mem_map.2 ⟨_, by rw [List.getD_eq_getElem?_getD, List.getElem?_eq_getElem hlj]; exact List.getElem_mem hlj, rfl⟩
      have hf := findP_of_mem hOr.facts.1.1 hmem
      have hok := hOr.facts.2.1.1 _ hmem
      have hbz := sz_used hmem
      have hul := hOr.lens.2.2.1
      obtain ⟨e, he⟩ : ∃ e, e = (ps.getD j pv0).1 := ⟨_, rfl⟩
      rw [← he] at hc0 hc1 hrow hck hf hok hbz
      simp only [szP] at hbz
      have hkm : e.k.length ≤ maxLen := by have := hok.k.2; unfold maxLen; omega
      obtain ⟨X, hX⟩ : ∃ X, X = wr.alloc (.cells #[sv e.k, .slice a2 e.b.length c2] tyP) := ⟨_, rfl⟩
      have hbX : Below wr.heap.size wr X := by rw [hX]; exact bl_al (Below.refl _ _) _
      obtain ⟨q, hq⟩ : ∃ q, q = wr.heap.size := ⟨_, rfl⟩
      have x0 : X.cell? ⟨q, 0, none⟩ = some (sv e.k) := by rw [hX, hq]; simp
      have x1 : X.cell? ⟨q, 1, none⟩ = some (.slice a2 e.b.length c2) := by rw [hX, hq]; simp
      have CG := Lib.hid ((hOr.new hbX).1.get e.k hkm)
      rw [hf] at CG
      have HTX := Lib.hid (HW.out.trans (tch_new hbX))
      have hRX := hrow.tch (tch_new hbX) (fun _ h => h.elim)
      have HRX := Lib.hid hRX
      have HX := Lib.hid hX
      have HQ := Lib.hid hq
      have HEL := Lib.hid (show e.b.length ≤ 67108864 by omega)
      have HX01 := Lib.hid (And.intro x0 x1)
      have HCK := Lib.hid (cell_later hbX hck)
      have ilj : (j : Int) < (ps.length : Int) := by omega
      have j0 : (0 : Int) ≤ (j : Int) := by omega
      have ilc : (ps.length : Int) ≤ (c : Int) := by omega
      have ilk : (ps.length : Int) ≤ (kc : Int) := by omega
      clear hTr hP hrow hOr hkr hmem hf hok hbz hul he hkm hbX hq hX hRX hck
      go_upto_region 7 with fail
      rw [← HX.out, ← HQ.out]
      clear HX HQ hc0 hc1
      go_wp2_with fail
      refine CG.out.mono ?_
      rintro e1 w4 hG
      obtain ⟨b1, c1, rfl, hrow, ht⟩ := hG.yes'
      have y0 := ht.cell HX01.out.1 (fun h => h)
      have y1 := ht.cell HX01.out.2 (fun h => h)
      have hck := ht.cell HCK.out (fun h => h)
      have s1 : ∀ n, (convert 74 9 (.slice b1 e.b.length c1)).run Try.prog (w4.drewN n) = .ok (.string (strOfNums e.b)) (w4.drewN n) := fun n => str_of (w := w4.drewN n) (At.own (w := w4.drewN n) (B := X.heap.size) hrow) rfl
      have hrx := HRX.out.tch ht (fun _ h => h.elim)
      have s2 : ∀ n, (convert 74 9 (.slice a2 e.b.length c2)).run Try.prog (w4.drewN n) = .ok (.string (strOfNums e.b)) (w4.drewN n) := fun n => str_of (w := w4.drewN n) (At.own (w := w4.drewN n) (B := B) hrx.1) rfl
      have CO := Lib.hid (fun n => over_t (w := w4.drewN n) (B := X.heap.size) hrow (by have := HEL.out; omega))
      have HLT := Lib.hid (fun k hk => (hrow.lt k hk).1)
      have HT4 := Lib.hid (HTX.out.trans ht)
      have HXS := Lib.hid (show w3.heap.size ≤ X.heap.size from HTX.out.size)
      clear hG hrow ht hrx CG HRX HX01 HCK x0 x1
      go_wp2_with fail
      go_quiet (fail)
      go_wp2_with fail
      refine (CO.out nq).mono ?_
      rintro e2 w5 ⟨rfl, ht5⟩
      have HT5 := Lib.hid ((HT4.out.trans (tch_new (bl_dn (Below.refl w4.heap.size w4) nq))).trans' ht5 (fun k hk h5 => by have := HLT.out k h5; have := HXS.out; omega))
      clear ht5 CO s1 s2 y0 y1 hck
      go_wp2
      go_roundw
      case rel => exact ⟨j + 1, by omega, by go_num, HT5⟩
      case measure => simp [intOf]; omega
    · have ilj : ¬ ((j : Int) < (ps.length : Int)) := by omega
      go_wp2
      go_ret
      exact ⟨rfl, HT3.out.trans HW.out⟩
end Go.Proofs.Ytpbgccidhpfmgaa
