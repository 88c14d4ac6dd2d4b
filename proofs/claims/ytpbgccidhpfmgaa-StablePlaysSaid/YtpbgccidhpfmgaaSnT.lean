/- StableTwo's walk: it returns true. Conditions: none but the rows' own. -/
import Derived.Test.YtpbgccidhpfmgaaSbT
namespace Go.Proofs.Ytpbgccidhpfmgaa
open Go Go.RowKit Go.Maps
set_option linter.unusedVariables false
set_option linter.unusedSimpArgs false

theorem ky_beq (a b : Ky) : ((⟨a.toArray⟩ : ByteArray).toList == (⟨b.toArray⟩ : ByteArray).toList) = decide (a = b) := by
  rw [ByteArray.toList_eq, ByteArray.toList_eq]
  by_cases h : a = b
  · subst h; simp
  · rw [decide_eq_false h, beq_eq_false_iff_ne]
    exact h
theorem bytes_beq {l m : List Int} (hl : fit l) (hm : fit m) : ((strOfNums l).toList == (strOfNums m).toList) = decide (l = m) := str_eq hl hm
theorem Tw.facts {w0 w : World} {p1 p2 : Nat} {s1 s2 : Int} {l1 m1 l2 m2 : List Pr} {K : Nat → Prop} (h : Tw w0 w p1 s1 l1 m1 p2 s2 l2 m2 K) : SrtP l1 ∧ (∀ e ∈ l1, OkP e) ∧ l1.length ≤ 67108864 ∧ usedP l1 ≤ 67108864 := by
  obtain ⟨F2, h1, _⟩ := h
  have h2 := h1.facts
  have h3 := h1.lens
  exact ⟨h2.1.1, h2.2.1.1, h3.1, h3.2.2.1⟩
theorem at_key {w : World} {B n c : Nat} {ao : Option Addr} {l : List Pr} (h : w.ownsRow B tyK 1 (.slice ao n c) l.length (l.map (fun e => sv e.k))) {i : Nat} (hi : i < l.length) : ∃ g, ao = some ⟨g, 0, none⟩ ∧ n ≤ c ∧ w.cell? ⟨g, i, none⟩ = some (sv (l.getD i pr0).k) := by
  rcases h.2 with ⟨e, h0⟩ | ⟨g, cap, cur, e, _, h2, h3, _⟩
  · omega
  · cases e
    refine ⟨g, rfl, h3, ?_⟩
    have := h.cellAt (g := g) (cap := c) i (by simpa using hi)
    rw [this, List.getElem?_map, List.getElem?_eq_getElem hi, List.getD_eq_getElem?_getD, List.getElem?_eq_getElem hi]
    rfl
theorem num_small (k : Nat) (hk : k = 0 ∨ k = 9) (w : World) : Calls Try.prog 16 #[errF (k : Nat)] w fun e w' => e = .returned (.int .i64 (k : Nat)) ∧ w = w' := num13_t (k : Nat) (by omega) w
set_option maxRecDepth 100000 in
set_option maxHeartbeats 8000000 in
theorem order_t (a b : Ky) (ax ay : Option Addr) (nx cx ny cy : Nat) (x y : List Int) (w : World) (hx : In w ax nx cx x) (hy : In w ay ny cy y) (ha : a.length ≤ maxLen) (hb : b.length ≤ maxLen) (hn : nx ≤ 140737488355328) (hn2 : ny ≤ 140737488355328) :
    Calls Try.prog 51 #[sv a, sv b, .slice ax nx cx, .slice ay ny cy] w fun e w' => e = .returned (.bool true) ∧ Below w.heap.size w w' := by
  have CA := Lib.hid (alive_c w)
  have HX := Lib.hid hx
  have HY := Lib.hid hy
  have HA := Lib.hid ha
  have HBB := Lib.hid hb
  have en := nilNe
  have ee := nilEl
  have hlx := hx.len
  have hly := hy.len
  clear hx hy ha hb
  by_cases hab : a = b
  · have hq : (a == b) = true := by rw [hab]; exact beq_self_eq_true b
    clear hab hlx hly
    go_enter Try.func51, Try.ntmps51
    go_wp2_with fail
    refine CA.out.mono ?_
    rintro e w1 ⟨rfl, hb1⟩
    have HB1 := Lib.hid hb1
    clear hb1 CA
    go_wp2
    go_ret
    exact ⟨rfl, HB1.out⟩
  have hq : (a == b) = false := beq_eq_false_iff_ne.2 hab
  by_cases h3 : (65536 : Int) < (nx : Int) + (ny : Int)
  · clear hab hlx hly
    go_enter Try.func51, Try.ntmps51
    go_wp2_with fail
    refine CA.out.mono ?_
    rintro e w1 ⟨rfl, hb1⟩
    have HB1 := Lib.hid hb1
    clear hb1 CA
    go_wp2
    go_ret
    exact ⟨rfl, HB1.out⟩
  have hxy : x.length + y.length ≤ 65536 := by omega
  have HPC := Lib.hid (put_comm hab x y hxy)
  have u1 := used_first (k := a) (r := x) (by omega)
  have u2 := used_first (k := b) (r := y) (by omega)
  have N1 : Hid (putN 1048576 a x [] = 0 ∨ putN 1048576 a x [] = 9) := Lib.hid (by rw [put_small (by simp [usedP]; omega)]; split <;> simp)
  have N2 : Hid (putN 1048576 b y [] = 0 ∨ putN 1048576 b y [] = 9) := Lib.hid (by rw [put_small (by simp [usedP]; omega)]; split <;> simp)
  obtain ⟨la, hla⟩ : ∃ l, l = putL 1048576 a x [] := ⟨_, rfl⟩
  obtain ⟨lb, hlb⟩ : ∃ l, l = putL 1048576 b y [] := ⟨_, rfl⟩
  rw [← hla, ← hlb] at HPC
  obtain ⟨l, hl⟩ : ∃ l, l = putL 1048576 b y la := ⟨_, rfl⟩
  rw [← hl] at HPC
  obtain ⟨na, hna⟩ : ∃ n, n = putN 1048576 a x [] := ⟨_, rfl⟩
  obtain ⟨nb, hnb⟩ : ∃ n, n = putN 1048576 b y [] := ⟨_, rfl⟩
  rw [← hna] at N1 HPC
  rw [← hnb] at N2 HPC
  have HL1 := Lib.hid hla
  have HL2 := Lib.hid hlb
  have HL3 := Lib.hid hl
  have HN1 := Lib.hid hna
  have HN2 := Lib.hid hnb
  clear hab hlx hly hxy u1 u2 hla hlb hl hna hnb
  go_enter Try.func51, Try.ntmps51
  go_wp2_with fail
  refine CA.out.mono ?_
  rintro e w1 ⟨rfl, hb1⟩
  have HB1 := Lib.hid hb1
  have CN := Lib.hid (new_c 1048576 w1)
  clear hb1 CA
  go_wp2_with fail
  refine CN.out.mono ?_
  rintro e w2 hW
  obtain ⟨p, rfl, hO, _⟩ := SOn.made (w0 := w) (K := fun _ => False) (by decide) HB1.out (fun _ h => h.elim) hW
  have HO := Lib.hid hO
  have CN2 := Lib.hid (new_c 1048576 w2)
  clear hW hO CN
  go_wp2_with fail
  refine CN2.out.mono ?_
  rintro e w3 hW
  obtain ⟨p2, rfl, hT⟩ := Tw.made HO.out (by decide) hW
  have CP := Lib.hid (hT.put1 a HA.out (HX.out.below hT.bel) (by omega))
  rw [← HL1.out, ← HN1.out] at CP
  clear hW hT HO CN2
  go_wp2_with fail
  refine CP.out.mono ?_
  rintro e w4 ⟨rfl, hT⟩
  have CP2 := Lib.hid (hT.put1 b HBB.out (HY.out.below hT.bel) (by omega))
  rw [← HL3.out, HPC.out.2.2] at CP2
  clear hT CP
  go_wp2_with fail
  refine CP2.out.mono ?_
  rintro e w5 ⟨rfl, hT⟩
  have CP3 := Lib.hid (hT.swap.put1 b HBB.out (HY.out.below hT.bel) (by omega))
  rw [← HL2.out, ← HN2.out] at CP3
  clear hT CP2
  go_wp2_with fail
  refine CP3.out.mono ?_
  rintro e w6 ⟨rfl, hT⟩
  have CP4 := Lib.hid (hT.put1 a HA.out (HX.out.below hT.bel) (by omega))
  rw [← HPC.out.1, ← HPC.out.2.1] at CP4
  clear hT CP3
  go_wp2_with fail
  refine CP4.out.mono ?_
  rintro e w7 ⟨rfl, hT⟩
  have HT := Lib.hid hT.swap
  have NA := Lib.hid (num_small na N1.out)
  have NB := Lib.hid (num_small nb N2.out)
  clear hT CP4
  go_wp2_with fail
  refine (NA.out _).mono ?_
  rintro e w8 ⟨rfl, rfl⟩
  go_wp2_with fail
  refine (NA.out _).mono ?_
  rintro e w8 ⟨rfl, rfl⟩
  go_wp2_with fail
  refine (NB.out _).mono ?_
  rintro e w8 ⟨rfl, rfl⟩
  go_wp2_with fail
  refine (NB.out _).mono ?_
  rintro e w8 ⟨rfl, rfl⟩
  have CU := Lib.hid HT.out.used
  clear NA NB
  go_wp2_with fail
  refine CU.out.mono ?_
  rintro e w8 ⟨rfl, ht⟩
  have HT8 := Lib.hid (HT.out.new (non_below ht))
  have CU2 := Lib.hid HT8.out.swap.used
  clear ht CU HT
  go_wp2_with fail
  refine CU2.out.mono ?_
  rintro e w9 ⟨rfl, ht⟩
  have HT9 := Lib.hid (HT8.out.new (non_below ht))
  have CK := Lib.hid HT9.out.keys
  clear ht CU2 HT8
  go_wp2_with fail
  refine CK.out.mono ?_
  rintro e w10 ⟨v, rfl, hrow, ht⟩
  have HT10 := Lib.hid (HT9.out.new (non_below ht))
  obtain ⟨ao, cc, rfl⟩ := own_form hrow
  have CK2 := Lib.hid HT10.out.swap.keys
  clear ht hrow CK HT9
  go_wp2_with fail
  refine CK2.out.mono ?_
  rintro e w11 ⟨v, rfl, hrow, ht⟩
  have HT11 := Lib.hid (HT10.out.new (non_below ht))
  obtain ⟨ao2, cc2, rfl⟩ := own_form hrow
  have CK := Lib.hid HT11.out.keys
  clear ht hrow CK2 HT10
  go_wp2_with fail
  refine CK.out.mono ?_
  rintro e w12 ⟨v, rfl, hrow, ht⟩
  have HT12 := Lib.hid (HT11.out.new (non_below ht))
  obtain ⟨ao3, cc3, rfl⟩ := own_form hrow
  have HRW := Lib.hid hrow
  have hlen := HT12.out.facts.2.2.1
  clear ht hrow CK HT11
  go_wp2
  go_loopw [15, 16, 17, 18, 19, 20, 107] (fun _ _ _ _ _ _ i wr => ∃ j : Nat, j ≤ l.length ∧ i = .int .i64 j ∧ Hid (Below w12.heap.size w12 wr)) (fun _ _ _ _ _ _ i _ => l.length - (intOf i).toNat)
  case atStart => exact ⟨0, by omega, rfl, Lib.hid (Below.refl _ _)⟩
  case round =>
    obtain ⟨j, hj, rfl, HB⟩ := hrel
    by_cases hlj : j < l.length
    · have hT := HT12.out.new HB.out
      obtain ⟨g, e0, hcap, hc⟩ := at_key HRW.out hlj
      subst e0
      have hcw := cell_later HB.out hc
      have hmem : l.getD j pr0 ∈ l := by rw [List.getD_eq_getElem?_getD, List.getElem?_eq_getElem hlj]; exact List.getElem_mem hlj
      have hok := hT.facts.2.1 _ hmem
      have hf := findP_of_mem hT.facts.1 hmem
      have hkl : (l.getD j pr0).k.length ≤ maxLen := by have := hok.k.2; unfold maxLen; omega
      have hbl : (l.getD j pr0).b.length ≤ 67108864 := by have h1 := sz_used hmem; have h2 := hT.facts.2.2.2; simp only [szP] at h1; omega
      obtain ⟨e, he⟩ : ∃ e, e = l.getD j pr0 := ⟨_, rfl⟩
      rw [← he] at hcw hok hf hkl hbl
      have CG := Lib.hid (hT.get e.k hkl)
      rw [hf] at CG
      have HTr := Lib.hid hT
      have HF := Lib.hid (And.intro hf hkl)
      have HE := Lib.hid he
      have ilj : (j : Int) < (l.length : Int) := by omega
      have j0 : (0 : Int) ≤ (j : Int) := by omega
      clear hT hc hmem hok hf hkl he
      go_wp2_with fail
      refine CG.out.mono ?_
      rintro e1 w13 hG
      obtain ⟨b1, c1, rfl, hrow, ht⟩ := hG.yes'
      have HT13 := Lib.hid (HTr.out.new (non_below ht))
      have HR13 := Lib.hid hrow
      have HB13 := Lib.hid (bl_tr HB.out (non_below ht))
      have CG2 := Lib.hid (HT13.out.swap.get e.k HF.out.2)
      rw [HF.out.1] at CG2
      clear ht hG hrow CG HTr hcw
      go_wp2_with fail
      refine CG2.out.mono ?_
      rintro e1 w14 hG
      obtain ⟨b2, c2, rfl, hrow, ht⟩ := hG.yes'
      have hb := non_below ht
      have HT14 := Lib.hid (HT13.out.new hb)
      have HR14 := Lib.hid hrow
      have HR13' := Lib.hid (owns_bel HR13.out hb)
      have HB14 := Lib.hid (bl_tr HB13.out hb)
      have CK := Lib.hid HT14.out.swap.keys
      clear ht hG hrow CG2 HT13 HR13 hb
      go_wp2_with fail
      refine CK.out.mono ?_
      rintro e1 w15 ⟨v, rfl, hrow, ht⟩
      have hb := non_below ht
      obtain ⟨ao4, cc4, rfl⟩ := own_form hrow
      obtain ⟨g4, e0, hcap4, hc4⟩ := at_key hrow hlj
      subst e0
      rw [← HE.out] at hc4
      have s1 := str_of (At.own (owns_bel HR13'.out hb)) rfl
      have s2 := str_of (At.own (owns_bel HR14.out hb)) rfl
      have HB15 := Lib.hid (bl_tr HB14.out hb)
      clear ht hrow CK HT14 HR13' HR14 hb
      go_wp2
      go_roundw
      case rel => exact ⟨j + 1, by omega, by go_num, HB15⟩
      case measure => simp [intOf]; omega
    · have hjl : j = l.length := by omega
      have hbel := Lib.hid (bl_tr HT12.out.bel HB.out)
      subst hjl
      go_wp2
      go_ret
      exact ⟨rfl, hbel.out⟩
end Go.Proofs.Ytpbgccidhpfmgaa
