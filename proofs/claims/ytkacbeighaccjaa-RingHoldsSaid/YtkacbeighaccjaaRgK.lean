/- Contract of towpathlaw09.owners and RingKeys: it returns true. Conditions: the members came in. -/
import Derived.Test.YtkacbeighaccjaaRgL
namespace Go.Proofs.Ytkacbeighaccjaa
open Go Go.RowKit
set_option linter.unusedVariables false
set_option linter.unusedSimpArgs false

def I64 (n : Int) : Prop := -9223372036854775808 ≤ n ∧ n ≤ 9223372036854775807
theorem gotB_in {w w' : World} {l : List Int} {e : Ending} (h : GotB w l e w') (hf : fitI l) : ∃ a c, e = .returned (.slice a l.length c) ∧ InI w' a l.length c l ∧ Below w.heap.size w w' := by
  obtain ⟨a, c, he, ho, hb⟩ := h
  exact ⟨a, c, he, own_inI ho rfl hf, hb⟩
theorem fitI_srt {l : List Int} (h : fitI l) : fitI (srtI l) := fitI_perm (srtI_perm l) h
theorem takes_eq {p : Nat} (hp : 0 < p) {ms : List Int} (hn : ms.Nodup) (hl : ms.length ≤ 64) (key : Int) {N M : Int} (h : N.toNat = M.toNat ∨ 64 ≤ N.toNat ∧ 64 ≤ M.toNat) : (ownR p ms key).take N.toNat = (ownR p ms key).take M.toNat := by
  rcases h with h | h
  · rw [h]
  · have := ownR_len hp hn key
    rw [List.take_of_length_le (by omega), List.take_of_length_le (by omega)]
set_option maxRecDepth 100000 in
set_option maxHeartbeats 4000000 in
theorem owners_t (P key N : Int) (ms : List Int) (a : Option Addr) (n c : Nat) (w : World) (hI : InI w a n c ms) (hn : n ≤ 4611686018427387904) (hP : I64 P) (hN : I64 N) (hk : 0 ≤ key ∧ key < 18446744073709551616) :
    Calls Try.prog 10 #[.int .i64 P, .slice a n c, .int .u64 key, .int .i64 N] w fun e w' => e = .returned (.bool true) ∧ Below w.heap.size w w' := by
  have CA := Lib.hid (alive9_any w)
  have HI := Lib.hid hI
  have HP := Lib.hid (And.intro hP (And.intro hN hk))
  by_cases h200 : 200 < n
  · have i2 : (200 : Int) < (n : Int) := by omega
    clear hI hP hN hk
    go_enter Try.func10, Try.ntmps10
    go_wp2_with fail
    refine CA.out.mono ?_
    rintro e w1 ⟨rfl, hb⟩
    have HB := Lib.hid hb
    clear hb CA
    go_wp2
    go_ret
    exact ⟨rfl, HB.out⟩
  · have i2 : ¬ (200 : Int) < (n : Int) := by omega
    obtain ⟨z, hz⟩ := goodP_is P ms
    have HZ := Lib.hid hz
    have hzz := goodP_z hz
    have HZZ := Lib.hid hzz
    have HF := Lib.hid hI.fit
    clear hI hP hN hk hz
    go_enter Try.func10, Try.ntmps10
    go_wp2_with fail
    refine CA.out.mono ?_
    rintro e w1 ⟨rfl, hb⟩
    have HB1 := Lib.hid hb
    have CM := Lib.hid (mine_t ms a n c w1 (HI.out.below hb) (by omega))
    clear hb CA
    go_wp2_with fail
    refine CM.out.mono ?_
    rintro e w2 ⟨g, rfl, hM, hg, hb⟩
    have HB2 := Lib.hid (bl_tr HB1.out hb)
    have HM2 := Lib.hid hM
    have CN := Lib.hid (rnew_t P ms (some ⟨g, 0, none⟩) n (n + 1) w2 hM.row (by omega) (by have := HP.out.1; unfold I64 at this; omega) z HZ.out)
    clear hb CM HB1 hM hg
    go_wp2_with fail
    refine CN.out.mono ?_
    rintro e w3 ⟨h, hb⟩
    have HB3 := Lib.hid (bl_tr HB2.out hb)
    have HM3 := Lib.hid (HM2.out.below hb)
    have CG := Lib.hid (refGood_t P ms a n c w3 (HI.out.below HB3.out) (by omega) z HZ.out)
    have CU := Lib.hid (numR_t z HZZ.out)
    clear hb CN HB2 HM2
    rcases h with ⟨rfl, r, rfl, hr⟩ | ⟨hz0, rfl⟩
    · obtain ⟨hOP, hOM⟩ := goodP_zero HZ.out
      have HR := Lib.hid hr
      have HOM := Lib.hid hOM
      rw [show errR 0 = Value.nilIface from rfl] at CU
      obtain ⟨p, rfl⟩ : ∃ p : Nat, P = p := ⟨P.toNat, by unfold OkP at hOP; omega⟩
      have hp1 : 0 < p ∧ p ≤ 64 := by unfold OkP at hOP; omega
      have hn64 : n ≤ 64 := by have := hOM.1; have := HI.out.len; omega
      rw [show (p : Int).toNat = p from Int.toNat_natCast p] at HR
      clear hr hOP hOM hzz
      go_wp2_with fail
      refine CG.out.mono ?_
      rintro e w4 ⟨rfl, hb⟩
      have HB4 := Lib.hid (bl_tr HB3.out hb)
      have HM4 := Lib.hid (HM3.out.below hb)
      have HR4 := Lib.hid (HR.out.below hb)
      have CK := Lib.hid (kept_t ms a n c g w4 HM4.out (HI.out.below HB4.out) (by omega))
      clear hb CG HB3 HM3 HR
      go_wp2_with fail
      refine (CU.out _).mono ?_
      rintro e w5 ⟨rfl, rfl⟩
      clear CU
      go_wp2_with fail
      refine CK.out.mono ?_
      rintro e w5 ⟨rfl, hb⟩
      have HB5 := Lib.hid (bl_tr HB4.out hb)
      have HR5 := Lib.hid (HR4.out.below hb)
      clear hb CK HB4 HR4 HM4
      obtain ⟨x, hx⟩ : ∃ x : Int, x = (n : Int) * (p : Int) := ⟨_, rfl⟩
      have hx0 : 0 ≤ x ∧ x ≤ 4096 := by
        rw [hx]
        have h1 := Int.mul_le_mul (show (n : Int) ≤ 64 by omega) (show (p : Int) ≤ 64 by omega) (by omega) (by omega)
        have h2 := Int.mul_nonneg (show (0 : Int) ≤ n by omega) (show (0 : Int) ≤ p by omega)
        omega
      have xw : ∀ [Inhabited Nat], IntKind.i64.wrap ((n : Int) * (p : Int)) = x := by intro _; rw [← hx]; exact IntWalk.i64_in _ (by omega)
      clear hx
      by_cases h6 : 600 < x
      · clear hx0
        go_wp2
        go_ret
        exact ⟨rfl, HB5.out⟩
      · clear hx0
        have HFO := Lib.hid (fitI_own hp1.1 HOM.out.2.2 key)
        rcases Int.lt_trichotomy N 64 with q | q | q
        · have CO := Lib.hid (rowners_t r p ms key N w5 HR5.out HP.out.2.2 HP.out.2.1)
          have q2 : ¬ (64 : Int) < N := by omega
          obtain ⟨L, hL⟩ : ∃ L, L = (ownR p ms key).take (N).toNat := ⟨_, rfl⟩
          have HEq : Hid ((ownR p ms key).take (N).toNat = L) := Lib.hid (by rw [hL]; first | done | exact takes_eq hp1.1 HOM.out.2.1 (by have := HI.out.len; omega) key (by omega))
          have HFL : Hid (fitI L) := Lib.hid (by rw [hL]; exact fitI_take HFO.out _)
          have HLL : Hid (L.length ≤ 64) := Lib.hid (by rw [hL, List.length_take]; have := ownR_len hp1.1 HOM.out.2.1 key; have := HOM.out.1; omega)
          rw [← hL] at CO
          clear hL
          go_wp2_with fail
          refine CO.out.mono ?_
          rintro e w6 hG
          obtain ⟨ao, co, rfl, hO, hb⟩ := gotB_in hG HFL.out
          have HB6 := Lib.hid (bl_tr HB5.out hb)
          have HR6 := Lib.hid (HR5.out.below hb)
          have HO6 := Lib.hid hO
          have CR := Lib.hid (refOwners_t p ms key (N) a n c w6 (HI.out.below HB6.out) HOM.out hp1)
          rw [HEq.out] at CR
          clear hG hO hb CO HB5 HR5 HEq
          go_wp2_with fail
          try rw [show min N 64 = N by omega]
          refine CR.out.mono ?_
          rintro e w7 hG
          obtain ⟨a2, c2, rfl, hO, hb⟩ := gotB_in hG HFL.out
          have HB7 := Lib.hid (bl_tr HB6.out hb)
          have HR7 := Lib.hid (HR6.out.below hb)
          have CI := Lib.hid (ints_any L L ao a2 L.length co L.length c2 w7 (HO6.out.below hb) hO (by have := HLL.out; omega) true (by simp))
          clear hG hO hb CR HB6 HR6 HO6
          go_wp2_with fail
          refine CI.out.mono ?_
          rintro e w8 ⟨rfl, hb⟩
          have HB8 := Lib.hid (bl_tr HB7.out hb)
          have CM := Lib.hid (rmembers_t r p ms w8 (HR7.out.below hb))
          clear hb CI HB7 HR7
          go_wp2_with fail
          refine CM.out.mono ?_
          rintro e w9 hG
          obtain ⟨a3, c3, rfl, hO, hb⟩ := gotB_in hG (fitI_srt HF.out)
          have HB9 := Lib.hid (bl_tr HB8.out hb)
          have HO9 := Lib.hid hO
          have CS := Lib.hid (refSorted_t ms a n c w9 (HI.out.below HB9.out) (by omega))
          clear hG hO hb CM HB8
          go_wp2_with fail
          refine CS.out.mono ?_
          rintro e w10 hG
          obtain ⟨a4, c4, rfl, hO, hb⟩ := gotB_in hG (fitI_srt HF.out)
          have HB10 := Lib.hid (bl_tr HB9.out hb)
          have CI := Lib.hid (ints_any (srtI ms) (srtI ms) a3 a4 _ c3 _ c4 w10 (HO9.out.below hb) hO (by rw [srtI_len]; have := HI.out.len; omega) true (by simp))
          clear hG hO hb CS HB9 HO9
          go_wp2_with fail
          refine CI.out.mono ?_
          rintro e w11 ⟨rfl, hb⟩
          have HB11 := Lib.hid (bl_tr HB10.out hb)
          clear hb CI HB10
          go_wp2
          go_ret
          exact ⟨rfl, HB11.out⟩
        · subst q
          have CO := Lib.hid (rowners_t r p ms key (64 : Int) w5 HR5.out HP.out.2.2 HP.out.2.1)
          obtain ⟨L, hL⟩ : ∃ L, L = (ownR p ms key).take ((64 : Int)).toNat := ⟨_, rfl⟩
          have HEq : Hid ((ownR p ms key).take ((64 : Int)).toNat = L) := Lib.hid (by rw [hL]; first | done | exact takes_eq hp1.1 HOM.out.2.1 (by have := HI.out.len; omega) key (by omega))
          have HFL : Hid (fitI L) := Lib.hid (by rw [hL]; exact fitI_take HFO.out _)
          have HLL : Hid (L.length ≤ 64) := Lib.hid (by rw [hL, List.length_take]; have := ownR_len hp1.1 HOM.out.2.1 key; have := HOM.out.1; omega)
          rw [← hL] at CO
          clear hL
          go_wp2_with fail
          refine CO.out.mono ?_
          rintro e w6 hG
          obtain ⟨ao, co, rfl, hO, hb⟩ := gotB_in hG HFL.out
          have HB6 := Lib.hid (bl_tr HB5.out hb)
          have HR6 := Lib.hid (HR5.out.below hb)
          have HO6 := Lib.hid hO
          have CR := Lib.hid (refOwners_t p ms key ((64 : Int)) a n c w6 (HI.out.below HB6.out) HOM.out hp1)
          rw [HEq.out] at CR
          clear hG hO hb CO HB5 HR5 HEq
          go_wp2_with fail
          try rw [show min N 64 = (64 : Int) by omega]
          refine CR.out.mono ?_
          rintro e w7 hG
          obtain ⟨a2, c2, rfl, hO, hb⟩ := gotB_in hG HFL.out
          have HB7 := Lib.hid (bl_tr HB6.out hb)
          have HR7 := Lib.hid (HR6.out.below hb)
          have CI := Lib.hid (ints_any L L ao a2 L.length co L.length c2 w7 (HO6.out.below hb) hO (by have := HLL.out; omega) true (by simp))
          clear hG hO hb CR HB6 HR6 HO6
          go_wp2_with fail
          refine CI.out.mono ?_
          rintro e w8 ⟨rfl, hb⟩
          have HB8 := Lib.hid (bl_tr HB7.out hb)
          have CM := Lib.hid (rmembers_t r p ms w8 (HR7.out.below hb))
          clear hb CI HB7 HR7
          go_wp2_with fail
          refine CM.out.mono ?_
          rintro e w9 hG
          obtain ⟨a3, c3, rfl, hO, hb⟩ := gotB_in hG (fitI_srt HF.out)
          have HB9 := Lib.hid (bl_tr HB8.out hb)
          have HO9 := Lib.hid hO
          have CS := Lib.hid (refSorted_t ms a n c w9 (HI.out.below HB9.out) (by omega))
          clear hG hO hb CM HB8
          go_wp2_with fail
          refine CS.out.mono ?_
          rintro e w10 hG
          obtain ⟨a4, c4, rfl, hO, hb⟩ := gotB_in hG (fitI_srt HF.out)
          have HB10 := Lib.hid (bl_tr HB9.out hb)
          have CI := Lib.hid (ints_any (srtI ms) (srtI ms) a3 a4 _ c3 _ c4 w10 (HO9.out.below hb) hO (by rw [srtI_len]; have := HI.out.len; omega) true (by simp))
          clear hG hO hb CS HB9 HO9
          go_wp2_with fail
          refine CI.out.mono ?_
          rintro e w11 ⟨rfl, hb⟩
          have HB11 := Lib.hid (bl_tr HB10.out hb)
          clear hb CI HB10
          go_wp2
          go_ret
          exact ⟨rfl, HB11.out⟩
        · have CO := Lib.hid (rowners_t r p ms key N w5 HR5.out HP.out.2.2 HP.out.2.1)
          have q2 : ¬ N < (64 : Int) := by omega
          obtain ⟨L, hL⟩ : ∃ L, L = (ownR p ms key).take (N).toNat := ⟨_, rfl⟩
          have HEq : Hid ((ownR p ms key).take ((64 : Int)).toNat = L) := Lib.hid (by rw [hL]; first | done | exact takes_eq hp1.1 HOM.out.2.1 (by have := HI.out.len; omega) key (by omega))
          have HFL : Hid (fitI L) := Lib.hid (by rw [hL]; exact fitI_take HFO.out _)
          have HLL : Hid (L.length ≤ 64) := Lib.hid (by rw [hL, List.length_take]; have := ownR_len hp1.1 HOM.out.2.1 key; have := HOM.out.1; omega)
          rw [← hL] at CO
          clear hL
          go_wp2_with fail
          refine CO.out.mono ?_
          rintro e w6 hG
          obtain ⟨ao, co, rfl, hO, hb⟩ := gotB_in hG HFL.out
          have HB6 := Lib.hid (bl_tr HB5.out hb)
          have HR6 := Lib.hid (HR5.out.below hb)
          have HO6 := Lib.hid hO
          have CR := Lib.hid (refOwners_t p ms key ((64 : Int)) a n c w6 (HI.out.below HB6.out) HOM.out hp1)
          rw [HEq.out] at CR
          clear hG hO hb CO HB5 HR5 HEq
          go_wp2_with fail
          try rw [show min N 64 = (64 : Int) by omega]
          refine CR.out.mono ?_
          rintro e w7 hG
          obtain ⟨a2, c2, rfl, hO, hb⟩ := gotB_in hG HFL.out
          have HB7 := Lib.hid (bl_tr HB6.out hb)
          have HR7 := Lib.hid (HR6.out.below hb)
          have CI := Lib.hid (ints_any L L ao a2 L.length co L.length c2 w7 (HO6.out.below hb) hO (by have := HLL.out; omega) true (by simp))
          clear hG hO hb CR HB6 HR6 HO6
          go_wp2_with fail
          refine CI.out.mono ?_
          rintro e w8 ⟨rfl, hb⟩
          have HB8 := Lib.hid (bl_tr HB7.out hb)
          have CM := Lib.hid (rmembers_t r p ms w8 (HR7.out.below hb))
          clear hb CI HB7 HR7
          go_wp2_with fail
          refine CM.out.mono ?_
          rintro e w9 hG
          obtain ⟨a3, c3, rfl, hO, hb⟩ := gotB_in hG (fitI_srt HF.out)
          have HB9 := Lib.hid (bl_tr HB8.out hb)
          have HO9 := Lib.hid hO
          have CS := Lib.hid (refSorted_t ms a n c w9 (HI.out.below HB9.out) (by omega))
          clear hG hO hb CM HB8
          go_wp2_with fail
          refine CS.out.mono ?_
          rintro e w10 hG
          obtain ⟨a4, c4, rfl, hO, hb⟩ := gotB_in hG (fitI_srt HF.out)
          have HB10 := Lib.hid (bl_tr HB9.out hb)
          have CI := Lib.hid (ints_any (srtI ms) (srtI ms) a3 a4 _ c3 _ c4 w10 (HO9.out.below hb) hO (by rw [srtI_len]; have := HI.out.len; omega) true (by simp))
          clear hG hO hb CS HB9 HO9
          go_wp2_with fail
          refine CI.out.mono ?_
          rintro e w11 ⟨rfl, hb⟩
          have HB11 := Lib.hid (bl_tr HB10.out hb)
          clear hb CI HB10
          go_wp2
          go_ret
          exact ⟨rfl, HB11.out⟩
    · rw [show errR z = errnoR z from if_neg hz0] at CU
      rw [show errR z = errnoR z from if_neg hz0]
      clear hzz
      go_wp2_with fail
      refine CG.out.mono ?_
      rintro e w4 ⟨rfl, hb⟩
      have HB4 := Lib.hid (bl_tr HB3.out hb)
      have HM4 := Lib.hid (HM3.out.below hb)
      have CK := Lib.hid (kept_t ms a n c g w4 HM4.out (HI.out.below HB4.out) (by omega))
      have qz : (z != 0) = true := by simpa using hz0
      have qz2 : (z != z) = false := by simp
      have hz1 : ¬ z = 0 := hz0
      clear hb CG HB3 HM3 hz0
      go_wp2_with fail
      refine (CU.out _).mono ?_
      rintro e w5 ⟨rfl, rfl⟩
      clear CU
      go_wp2_with fail
      refine CK.out.mono ?_
      rintro e w5 ⟨rfl, hb⟩
      have HB5 := Lib.hid (bl_tr HB4.out hb)
      clear hb CK HB4 HM4
      go_wp2
      go_ret
      exact ⟨rfl, HB5.out⟩
end Go.Proofs.Ytkacbeighaccjaa
