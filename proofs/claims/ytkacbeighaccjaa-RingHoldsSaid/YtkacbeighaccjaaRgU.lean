/- Contract of towpathlaw09.RingAll: it returns true. Conditions: the members came in. -/
import Derived.Test.YtkacbeighaccjaaRgT
namespace Go.Proofs.Ytkacbeighaccjaa
open Go Go.RowKit
set_option linter.unusedVariables false
set_option linter.unusedSimpArgs false

set_option maxRecDepth 100000 in
set_option maxHeartbeats 4000000 in
theorem ringAll_t (P key N : Int) (ms : List Int) (a : Option Addr) (n c : Nat) (w : World) (hI : InI w a n c ms) (hn : n ≤ 4611686018427387904) (hP : I64 P) (hN : I64 N) (hk : 0 ≤ key ∧ key < 18446744073709551616) :
    Calls Try.prog 9 #[xvR P a n c key N] w fun e w' => e = .returned (.bool true) ∧ Below w.heap.size w w' := by
  obtain ⟨W, hW⟩ : ∃ W, W = w.alloc (xoR P a n c key N) := ⟨_, rfl⟩
  have hX : XAt W w.heap.size P a n c key N := by rw [hW]; exact XAt.new w P a n c key N
  have hb : Below w.heap.size w W := by rw [hW]; exact bl_al (Below.refl _ _) _
  have HI := Lib.hid (hI.below hb)
  have HF := Lib.hid hI.fit
  obtain ⟨q, hq⟩ : ∃ q, q = w.heap.size := ⟨_, rfl⟩
  rw [← hq] at hX
  have HX := Lib.hid hX
  have HB := Lib.hid hb
  have HW := Lib.hid (And.intro hW hq)
  have CA := Lib.hid (alive9_any W)
  have HP := Lib.hid (And.intro hP (And.intro hN hk))
  obtain ⟨z, hz⟩ := goodP_is P ms
  have HZ := Lib.hid hz
  clear hI hb hW hq hX hP hN hk hz
  go_enter Try.func9, Try.ntmps9
  go_upto_region 1 with fail
  rw [← HW.out.1, ← HW.out.2]
  go_wp2_with fail
  refine CA.out.mono ?_
  rintro e w1 ⟨rfl, hb⟩
  have HB1 := Lib.hid hb
  have x0 := (HX.out.below hb).c0
  have x1 := (HX.out.below hb).c1
  have CG := Lib.hid (refGood_t P ms a n c w1 (HI.out.below hb) hn z HZ.out)
  clear hb CA
  go_wp2_with fail
  refine CG.out.mono ?_
  rintro e w2 ⟨rfl, hb⟩
  have HB2 := Lib.hid (bl_tr HB1.out hb)
  clear hb CG x0 x1
  by_cases hz0 : z = 0
  · subst hz0
    obtain ⟨hOP, hOM⟩ := goodP_zero HZ.out
    have HOM := Lib.hid hOM
    obtain ⟨p, rfl⟩ : ∃ p : Nat, P = p := ⟨P.toNat, by unfold OkP at hOP; omega⟩
    have hp1 : 0 < p ∧ p ≤ 64 := by unfold OkP at hOP; omega
    have hn64 : n ≤ 64 := by have := hOM.1; have := HI.out.len; omega
    have x0 := (HX.out.below HB2.out).c0
    have x1 := (HX.out.below HB2.out).c1
    have CN := Lib.hid (rnew_t (p : Int) ms a n c w2 (HI.out.below HB2.out) (by omega) (by omega) 0 HZ.out)
    rw [show (p : Int).toNat = p from Int.toNat_natCast p] at CN
    clear hOP hOM
    go_wp2_with fail
    refine CN.out.mono ?_
    rintro e w3 ⟨h | h, hb⟩
    case inr => exact absurd rfl h.1
    obtain ⟨_, r, rfl, hr⟩ := h
    have HB3 := Lib.hid (bl_tr HB2.out hb)
    have HR3 := Lib.hid hr
    have x2 := (HX.out.below HB3.out).c2
    have CO := Lib.hid (rowners_t r p ms key 100 w3 hr HP.out.2.2 (by omega))
    clear hb hr CN HB2 x0 x1
    go_wp2_with fail
    refine CO.out.mono ?_
    rintro e w5 hG
    have HFO := Lib.hid (fitI_own hp1.1 HOM.out.2.2 key)
    have HOL := Lib.hid (ownR_len hp1.1 HOM.out.2.1 key)
    have HSR := Lib.hid (srtI_of_perm (ownR_perm hp1.1 HOM.out.2.1 key))
    have e64 : (ownR p ms key).take (100 : Int).toNat = ownR p ms key := List.take_of_length_le (by have := HOL.out; have := HOM.out.1; simp; omega)
    rw [e64] at hG
    obtain ⟨O, hO⟩ : ∃ O, O = ownR p ms key := ⟨_, rfl⟩
    rw [← hO] at hG HFO HOL HSR
    obtain ⟨ao, co, rfl, hI5, hb⟩ := gotB_in hG HFO.out
    have HB5 := Lib.hid (bl_tr HB3.out hb)
    have HR5 := Lib.hid (HR3.out.below hb)
    have HO5 := Lib.hid hI5
    have hOl : O.length = n := by have := HOL.out; have := HI.out.len; omega
    have HON := Lib.hid hO
    rw [hOl] at HO5
    rw [hOl]
    clear e64 hG hI5 hb CO HB3 HR3 x2 hO
    go_upto_region 9 with fail
    have HBx := Lib.hid (show ∀ wx, Below w5.heap.size w5 wx → wx.cell? ⟨q, 1, none⟩ = some (.slice a n c) ∧ Below w5.heap.size w5 wx from fun wx h => ⟨((HX.out.below HB5.out).below h).c1, h⟩)
    have hd0 : Below w5.heap.size w5 w5.drew := (Below.refl _ _).drew
    have hS0 := HBx.out _ hd0
    have hsl : (srtI ms).length = n := by rw [srtI_len]; exact HI.out.len
    have CS1 : Hid (∀ V : World, Below w5.heap.size w5 V → Calls Try.prog 19 #[.slice ao n co] V (fun e w' => ∃ a c, e = .returned (.slice a n c) ∧ InI w' a n c (srtI ms) ∧ Below V.heap.size V w')) := Lib.hid (fun V h => (refSorted_t O ao n co V (HO5.out.below h) (by omega)).mono (fun e w' hG => by
      rw [HSR.out] at hG
      have h2 := gotB_in hG (fitI_srt HF.out)
      rw [hsl] at h2
      exact h2))
    have CS2 : Hid (∀ V : World, Below w5.heap.size w5 V → Calls Try.prog 19 #[.slice a n c] V (fun e w' => ∃ a c, e = .returned (.slice a n c) ∧ InI w' a n c (srtI ms) ∧ Below V.heap.size V w')) := Lib.hid (fun V h => (refSorted_t ms a n c V ((HI.out.below HB5.out).below h) (by omega)).mono (fun e w' hG => by
      have h2 := gotB_in hG (fitI_srt HF.out)
      rw [hsl] at h2
      exact h2))
    have CI1 := Lib.hid (fun (V : World) (a1 a2 : Option Addr) (c1 c2 : Nat) (h1 : InI V a1 n c1 (srtI ms)) (h2 : InI V a2 n c2 (srtI ms)) => ints_any (srtI ms) (srtI ms) a1 a2 n c1 n c2 V h1 h2 (by omega) true (by simp))
    go_wp2_with fail
    go_region_held3 (fun wx => wx.cell? ⟨q, 1, none⟩ = some (.slice a n c) ∧ Below w5.heap.size w5 wx) (first | (with_reducible exact hS0) | (with_reducible exact HBx.out _ hb7) | (with_reducible exact HBx.out _ hb8) | (with_reducible exact HBx.out _ hb9) | (with_reducible assumption) | fail)
      (first | (go_at_call 19; (with_reducible refine (CS1.out _ hd0).mono ?_); rintro e w7 ⟨a7, c7, rfl, hI7, hb⟩; have hb7 := bl_tr hd0 hb) | (go_at_call 19; (with_reducible refine (CS2.out _ hb7).mono ?_); rintro e w8 ⟨a8, c8, rfl, hI8, hb⟩; have hb8 := bl_tr hb7 hb; have hI7' := hI7.below hb) | (go_at_call 17; (with_reducible refine (CI1.out _ _ _ _ _ hI7' hI8).mono ?_); rintro e w9 ⟨rfl, hb⟩; have hb9 := bl_tr hb8 hb) | fail)
    all_goals
      rename_i hHeld
      have HB9 := Lib.hid (bl_tr HB5.out hHeld.2)
      have HL9 := Lib.hid hHeld.2
      clear hHeld hb7 hb8 hb9 hI7 hI8 hI7' hb hS0 hd0 HBx CS1 CS2 CI1
      go_wp2
      go_loopw [6] (fun v wr => ∃ k : Nat, k ≤ n + 2 ∧ v = .int .i64 ((k : Int) - 1) ∧ Hid (Below W.heap.size W wr) ∧ Hid (Below w5.heap.size w5 wr)) (fun v _ => n + 2 - (intOf v + 1).toNat)
      case atStart => exact ⟨0, by omega, rfl, HB9, HL9⟩
      case round =>
        clear HB9 HL9
        obtain ⟨k, hk, rfl, HBr, HR9⟩ := hrel
        have hroom : n ≤ co := HO5.out.room
        by_cases hlk : k ≤ n + 1
        · rcases Nat.eq_zero_or_pos k with hk0 | hk0
          · subst hk0
            rw [show ((0 : Nat) : Int) - 1 = -1 from rfl]
            have hmx : ∀ (ts : Array TypeId) (t : TypeId) (W : World), (Builtin.max_ ts t #[.int .i64 (-1), .int .i64 0]).run Try.prog W = .ok (.int .i64 0) W := by
              intro ts t W
              rw [run_max_int2]
              rfl
            have HTL : Hid ((O.take 0).length = 0) := Lib.hid (by rw [List.length_take]; omega)
            have hd0 : Below wr.heap.size wr wr.drew := (Below.refl _ _).drew
            have HBx := Lib.hid (show ∀ wx, Below wr.heap.size wr wx → wx.cell? ⟨q, 2, none⟩ = some (.int .u64 key) ∧ Below wr.heap.size wr wx from fun wx h => ⟨((HX.out.below HBr.out).below h).c2, h⟩)
            have hS0 := HBx.out _ hd0
            have CO2 : Hid (∀ V : World, Below wr.heap.size wr V → Calls Try.prog 23 #[.pointer (some ⟨r, 0, none⟩), .int .u64 key, .int .i64 (-1)] V (fun e w' => ∃ a c, e = .returned (.slice a 0 c) ∧ InI w' a 0 c (O.take 0) ∧ Below V.heap.size V w')) := Lib.hid (fun V h => (rowners_t r p ms key (-1) V ((HR5.out.below HR9.out).below h) HP.out.2.2 (by omega)).mono (fun e w' hG => by
              have e2 : (ownR p ms key).take ((-1) : Int).toNat = O.take 0 := by rw [HON.out]; exact congrArg (fun t => (ownR p ms key).take t) (by omega)
              rw [e2] at hG
              have h2 := gotB_in hG (fitI_take HFO.out _)
              rw [HTL.out] at h2
              exact h2))
            have HT : Hid (∀ V : World, Below wr.heap.size wr V → InI V ao 0 co (O.take 0)) := Lib.hid (fun V h => ((HO5.out.below HR9.out).below h).take 0 (by omega))
            have CI2 := Lib.hid (fun (V : World) (a1 : Option Addr) (c1 : Nat) (h1 : InI V a1 0 c1 (O.take 0)) (h2 : InI V ao 0 co (O.take 0)) => ints_any (O.take 0) (O.take 0) a1 ao 0 c1 0 co V h1 h2 (by omega) true (by simp))
            clear HTL
            go_wp2_with fail
            go_region_held3 (fun wx => wx.cell? ⟨q, 2, none⟩ = some (.int .u64 key) ∧ Below wr.heap.size wr wx) (first | (with_reducible exact hS0) | (with_reducible exact HBx.out _ hb7) | (with_reducible exact HBx.out _ hb8) | (with_reducible assumption) | fail)
              (first | (go_at_call 23; (with_reducible refine (CO2.out _ hd0).mono ?_); rintro e w7 ⟨a7, c7, rfl, hI7, hb⟩; have hb7 := bl_tr hd0 hb; have hT7 := HT.out _ hb7) | (go_at_call 17; (with_reducible refine (CI2.out _ _ _ hI7 hT7).mono ?_); rintro e w8 ⟨rfl, hb⟩; have hb8 := bl_tr hb7 hb) | fail)
            all_goals
              rename_i hHeld
              have HN1 := Lib.hid (bl_tr HBr.out hHeld.2)
              have HN2 := Lib.hid (bl_tr HR9.out hHeld.2)
              clear hHeld
              go_wp2
              go_roundw
              case rel => exact ⟨1, by omega, by go_num, HN1, HN2⟩
              case measure => simp [intOf] <;> omega
          · obtain ⟨j, rfl⟩ : ∃ j, k = j + 1 := ⟨k - 1, by omega⟩
            rw [show ((j + 1 : Nat) : Int) - 1 = (j : Int) by omega]
            have j0 : (0 : Int) ≤ (j : Int) := by omega
            have j1 : ¬ (j : Int) < 0 := by omega
            have j2 : (j : Int) ≤ (n : Int) := by omega
            have j3 : (j : Int) ≤ (co : Int) := by omega
            have j4 : j ≤ co := by omega
            have hmx : ∀ (ts : Array TypeId) (t : TypeId) (W : World), (Builtin.max_ ts t #[.int .i64 (j : Int), .int .i64 0]).run Try.prog W = .ok (.int .i64 (j : Int)) W := by
              intro ts t W
              rw [run_max_int2, if_neg (by omega)]
            have j5 : j ≤ n := by omega
            have HTL : Hid ((O.take j).length = j) := Lib.hid (by rw [List.length_take]; omega)
            have hd0 : Below wr.heap.size wr wr.drew := (Below.refl _ _).drew
            have HBx := Lib.hid (show ∀ wx, Below wr.heap.size wr wx → wx.cell? ⟨q, 2, none⟩ = some (.int .u64 key) ∧ Below wr.heap.size wr wx from fun wx h => ⟨((HX.out.below HBr.out).below h).c2, h⟩)
            have hS0 := HBx.out _ hd0
            have CO2 : Hid (∀ V : World, Below wr.heap.size wr V → Calls Try.prog 23 #[.pointer (some ⟨r, 0, none⟩), .int .u64 key, .int .i64 (j : Int)] V (fun e w' => ∃ a c, e = .returned (.slice a j c) ∧ InI w' a j c (O.take j) ∧ Below V.heap.size V w')) := Lib.hid (fun V h => (rowners_t r p ms key (j : Int) V ((HR5.out.below HR9.out).below h) HP.out.2.2 (by omega)).mono (fun e w' hG => by
              have e2 : (ownR p ms key).take ((j : Int) : Int).toNat = O.take j := by rw [HON.out]; exact congrArg (fun t => (ownR p ms key).take t) (by omega)
              rw [e2] at hG
              have h2 := gotB_in hG (fitI_take HFO.out _)
              rw [HTL.out] at h2
              exact h2))
            have HT : Hid (∀ V : World, Below wr.heap.size wr V → InI V ao j co (O.take j)) := Lib.hid (fun V h => ((HO5.out.below HR9.out).below h).take j (by omega))
            have CI2 := Lib.hid (fun (V : World) (a1 : Option Addr) (c1 : Nat) (h1 : InI V a1 j c1 (O.take j)) (h2 : InI V ao j co (O.take j)) => ints_any (O.take j) (O.take j) a1 ao j c1 j co V h1 h2 (by omega) true (by simp))
            clear HTL
            go_wp2_with fail
            go_region_held3 (fun wx => wx.cell? ⟨q, 2, none⟩ = some (.int .u64 key) ∧ Below wr.heap.size wr wx) (first | (with_reducible exact hS0) | (with_reducible exact HBx.out _ hb7) | (with_reducible exact HBx.out _ hb8) | (with_reducible assumption) | fail)
              (first | (go_at_call 23; (with_reducible refine (CO2.out _ hd0).mono ?_); rintro e w7 ⟨a7, c7, rfl, hI7, hb⟩; have hb7 := bl_tr hd0 hb; have hT7 := HT.out _ hb7) | (go_at_call 17; (with_reducible refine (CI2.out _ _ _ hI7 hT7).mono ?_); rintro e w8 ⟨rfl, hb⟩; have hb8 := bl_tr hb7 hb) | fail)
            all_goals
              rename_i hHeld
              have HN1 := Lib.hid (bl_tr HBr.out hHeld.2)
              have HN2 := Lib.hid (bl_tr HR9.out hHeld.2)
              clear hHeld
              go_wp2
              go_roundw
              case rel => exact ⟨j + 2, by omega, by go_num, HN1, HN2⟩
              case measure => simp [intOf] <;> omega
        · have hkn : ¬ (k : Int) - 1 ≤ (n : Int) := by omega
          have HBE := Lib.hid (bl_tr HB.out HBr.out)
          go_wp2
          go_ret
          exact ⟨rfl, HBE.out⟩
  · have hzb : (z != 0) = true := by simpa using hz0
    have HBE := Lib.hid (bl_tr HB.out HB2.out)
    go_wp2
    go_ret
    exact ⟨rfl, HBE.out⟩
end Go.Proofs.Ytkacbeighaccjaa
