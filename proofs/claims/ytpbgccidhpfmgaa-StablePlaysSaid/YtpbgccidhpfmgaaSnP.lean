/- StableOwns's walk: it returns true. Conditions: none but the row's own. -/
import Derived.Test.YtpbgccidhpfmgaaSnO
namespace Go.Proofs.Ytpbgccidhpfmgaa
open Go Go.RowKit Go.Maps
set_option linter.unusedVariables false
set_option linter.unusedSimpArgs false

theorem put_first {size : Int} {k : Ky} {r : List Int} (hk : OkK k) (h : ((k.length + r.length : Nat) : Int) ≤ size) : putN size k r [] = 0 ∧ putL size k r [] = [⟨k, r⟩] := by
  have h0 : putN size k r [] = 0 := putN_ok hk (by simp only [cutP, List.filter_nil, usedP]; omega)
  exact ⟨h0, by rw [putL_put h0]; rfl⟩
set_option maxRecDepth 100000 in
set_option maxHeartbeats 4000000 in
theorem stableOwns_t (k : Ky) (a : Option Addr) (n c : Nat) (r : List Int) (w : World) (hr : In w a n c r) (hk : k.length ≤ maxLen) (hn : n ≤ 140737488355328) :
    Calls Try.prog 8 #[sv k, .slice a n c] w fun e w' => e = .returned (.bool true) ∧ Below w.heap.size w w' := by
  have CA := Lib.hid (alive_c w)
  have HR := Lib.hid hr
  have HK := Lib.hid hk
  have hlk : (k.length : Int) ≤ 9223372036854775807 := by unfold maxLen at hk; omega
  have en := nilNe
  have ee := nilEl
  clear hr hk
  by_cases h1 : (k.length : Int) < 1
  · go_enter Try.func8, Try.ntmps8
    go_wp2_with fail
    refine CA.out.mono ?_
    rintro e w1 ⟨rfl, hb1⟩
    have HB1 := Lib.hid hb1
    clear hb1 CA
    go_wp2
    go_ret
    exact ⟨rfl, HB1.out⟩
  by_cases h2 : (64 : Int) < (k.length : Int)
  · go_enter Try.func8, Try.ntmps8
    go_wp2_with fail
    refine CA.out.mono ?_
    rintro e w1 ⟨rfl, hb1⟩
    have HB1 := Lib.hid hb1
    clear hb1 CA
    go_wp2
    go_ret
    exact ⟨rfl, HB1.out⟩
  by_cases h3 : (65536 : Int) < (n : Int)
  · go_enter Try.func8, Try.ntmps8
    go_wp2_with fail
    refine CA.out.mono ?_
    rintro e w1 ⟨rfl, hb1⟩
    have HB1 := Lib.hid hb1
    clear hb1 CA
    go_wp2
    go_ret
    exact ⟨rfl, HB1.out⟩
  have HOK : Hid (OkK k) := Lib.hid ⟨by omega, by omega⟩
  have hlen := HR.out.len
  have HLEN := Lib.hid hlen
  have HP1 := Lib.hid (put_first (size := 1048576) (r := r) HOK.out (by omega))
  clear hlen
  go_enter Try.func8, Try.ntmps8
  go_wp2_with fail
  refine CA.out.mono ?_
  rintro e w1 ⟨rfl, hb1⟩
  have HB1 := Lib.hid hb1
  have CN := Lib.hid (new_c 1048576 w1)
  clear hb1 CA
  go_wp2_with fail
  refine CN.out.mono ?_
  rintro e w2 hW
  obtain ⟨p, rfl, hO, _⟩ := SOn.made (w0 := w) (K := fun _ => False) (by decide) HB1.out (fun _ h => h.elim) hW
  have CC := Lib.hid (copy_any r a n c w2 (HR.out.below hO.bel) (by omega))
  have HO := Lib.hid hO
  clear hW hO CN
  go_wp2_with fail
  refine CC.out.mono ?_
  rintro e w3 ⟨g, rfl, hg, hb3⟩
  have hO3 := HO.out.grow hb3
  have hgl := hg.1.lt g rfl
  have hO3' := hO3.less (K2 := fun j => j = g) (fun j hj => by subst hj; exact .inr hgl)
  have hO4 := (hO3'.new (bl_al (Below.refl _ _) (.cells #[.slice (some ⟨g, 0, none⟩) n (n + 2)] tyB)))
  have CP := Lib.hid (hO3'.put1 k HK.out (own_marks hg HLEN.out HR.out.fit) (by omega))
  rw [HP1.out.1, HP1.out.2] at CP
  have HG3 := Lib.hid hg
  have HGL : Hid (w.heap.size ≤ g) := Lib.hid (Nat.le_trans HO.out.bel.size hgl.1)
  clear hO3 hO3' hO4 hgl hg hb3 HO CC
  go_wp2_with fail
  refine CP.out.mono ?_
  rintro e w4 ⟨rfl, hO, hk4⟩
  rw [show errF ((0 : Nat) : Int) = Value.nilIface from rfl]
  have CS := Lib.hid hO.sync
  have HK4 := Lib.hid hk4
  clear hO hk4 CP
  go_wp2_with fail
  refine CS.out.mono ?_
  rintro e w5 ⟨rfl, hO, hk5⟩
  have hk35 := HK4.out.trans hk5
  have hg5 : Own w5 w2.heap.size g (n + 2) (n + 2) (r ++ [165, 90]) := ⟨⟨HG3.out.1.1, by
    rcases HG3.out.1.2 with ⟨e, _⟩ | ⟨g', cap, cur, e, h4, h5, h6⟩
    · cases e
    · cases e
      exact .inr ⟨g, _, cur, rfl, h4, (hk35 g rfl).trans h5, h6⟩⟩, HG3.out.2⟩
  have CO := Lib.hid (over_o w2.heap.size g (n + 2) n (n + 2) _ w5 hg5 (by omega) (by omega) (n + 2))
  have HO := Lib.hid hO
  clear hO hk5 hk35 hg5 CS HK4 HG3
  go_wp2_with fail
  refine CO.out.mono ?_
  rintro e w6 ⟨rfl, ⟨M, hM⟩, hgr⟩
  have hf : findP k [(⟨k, r⟩ : Pr)] = some r := findP_hit rfl
  have hO6 := HO.out.write (tch_grown hgr) (fun j hj => by cases hj; exact ⟨rfl, HGL.out⟩)
  have CG := Lib.hid (hO6.get k HK.out)
  rw [hf] at CG
  have HM := Lib.hid hM
  have HO6 := Lib.hid hO6
  have HF := Lib.hid hf
  clear hM hgr hO6 HO CO hf
  go_wp2_with fail
  refine CG.out.mono ?_
  rintro e w7 hG
  obtain ⟨a1, c1, rfl, hrow, ht⟩ := hG.yes'
  have hb := non_below ht
  have HO7 := Lib.hid (HO6.out.grow hb)
  have HM7 : Hid (Own w7 w2.heap.size g (n + 2) (n + 2) M) := Lib.hid (HM.out.below hb)
  have HR7 := Lib.hid hrow
  have CG2 := Lib.hid (HO7.out.get k HK.out)
  rw [HF.out] at CG2
  have HS6 : Hid (g < w6.heap.size ∧ w2.heap.size ≤ g) := Lib.hid ⟨(HM.out.1.lt g rfl).2, HM.out.2.2⟩
  have HZ6 := Lib.hid hb.size
  have HBW := Lib.hid HO6.out.bel.size
  clear ht hG hb hrow CG HM HO6
  go_wp2_with fail
  refine CG2.out.mono ?_
  rintro e w8 hG
  obtain ⟨a2, c2, rfl, hrow, ht⟩ := hG.yes'
  have hb := non_below ht
  have hO8 := HO7.out.grow hb
  have hM8 : Own w8 w2.heap.size g (n + 2) (n + 2) M := HM7.out.below hb
  have hr7 := owns_bel HR7.out hb
  have hS6 := HS6.out
  have hz6 := HZ6.out
  have hz7 := hb.size
  have s1 := str_of (At.own hr7) rfl
  have s2 := str_of (HR.out.below hO8.bel).here HLEN.out
  have h3 := own_shorter hM8.1 (m := n) (by omega)
  have e3 : (u8s M).take (n * 1) = u8s (M.take n) := by unfold u8s; rw [Nat.mul_one, List.map_take]
  have hx1 : ∀ j, (Value.slice a1 r.length c1).ownBlock = some j → w6.heap.size ≤ j ∧ j < w7.heap.size := fun j hj => HR7.out.lt j hj
  have hx2 : ∀ j, (Value.slice a2 r.length c2).ownBlock = some j → w7.heap.size ≤ j ∧ j < w8.heap.size := fun j hj => hrow.lt j hj
  have hx3 : ∀ j, (Value.slice (some ⟨g, 0, none⟩) n (n + 2)).ownBlock = some j → j = g := fun j hj => by cases hj; rfl
  have CT := Lib.hid (apartT_three (B := w2.heap.size) (own_base hr7 (by omega)) (own_base hrow (by omega)) (L3 := M.take n) (by first | exact h3 | (rw [← e3]; exact h3) | (rw [e3] at h3; exact h3))
    (fun j h1 h2 => by have := hx1 j h1; have := hx2 j h2; omega) (fun j h1 h2 => by have := hx1 j h1; have := hx3 j h2; omega) (fun j h1 h2 => by have := hx2 j h1; have := hx3 j h2; omega) (by have := HLEN.out; omega) (by have := HLEN.out; omega) (by omega) (by omega))
  have HO8 := Lib.hid hO8
  have HX := Lib.hid (And.intro hx1 (And.intro hx2 hx3))
  have HZ7 := Lib.hid hz7
  have HGW := Lib.hid (show ∀ j, (w6.heap.size ≤ j ∨ w7.heap.size ≤ j ∨ j = g) → w.heap.size ≤ j from fun j hj => by have := HGL.out; have := HBW.out; omega)
  clear ht hG hb hrow hr7 hM8 h3 e3 hx1 hx2 hx3 hO8 CG2 hS6 hz6 hz7 HR7 HM7 HO7
  go_wp2_with fail
  refine CT.out.mono ?_
  rintro e w9 ⟨rfl, ht⟩
  have hO9 := HO8.out.write ht (fun j hj => by
    rcases hj with hj | hj | hj
    · have := HX.out.1 j hj
      exact ⟨.inl (.inr this), HGW.out j (.inl this.1)⟩
    · have := HX.out.2.1 j hj
      exact ⟨.inr this, HGW.out j (.inr (.inl this.1))⟩
    · have := HX.out.2.2 j hj
      exact ⟨.inl (.inl this), HGW.out j (.inr (.inr this))⟩)
  have CC := Lib.hid hO9.crash
  clear ht hO9 HO8 CT s1 s2
  go_wp2_with fail
  refine CC.out.mono ?_
  rintro e w10 ⟨rfl, hO, _⟩
  have CG3 := Lib.hid (hO.get k HK.out)
  rw [HF.out] at CG3
  have HO10 := Lib.hid hO
  clear hO CC
  go_wp2_with fail
  refine CG3.out.mono ?_
  rintro e w11 hG
  obtain ⟨a3, c3, rfl, hrow, ht⟩ := hG.yes'
  have hO11 := (HO10.out.new (non_below ht)).1
  have s1 := str_of (At.own hrow) rfl
  have s2 := str_of (HR.out.below hO11.bel).here HLEN.out
  have HB := Lib.hid hO11.bel
  clear hrow ht hG hO11 HO10 CG3
  go_wp2
  go_ret
  exact ⟨rfl, HB.out⟩
end Go.Proofs.Ytpbgccidhpfmgaa
