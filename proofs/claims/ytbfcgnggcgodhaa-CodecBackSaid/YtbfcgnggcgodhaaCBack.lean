/- Contract of CodecBack: true. Conditions: the rows came in, of at most 2^62. -/
import Derived.Test.YtbfcgnggcgodhaaCParses
import Derived.Test.YtbfcgnggcgodhaaAp3
namespace Go.Proofs.Ytbfcgnggcgodhaa
open Go Go.RowKit
set_option linter.unusedVariables false
set_option linter.unusedSimpArgs false

theorem BB.tr {w wx wy : World} {kind : Int} {a : Option Addr} {n c : Nat} {b : Option Addr} {k d : Nat} (h : MBox w kind a n c b k d wx) (hb : Below wx.heap.size wx wy) : MBox w kind a n c b k d wy := h.next hb
theorem mval_zero : (mval zeroM.kind none 0 0 none 0 0) = mval 0 none 0 0 none 0 0 := rfl
/-- The second half: what Parse takes is, framed again, the same. -/
structure BkC (w : World) (kind : Int) (a : Option Addr) (n c : Nat) (b : Option Addr) (k d : Nat) (a2 : Option Addr) (n2 c2 : Nat) (l : List Int) (wx : World) : Prop where
  box : MBox w kind a n c b k d wx
  row : In wx a2 n2 c2 l
theorem BkC.next {w : World} {kind : Int} {a : Option Addr} {n c : Nat} {b : Option Addr} {k d : Nat} {a2 : Option Addr} {n2 c2 : Nat} {l : List Int} {wx wy : World} (h : BkC w kind a n c b k d a2 n2 c2 l wx) (hb : Below wx.heap.size wx wy) : BkC w kind a n c b k d a2 n2 c2 l wy := ⟨h.box.next hb, h.row.below hb⟩

set_option maxRecDepth 100000 in
set_option maxHeartbeats 4000000 in
theorem backC_any (m : Mg) (a : Option Addr) (n c : Nat) (b : Option Addr) (k d : Nat) (a2 : Option Addr) (n2 c2 : Nat) (l : List Int) (w : World) (hI : MIn w a n c b k d m) (hL : In w a2 n2 c2 l) (hn : n ≤ 4611686018427387904) :
    Calls Try.prog 5 #[mval m.kind a n c b k d, .slice a2 n2 c2] w fun e w' => e = .returned (.bool true) ∧ Below w.heap.size w w' := by
  obtain ⟨W, hW, hX⟩ := MBox.start w m.kind a n c b k d
  have HW := Lib.hid hW
  have HZ : Hid (BkC w m.kind a n c b k d a2 n2 c2 l W) := Lib.hid ⟨hX, hL.below hX.below⟩
  have HI := Lib.hid hI
  have HN := Lib.hid hn
  have HLr := Lib.hid hL
  by_cases hlg : k ≤ 131072 ∧ n2 ≤ 131072
  · obtain ⟨l1, l2⟩ := hlg
    have L1 := Lib.hid (fun W => large_no k l1 W)
    have L2 := Lib.hid (fun W => large_no n2 l2 W)
    have htm := hI.typed
    obtain ⟨R, E, f, ho⟩ := FOut.some m
    obtain ⟨M, E', f', hp⟩ := POut.some l
    have CF := Lib.hid (fun W (h : MIn W a n c b k d m) => frame_t ho a n c b k d W h)
    have CP := Lib.hid (fun W (h : In W a2 n2 c2 l) => parseM_t hp a2 n2 c2 W h (by omega))
    have HFL := Lib.hid hL.fit
    have HLL := Lib.hid hL.len
    have HHO := Lib.hid ho
    have HHP := Lib.hid hp
    have HTM := Lib.hid htm
    have HTP := Lib.hid (hp.typed hL.fit)
    clear hW hX hI hL hn l1 l2 htm ho hp
    -- the second half, from any world
    have tail : ∀ (U : World), BkC w m.kind a n c b k d a2 n2 c2 l U → True := fun _ _ => trivial
    clear tail
    go_enter Try.func5, Try.ntmps5
    go_wp2_with fail
    rw [HW.out]
    refine (alive6_any W).mono ?_
    rintro e w1 ⟨rfl, hb⟩
    have HZ1 := Lib.hid (HZ.out.next hb)
    obtain ⟨e0, e1, e2⟩ := HZ1.out.box.here
    clear hb HZ HW
    go_wp2_with fail
    refine (L1.out _).mono ?_
    rintro e w' ⟨rfl, rfl⟩
    go_wp2_with fail
    refine (L2.out _).mono ?_
    rintro e w' ⟨rfl, rfl⟩
    go_wp2_with fail
    refine (CF.out w1 (HI.out.below HZ1.out.box.below)).mono ?_
    rintro e w2 ⟨a3, k3, c3, rfl, hk3, o3, hb⟩
    have HZ2 := Lib.hid (HZ1.out.next hb)
    have HS1 : Hid (w.heap.size ≤ w1.heap.size) := Lib.hid HZ1.out.box.below.size
    have HSL : Hid (w.heap.size < w1.heap.size) := Lib.hid HZ1.out.box.here.lt
    clear L1 L2 CF e0 e1 e2
    obtain ⟨e0, e1, e2⟩ := HZ2.out.box.here
    rcases HHO.out with ⟨hok, rfl, rfl, rfl⟩ | ⟨hok, rfl, rfl, rfl⟩
    · have his := IsF.of hok HTM.out
      have hdec := dec_frm hok HTM.out
      have hlen := frm_len m
      have h15 : (frm m).length ≤ 65869 := by have := hok.nums; have := hok.data; omega
      have hfit := fit_frm HTM.out.data
      have hnl : m.nums.length = n := HI.out.nums.len
      have hkl : m.data.length = k := HI.out.data.len
      obtain ⟨x, hx⟩ : ∃ x, x = frm m := ⟨_, rfl⟩
      rw [← hx] at his hdec h15 hfit hk3 o3
      have CQ : Hid (∀ W x' q, In W x' k3 q x → Calls Try.prog 18 #[.slice x' k3 q] W (GotM W m .nilIface)) := Lib.hid (fun W x' q h => parseM_t (l := x) (.inl ⟨his, hdec.symm, rfl, rfl⟩) x' k3 q W h (by omega))
      have CS := Lib.hid (fun (W : World) a' n' c' b' k' d' (h : MIn W a' n' c' b' k' d' m) (h' : MIn W a n c b k d m) (hnn : n' ≤ 4611686018427387904) => sameM_t m m a' n' c' b' k' d' a n c b k d W h h' hnn true (by simp))
      have HIX := Lib.hid (own_in o3 hk3.symm hfit)
      have HO3 := Lib.hid o3
      have HK3 := Lib.hid hk3
      have H15 : Hid (k3 ≤ 1048576) := Lib.hid (by omega)
      have HNL := Lib.hid hnl
      have HKL := Lib.hid hkl
      have HNK : Hid (n ≤ 1048576 ∧ k ≤ 1048576) := Lib.hid (by have := hok.nums; have := hok.data; omega)
      have HBA := Lib.hid hb
      clear hok his hdec hlen h15 hfit hnl hkl hx hk3 o3 hb HHO HZ1
      go_wp2_with fail
      refine (CQ.out w2 a3 c3 HIX.out).mono ?_
      rintro e w3 ⟨a4, n4, c4, b4, k4, d4, rfl, rfl, rfl, p1, p2, hb⟩
      have hb3 := bl_al hb (mobj m.kind a4 m.nums.length c4 b4 m.data.length d4)
      have HZ3 := Lib.hid (HZ2.out.next hb3)
      have HIX3 := Lib.hid (HIX.out.below hb3)
      have HP1 := Lib.hid (p1.alloc (mobj m.kind a4 m.nums.length c4 b4 m.data.length d4))
      have HP2 := Lib.hid (p2.alloc (mobj m.kind a4 m.nums.length c4 b4 m.data.length d4))
      have HQ3 := Lib.hid (MAt.new w3 m.kind a4 m.nums.length c4 b4 m.data.length d4)
      have HB23 := Lib.hid hb3
      have HS23 : Hid (w2.heap.size ≤ w3.heap.size) := Lib.hid hb.size
      obtain ⟨X3, hX3⟩ : ∃ X, X = w3.alloc (mobj m.kind a4 m.nums.length c4 b4 m.data.length d4) := ⟨_, rfl⟩
      obtain ⟨q3, hq3⟩ : ∃ q, q = w3.heap.size := ⟨_, rfl⟩
      rw [← hX3] at HZ3 HIX3 HP1 HP2 HQ3 HB23
      rw [← hq3] at HQ3
      have HXE := Lib.hid hX3
      have HQE := Lib.hid hq3
      clear p1 p2 hb hb3 hX3 hq3 HZ2 HIX e0 e1 e2
      go_upto_region 8 with fail
      rw [← HXE.out, ← HQE.out]
      clear HXE HQE
      go_wp2_with fail
      refine (CQ.out X3 a3 c3 HIX3.out).mono ?_
      rintro e w4 ⟨a5, n5, c5, b5, k5, d5, rfl, rfl, rfl, p1, p2, hb⟩
      have hb4 := bl_al hb (mobj m.kind a5 m.nums.length c5 b5 m.data.length d5)
      have HZ4 := Lib.hid (HZ3.out.next hb4)
      have HP14 := Lib.hid (owns_bel HP1.out hb4)
      have HP24 := Lib.hid (owns_bel HP2.out hb4)
      have HR2 := Lib.hid (p2.alloc (mobj m.kind a5 m.nums.length c5 b5 m.data.length d5))
      have HQ34 := Lib.hid (HQ3.out.below hb4 HQ3.out.lt)
      have HQ4 := Lib.hid (MAt.new w4 m.kind a5 m.nums.length c5 b5 m.data.length d5)
      have HB34 := Lib.hid hb4
      obtain ⟨X4, hX4⟩ : ∃ X, X = w4.alloc (mobj m.kind a5 m.nums.length c5 b5 m.data.length d5) := ⟨_, rfl⟩
      obtain ⟨q4, hq4⟩ : ∃ q, q = w4.heap.size := ⟨_, rfl⟩
      rw [← hX4] at HZ4 HP14 HP24 HR2 HQ34 HQ4 HB34
      rw [← hq4] at HQ4
      have HXE := Lib.hid hX4
      have HQE := Lib.hid hq4
      clear p1 hb hb4 hX4 hq4 HZ3 HIX3 HQ3 CQ
      go_upto_region 9 with fail
      rw [← HXE.out, ← HQE.out]
      clear HXE HQE
      obtain ⟨e0, e1, e2⟩ := HZ4.out.box.here
      obtain ⟨f0, f1, f2⟩ := HQ34.out
      have HMA := Lib.hid (⟨own_inI HP14.out rfl HTM.out.nums, own_in HP24.out rfl HTM.out.data⟩ : MIn X4 a4 m.nums.length c4 b4 m.data.length d4 m)
      have HNM : Hid (m.nums.length ≤ 4611686018427387904) := Lib.hid (by have := HNK.out; have := HNL.out; omega)
      go_wp2_with fail
      refine (CS.out X4 _ _ _ _ _ _ HMA.out (HI.out.below HZ4.out.box.below) HNM.out).mono ?_
      rintro e w5 ⟨rfl, hb⟩
      have HZ5 := Lib.hid (HZ4.out.next hb)
      obtain ⟨g0, g1, g2⟩ := HQ34.out.below hb HQ34.out.lt
      obtain ⟨h0, h1, h2⟩ := HQ4.out.below hb HQ4.out.lt
      have HCA := Lib.hid (apart_three (B := w1.heap.size) (w4 := w5) HO3.out HP2.out HR2.out HK3.out rfl rfl (Nat.le_refl _) (Nat.le_refl _) HB23.out.size (bl_tr HB23.out (bl_tr HB34.out hb)) (bl_tr HB34.out hb) hb HBA.out.size (by have := hb.size; have := HB34.out.size; omega) (by have := HNK.out; have := HKL.out; omega) (by have := HNK.out; have := HKL.out; omega) H15.out)
      clear hb HZ4 HQ34 HQ4 HMA e0 e1 e2 f0 f1 f2 CS
      go_wp2_with fail
      refine HCA.out.mono ?_
      rintro e w6 ⟨rfl, hb⟩
      have HB6 := (HZ5.out.next (bl_al (Below.refl _ _) (.cells #[.slice b4 m.data.length d4, .slice b5 m.data.length d5, .slice a3 k3 c3] 23)))
      have HZ6 : Hid (BkC w m.kind a n c b k d a2 n2 c2 l w6) := Lib.hid ⟨⟨HB6.box.here.below hb HSL.out, HB6.box.below.trans (hb.mono HS1.out)⟩, HLr.out.below (HB6.box.below.trans (hb.mono HS1.out))⟩
      clear hb HB6 HCA HZ5 g0 g1 g2 h0 h1 h2
      go_wp2_with fail
      refine (CP.out w6 HZ6.out.row).mono ?_
      rintro e w7 ⟨a7, n7, c7, b7, k7, d7, rfl, hn7, hk7, p1, p2, hb⟩
      have hb7 := bl_al hb (mobj M.kind a7 n7 c7 b7 k7 d7)
      have HZ7 := Lib.hid (HZ6.out.next hb7)
      have HR1 := Lib.hid (p1.alloc (mobj M.kind a7 n7 c7 b7 k7 d7))
      have HR2 := Lib.hid (p2.alloc (mobj M.kind a7 n7 c7 b7 k7 d7))
      have HQ7 := Lib.hid (MAt.new w7 M.kind a7 n7 c7 b7 k7 d7)
      obtain ⟨X7, hX7⟩ : ∃ X, X = w7.alloc (mobj M.kind a7 n7 c7 b7 k7 d7) := ⟨_, rfl⟩
      obtain ⟨q7, hq7⟩ : ∃ q, q = w7.heap.size := ⟨_, rfl⟩
      rw [← hX7] at HZ7 HR1 HR2 HQ7
      rw [← hq7] at HQ7
      have HXE := Lib.hid hX7
      have HQE := Lib.hid hq7
      have HM7 := Lib.hid (⟨own_inI HR1.out hn7.symm HTP.out.nums, own_in HR2.out hk7.symm HTP.out.data⟩ : MIn X7 a7 n7 c7 b7 k7 d7 M)
      have HN7 := Lib.hid hn7
      clear hn7 hk7 p1 p2 hb hb7 hX7 hq7 HZ6 CP HR1 HR2
      go_upto_region 12 with fail
      rw [← HXE.out, ← HQE.out]
      clear HXE HQE
      obtain ⟨e0, e1, e2⟩ := HQ7.out
      rcases HHP.out with ⟨hf, rfl, rfl, rfl⟩ | ⟨hf, rfl, rfl, rfl⟩
      · have CG := Lib.hid (frame_t (m := decM l) (R := l) (.inl ⟨hf.1, hf.2.symm, rfl, rfl⟩) a7 n7 c7 b7 k7 d7 X7 HM7.out)
        clear hf HHP
        go_wp2_with fail
        refine CG.out.mono ?_
        rintro e w8 ⟨a8, k8, c8, rfl, hk8, o8, hb⟩
        have HB8 := Lib.hid (bl_tr HZ7.out.box.below hb)
        have hR8 := own_in o8 hk8.symm HFL.out
        have hL8 := HZ7.out.row.below hb
        have sA := str_of hR8.here hR8.len
        have sB := str_of hL8.here hL8.len
        obtain ⟨t, ht⟩ : ∃ s, s = strOfNums l := ⟨_, rfl⟩
        rw [← ht] at sA sB
        have st : (t.toList == t.toList) = true := by simp
        clear hk8 o8 hb hR8 hL8 ht CG HM7 HQ7 HZ7 e0 e1 e2
        go_wp2
        go_ret
        exact ⟨rfl, HB8.out⟩
      · have hn8 : n7 ≤ 4611686018427387904 := by rw [HN7.out]; decide
        have CG : Hid (Calls Try.prog 23 #[mval zeroM.kind a7 n7 c7 b7 k7 d7, mval 0 none 0 0 none 0 0] X7 fun e w' => e = .returned (.bool true) ∧ Below X7.heap.size X7 w') := Lib.hid (sameM_t zeroM zeroM a7 n7 c7 b7 k7 d7 none 0 0 none 0 0 X7 HM7.out ⟨in_nilI _, in_nil _⟩ hn8 true (by simp))
        have s3 := same33
        clear hf HHP hn8
        go_wp2_with fail
        refine CG.out.mono ?_
        rintro e w8 ⟨rfl, hb⟩
        have HB8 := Lib.hid (bl_tr HZ7.out.box.below hb)
        clear hb CG HM7 HQ7 HZ7 e0 e1 e2
        go_wp2
        go_ret
        exact ⟨rfl, HB8.out⟩
    · have HZ3 := Lib.hid (HZ2.out.next (Below.refl _ _))
      clear hok hk3 o3 hb HHO HZ1 HZ2
      go_wp2_with fail
      refine (CP.out w2 HZ3.out.row).mono ?_
      rintro e w7 ⟨a7, n7, c7, b7, k7, d7, rfl, hn7, hk7, p1, p2, hb⟩
      have hb7 := bl_al hb (mobj M.kind a7 n7 c7 b7 k7 d7)
      have HZ7 := Lib.hid (HZ3.out.next hb7)
      have HR1 := Lib.hid (p1.alloc (mobj M.kind a7 n7 c7 b7 k7 d7))
      have HR2 := Lib.hid (p2.alloc (mobj M.kind a7 n7 c7 b7 k7 d7))
      have HQ7 := Lib.hid (MAt.new w7 M.kind a7 n7 c7 b7 k7 d7)
      obtain ⟨X7, hX7⟩ : ∃ X, X = w7.alloc (mobj M.kind a7 n7 c7 b7 k7 d7) := ⟨_, rfl⟩
      obtain ⟨q7, hq7⟩ : ∃ q, q = w7.heap.size := ⟨_, rfl⟩
      rw [← hX7] at HZ7 HR1 HR2 HQ7
      rw [← hq7] at HQ7
      have HXE := Lib.hid hX7
      have HQE := Lib.hid hq7
      have HM7 := Lib.hid (⟨own_inI HR1.out hn7.symm HTP.out.nums, own_in HR2.out hk7.symm HTP.out.data⟩ : MIn X7 a7 n7 c7 b7 k7 d7 M)
      have HN7 := Lib.hid hn7
      clear hn7 hk7 p1 p2 hb hb7 hX7 hq7 HZ3 CP HR1 HR2
      go_upto_region 12 with fail
      rw [← HXE.out, ← HQE.out]
      clear HXE HQE
      obtain ⟨e0, e1, e2⟩ := HQ7.out
      rcases HHP.out with ⟨hf, rfl, rfl, rfl⟩ | ⟨hf, rfl, rfl, rfl⟩
      · have CG := Lib.hid (frame_t (m := decM l) (R := l) (.inl ⟨hf.1, hf.2.symm, rfl, rfl⟩) a7 n7 c7 b7 k7 d7 X7 HM7.out)
        clear hf HHP
        go_wp2_with fail
        refine CG.out.mono ?_
        rintro e w8 ⟨a8, k8, c8, rfl, hk8, o8, hb⟩
        have HB8 := Lib.hid (bl_tr HZ7.out.box.below hb)
        have hR8 := own_in o8 hk8.symm HFL.out
        have hL8 := HZ7.out.row.below hb
        have sA := str_of hR8.here hR8.len
        have sB := str_of hL8.here hL8.len
        obtain ⟨t, ht⟩ : ∃ s, s = strOfNums l := ⟨_, rfl⟩
        rw [← ht] at sA sB
        have st : (t.toList == t.toList) = true := by simp
        clear hk8 o8 hb hR8 hL8 ht CG HM7 HQ7 HZ7 e0 e1 e2
        go_wp2
        go_ret
        exact ⟨rfl, HB8.out⟩
      · have hn8 : n7 ≤ 4611686018427387904 := by rw [HN7.out]; decide
        have CG : Hid (Calls Try.prog 23 #[mval zeroM.kind a7 n7 c7 b7 k7 d7, mval 0 none 0 0 none 0 0] X7 fun e w' => e = .returned (.bool true) ∧ Below X7.heap.size X7 w') := Lib.hid (sameM_t zeroM zeroM a7 n7 c7 b7 k7 d7 none 0 0 none 0 0 X7 HM7.out ⟨in_nilI _, in_nil _⟩ hn8 true (by simp))
        have s3 := same33
        clear hf HHP hn8
        go_wp2_with fail
        refine CG.out.mono ?_
        rintro e w8 ⟨rfl, hb⟩
        have HB8 := Lib.hid (bl_tr HZ7.out.box.below hb)
        clear hb CG HM7 HQ7 HZ7 e0 e1 e2
        go_wp2
        go_ret
        exact ⟨rfl, HB8.out⟩
  · have hcase : 131072 < k ∨ k ≤ 131072 ∧ 131072 < n2 := by omega
    have HX := Lib.hid hX
    rcases hcase with l1 | ⟨l1, l2⟩
    · have L1 := Lib.hid (fun W => large_yes k l1 W)
      clear hlg l1 hW hX hI hL hn HZ
      go_enter Try.func5, Try.ntmps5
      go_wp2_with fail
      rw [HW.out]
      refine (alive6_any W).mono ?_
      rintro e w1 ⟨rfl, hb⟩
      have HX1 := Lib.hid (HX.out.next hb)
      obtain ⟨e0, e1, e2⟩ := HX1.out.here
      clear hb
      go_wp2_with fail
      refine (L1.out _).mono ?_
      rintro e w' ⟨rfl, rfl⟩
      go_wp2
      go_ret
      exact ⟨rfl, HX1.out.below⟩
    · have L1 := Lib.hid (fun W => large_no k l1 W)
      have L2 := Lib.hid (fun W => large_yes n2 l2 W)
      clear hlg l1 l2 hW hX hI hL hn HZ
      go_enter Try.func5, Try.ntmps5
      go_wp2_with fail
      rw [HW.out]
      refine (alive6_any W).mono ?_
      rintro e w1 ⟨rfl, hb⟩
      have HX1 := Lib.hid (HX.out.next hb)
      obtain ⟨e0, e1, e2⟩ := HX1.out.here
      clear hb
      go_wp2_with fail
      refine (L1.out _).mono ?_
      rintro e w' ⟨rfl, rfl⟩
      go_wp2_with fail
      refine (L2.out _).mono ?_
      rintro e w' ⟨rfl, rfl⟩
      go_wp2
      go_ret
      exact ⟨rfl, HX1.out.below⟩
end Go.Proofs.Ytbfcgnggcgodhaa
