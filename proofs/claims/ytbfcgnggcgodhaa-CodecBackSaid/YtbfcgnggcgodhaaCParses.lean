/- Contract of CodecParses: true. Conditions: the row came in, of at most 2^47 - 4096 bytes. -/
import Derived.Test.YtbfcgnggcgodhaaMgG
import Derived.Test.YtbfcgnggcgodhaaOvr
import Derived.Deep.CutRange
namespace Go.Proofs.Ytbfcgnggcgodhaa
open Go Go.RowKit
set_option linter.unusedVariables false
set_option linter.unusedSimpArgs false

theorem MAt.far {w w' : World} {q g : Nat} {kind : Int} {a : Option Addr} {n c : Nat} {b : Option Addr} {k d : Nat} (h : MAt w q kind a n c b k d) (hg : w.grownBy w' (some g)) (hne : q ≠ g) : MAt w' q kind a n c b k d :=
  ⟨hg.cell h.c0 (by simpa using hne), hg.cell h.c1 (by simpa using hne), hg.cell h.c2 (by simpa using hne)⟩
set_option maxRecDepth 100000 in
set_option maxHeartbeats 2000000 in
theorem parsesC_any (a : Option Addr) (n c : Nat) (l : List Int) (w : World) (hI : In w a n c l) (hn : n ≤ 140737488351232) :
    Calls Try.prog 4 #[.slice a n c] w fun e w' => e = .returned (.bool true) ∧ Below w.heap.size w w' := by
  have HI := Lib.hid hI
  by_cases hlg : n ≤ 131072
  · obtain ⟨M, E, f, ho⟩ := POut.some l
    have CL := Lib.hid (fun W => large_no n hlg W)
    have CP := Lib.hid (fun W g (h : In W (some ⟨g, 0, none⟩) n (n + 2) l) => parseM_t ho (some ⟨g, 0, none⟩) n (n + 2) W h (by omega))
    have CR := Lib.hid (fun W (h : In W a n c l) => refParseM_t ho a n c W h (by omega))
    have CN := Lib.hid (fun W => num_pout ho W)
    have HT := Lib.hid (ho.typed hI.fit)
    have CS := Lib.hid (fun (W : World) a n c b k d a' n' c' b' k' d' (h : MIn W a n c b k d M) (h' : MIn W a' n' c' b' k' d' M) (hnn : n ≤ 4611686018427387904) => refSame_any M M a n c b k d a' n' c' b' k' d' W h h' hnn true (by simp))
    have HFL := Lib.hid hI.fit
    have HLN := Lib.hid hI.len
    have tf : (f == f) = true := by simp
    have hMn : M.nums.length ≤ 40 := by
      rcases ho with ⟨h, rfl, _⟩ | ⟨_, rfl, _⟩
      · exact h.1.nums
      · decide
    have HMN := Lib.hid hMn
    clear hI ho hMn
    go_enter Try.func4, Try.ntmps4
    go_wp2_with fail
    refine (alive6_any w).mono ?_
    rintro e w1 ⟨rfl, hb⟩
    have HB1 := Lib.hid hb
    have HI1 := Lib.hid (HI.out.below hb)
    clear hb
    go_wp2_with fail
    refine (CL.out _).mono ?_
    rintro e w' ⟨rfl, rfl⟩
    go_wp2_with fail
    refine (copy_any l a n c w1 HI1.out hn).mono ?_
    rintro e w2 ⟨g, rfl, hO, hb⟩
    have HB2 := Lib.hid (bl_tr HB1.out hb)
    have HI2 := Lib.hid (HI1.out.below hb)
    have HO2 := Lib.hid hO
    have HG2 := Lib.hid (own_marks hO HLN.out HFL.out)
    have HM2 := Lib.hid (hO.marked HLN.out)
    have HGL : Hid (g < w2.heap.size) := Lib.hid (hO.1.lt g rfl).2
    have HGB : Hid (w.heap.size ≤ g) := Lib.hid (Nat.le_trans HB1.out.size hO.2.2)
    clear hO hb HI1 HB1 CL
    go_wp2_with fail
    refine (CP.out w2 g HG2.out).mono ?_
    rintro e w3 ⟨a3, n3, c3, b3, k3, d3, rfl, hn3, hk3, o1, o2, hb⟩
    have hb3 := bl_al hb (mobj M.kind a3 n3 c3 b3 k3 d3)
    have HB3 := Lib.hid (bl_tr HB2.out hb3)
    have HI3 := Lib.hid (HI2.out.below hb3)
    have HM3 := Lib.hid (HM2.out.below hb3)
    have HO3 := Lib.hid (HO2.out.below hb3)
    have HP1 := Lib.hid (o1.alloc (mobj M.kind a3 n3 c3 b3 k3 d3))
    have HP2 := Lib.hid (o2.alloc (mobj M.kind a3 n3 c3 b3 k3 d3))
    have HQ3 := Lib.hid (MAt.new w3 M.kind a3 n3 c3 b3 k3 d3)
    have HN3 := Lib.hid hn3
    have HK3 := Lib.hid hk3
    have HS3 : Hid (w2.heap.size ≤ w3.heap.size) := Lib.hid hb.size
    obtain ⟨X3, hX3⟩ : ∃ X, X = w3.alloc (mobj M.kind a3 n3 c3 b3 k3 d3) := ⟨_, rfl⟩
    obtain ⟨q3, hq3⟩ : ∃ q, q = w3.heap.size := ⟨_, rfl⟩
    rw [← hX3] at HB3 HI3 HM3 HO3 HP1 HP2 HQ3
    rw [← hq3] at HQ3 HS3
    have HXE := Lib.hid hX3
    have HQE := Lib.hid hq3
    clear hn3 hk3 o1 o2 hb hb3 hX3 hq3 HB2 HI2 HM2 HO2 HG2 CP
    go_upto_region 7 with fail
    rw [← HXE.out, ← HQE.out]
    clear HXE HQE
    go_wp2_with fail
    refine (CR.out X3 HI3.out).mono ?_
    rintro e w4 ⟨a4, n4, c4, b4, k4, d4, rfl, hn4, hk4, o1, o2, hb⟩
    have hb4 := bl_al hb (mobj M.kind a4 n4 c4 b4 k4 d4)
    have HB4 := Lib.hid (bl_tr HB3.out hb4)
    have HI4 := Lib.hid (HI3.out.below hb4)
    have HM4 := Lib.hid (HM3.out.below hb4)
    have HO4 := Lib.hid (HO3.out.below hb4)
    have HP14 := Lib.hid (owns_bel HP1.out hb4)
    have HP24 := Lib.hid (owns_bel HP2.out hb4)
    have HR1 := Lib.hid (o1.alloc (mobj M.kind a4 n4 c4 b4 k4 d4))
    have HR2 := Lib.hid (o2.alloc (mobj M.kind a4 n4 c4 b4 k4 d4))
    have HQ34 := Lib.hid (HQ3.out.below hb4 HQ3.out.lt)
    have HQ4 := Lib.hid (MAt.new w4 M.kind a4 n4 c4 b4 k4 d4)
    have HN4 := Lib.hid hn4
    have HK4 := Lib.hid hk4
    have HS4 : Hid (q3 < w4.heap.size) := Lib.hid (by have := HQ3.out.lt; have := hb.size; omega)
    have HSX : Hid (g < X3.heap.size) := Lib.hid (by have := HQ3.out.lt; have := HS3.out; have := HGL.out; omega)
    obtain ⟨X4, hX4⟩ : ∃ X, X = w4.alloc (mobj M.kind a4 n4 c4 b4 k4 d4) := ⟨_, rfl⟩
    obtain ⟨q4, hq4⟩ : ∃ q, q = w4.heap.size := ⟨_, rfl⟩
    rw [← hX4] at HB4 HI4 HM4 HO4 HP14 HP24 HR1 HR2 HQ34 HQ4
    rw [← hq4] at HQ4 HS4
    have HXE := Lib.hid hX4
    have HQE := Lib.hid hq4
    clear hn4 hk4 o1 o2 hb hb4 hX4 hq4 HB3 HI3 HM3 HO3 HP1 HP2 HQ3 CR
    go_upto_region 8 with fail
    rw [← HXE.out, ← HQE.out]
    clear HXE HQE
    obtain ⟨e0, e1, e2⟩ := HQ34.out
    obtain ⟨f0, f1, f2⟩ := HQ4.out
    have HMA := Lib.hid (⟨own_inI HP14.out HN3.out.symm HT.out.nums, own_in HP24.out HK3.out.symm HT.out.data⟩ : MIn X4 a3 n3 c3 b3 k3 d3 M)
    have HMB := Lib.hid (⟨own_inI HR1.out HN4.out.symm HT.out.nums, own_in HR2.out HK4.out.symm HT.out.data⟩ : MIn X4 a4 n4 c4 b4 k4 d4 M)
    have HL3 : Hid (n3 ≤ 4611686018427387904) := Lib.hid (by have := HN3.out; have := HMN.out; omega)
    go_wp2_with fail
    refine (CS.out X4 _ _ _ _ _ _ _ _ _ _ _ _ HMA.out HMB.out HL3.out).mono ?_
    rintro e w5 ⟨rfl, hb⟩
    have HB5 := Lib.hid (bl_tr HB4.out hb)
    have HI5 := Lib.hid (HI4.out.below hb)
    have HM5 := Lib.hid (HM4.out.below hb)
    have HO5 := Lib.hid (HO4.out.below hb)
    have HP15 := Lib.hid (owns_bel HP14.out hb)
    have HP25 := Lib.hid (owns_bel HP24.out hb)
    have HR15 := Lib.hid (owns_bel HR1.out hb)
    have HR25 := Lib.hid (owns_bel HR2.out hb)
    have HQ35 := Lib.hid (HQ34.out.below hb HQ34.out.lt)
    have HQ45 := Lib.hid (HQ4.out.below hb HQ4.out.lt)
    clear hb HB4 HI4 HM4 HO4 HP14 HP24 HR1 HR2 HQ34 HQ4 e0 e1 e2 f0 f1 f2 HMA HMB
    go_wp2_with fail
    refine (CN.out _).mono ?_
    rintro e w' ⟨rfl, rfl⟩
    go_wp2_with fail
    refine (kept_any l a n c g w5 HI5.out HM5.out hn).mono ?_
    rintro e w6 ⟨rfl, hb⟩
    have HB6 := Lib.hid (bl_tr HB5.out hb)
    have HO6 := Lib.hid (HO5.out.below hb)
    have HP16 := Lib.hid (owns_bel HP15.out hb)
    have HP26 := Lib.hid (owns_bel HP25.out hb)
    have HR16 := Lib.hid (owns_bel HR15.out hb)
    have HR26 := Lib.hid (owns_bel HR25.out hb)
    have HQ36 := Lib.hid (HQ35.out.below hb HQ35.out.lt)
    have HQ46 := Lib.hid (HQ45.out.below hb HQ45.out.lt)
    clear hb HB5 HI5 HM5 HO5 HP15 HP25 HR15 HR25 HQ35 HQ45
    go_wp2_with fail
    refine (over_any _ g (n + 2) n (n + 2) _ w6 HO6.out (by omega) (by omega) (n + 2)).mono ?_
    rintro e w7 ⟨rfl, hg⟩
    have HB7 := Lib.hid (HB6.out.grown hg HB6.out.size (fun x hx => by cases hx; exact HGB.out))
    have HP17 := Lib.hid (own_far HP16.out hg HGL.out)
    have HP27 := Lib.hid (own_far HP26.out hg HGL.out)
    have HR17 := Lib.hid (own_far HR16.out hg HSX.out)
    have HR27 := Lib.hid (own_far HR26.out hg HSX.out)
    have HQ37 := Lib.hid (HQ36.out.far hg (by have := HS3.out; have := HGL.out; omega))
    have HQ47 := Lib.hid (HQ46.out.far hg (by have := HS4.out; have := HS3.out; have := HGL.out; have := HSX.out; omega))
    have HMA := Lib.hid (⟨own_inI HP17.out HN3.out.symm HT.out.nums, own_in HP27.out HK3.out.symm HT.out.data⟩ : MIn w7 a3 n3 c3 b3 k3 d3 M)
    have HMB := Lib.hid (⟨own_inI HR17.out HN4.out.symm HT.out.nums, own_in HR27.out HK4.out.symm HT.out.data⟩ : MIn w7 a4 n4 c4 b4 k4 d4 M)
    obtain ⟨e0, e1, e2⟩ := HQ37.out
    obtain ⟨f0, f1, f2⟩ := HQ47.out
    clear hg HB6 HO6 HP16 HP26 HR16 HR26 HQ36 HQ46
    go_wp2_with fail
    refine (CS.out w7 _ _ _ _ _ _ _ _ _ _ _ _ HMA.out HMB.out HL3.out).mono ?_
    rintro e w8 ⟨rfl, hb⟩
    have HB8 := Lib.hid (bl_tr HB7.out hb)
    clear hb
    go_wp2
    go_ret
    exact ⟨rfl, HB8.out⟩
  · have CL := Lib.hid (fun W => large_yes n (by omega) W)
    clear hI hlg
    go_enter Try.func4, Try.ntmps4
    go_wp2_with fail
    refine (alive6_any w).mono ?_
    rintro e w1 ⟨rfl, hb⟩
    have HB1 := Lib.hid hb
    clear hb
    go_wp2_with fail
    refine (CL.out _).mono ?_
    rintro e w' ⟨rfl, rfl⟩
    go_wp2
    go_ret
    exact ⟨rfl, HB1.out⟩
end Go.Proofs.Ytbfcgnggcgodhaa
