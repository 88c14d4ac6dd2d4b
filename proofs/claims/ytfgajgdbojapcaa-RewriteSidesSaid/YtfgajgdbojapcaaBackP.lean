/- Contract of PacketBack: true. Conditions: the Data and the row came in, the packet's numbers are of their types; rows of at most 2^47 - 4096 bytes. -/
import Derived.Test.YtfgajgdbojapcaaAliA
import Derived.Test.YtfgajgdbojapcaaAptW
namespace Go.Proofs.Ytfgajgdbojapcaa
open Go Go.RowKit
set_option linter.unusedVariables false
set_option linter.unusedSimpArgs false

theorem same22 (w : World) : (binOp .eql 32 (errno 2) (.iface 52 (.int .i64 2))).run Try.prog w = .ok (.bool true) w := by kernel_rfl
def zP : Pk := ⟨0, 0, 0, 0, 0, 0, 0, 0, 0, 0, 0, 0, []⟩
def two (u v : Value) (i : Nat) : Value := if i = 0 then u else v
/-- Two rows of the call's own, one made behind the other. -/
theorem geo2 {w w2 : World} {B S n m k : Nat} {e f : TypeId} {s t : Nat} {u v : Value} {xs ys : List Value} (h1 : w.ownsRow B e s u n xs) (h2 : w2.ownsRow S f t v m ys) (hS : w.heap.size ≤ S) (hk : w2.heap.size ≤ k) (hk2 : w.heap.size ≤ k) : Geo B k 2 (two u v) := by
  constructor
  · intro i j hi hj hij
    have : (i = 0 ∧ j = 1) ∨ (i = 1 ∧ j = 0) := by omega
    rcases this with ⟨rfl, rfl⟩ | ⟨rfl, rfl⟩
    · show u.ownBlock = none ∨ u.ownBlock ≠ v.ownBlock
      cases hu : u.ownBlock with
      | none => exact .inl rfl
      | some g =>
        right
        intro e
        have := (h1.lt g hu).2
        have := (h2.lt g e.symm).1
        omega
    · show v.ownBlock = none ∨ v.ownBlock ≠ u.ownBlock
      cases hv : v.ownBlock with
      | none => exact .inl rfl
      | some g =>
        right
        intro e
        have := (h1.lt g e.symm).2
        have := (h2.lt g hv).1
        omega
  · intro i hi e
    have : i = 0 ∨ i = 1 := by omega
    rcases this with rfl | rfl
    · have := (h1.lt k e).2; omega
    · have := (h2.lt k e).2; omega

theorem owns_bel {w w' : World} {B n size : Nat} {e : TypeId} {v : Value} {xs : List Value} (h : w.ownsRow B e size v n xs) (hb : Below w.heap.size w w') : w'.ownsRow B e size v n xs := by
  refine ⟨h.1, ?_⟩
  rcases h.2 with hn | ⟨g', cap', cur, hv, h1, h2, h3⟩
  · exact .inl hn
  · exact .inr ⟨g', cap', cur, hv, h1, (hb.block g' (lt_of_block h2)).trans h2, h3⟩
set_option maxRecDepth 100000 in
set_option maxHeartbeats 2000000 in
theorem backP_yesyes (p : Pk) (a b : Option Addr) (n c m d : Nat) (lb : List Int) (w : World) (hI : In w a n c p.data) (hJ : In w b m d lb) (ht : Typed p) (hn : n ≤ 140737488351232) (hm : m ≤ 140737488351232) (hok : Ok p) (hib : Is lb) :
    Calls Try.prog 5 #[p.val a n c, .slice b m d] w fun e w' => e = .returned (.bool true) ∧ Below w.heap.size w w' := by
  obtain ⟨W, hW, hB⟩ := Box.start w p a n c
  have HW := Lib.hid hW
  have HB := Lib.hid hB
  have HI := Lib.hid hI
  have HJ := Lib.hid hJ
  have HT := Lib.hid ht
  have CB := Lib.hid (fun W (h : In W a n c p.data) => build_ok p a n c hok ht W h)
  have his := (Is.of hok ht (b := bts p) rfl)
  have CP := Lib.hid (fun (W : World) (g cc : Nat) (h : In W (some ⟨g, 0, none⟩) (20 + segLen p) cc (bts p)) => parse_yes (bts p) (some ⟨g, 0, none⟩) (20 + segLen p) cc W h (by have := hok.len; omega) his.1)
  rw [his.2] at CP
  have HBL := Lib.hid (bts_len p)
  have HFB := Lib.hid (fit_bts ht.data)
  have HDL : Hid (p.data.length ≤ 1480) := Lib.hid (by have := hok.len; unfold segLen at this; omega)
  obtain ⟨N, hN⟩ : ∃ N, N = 20 + segLen p := ⟨_, rfl⟩
  rw [← hN] at CB CP HBL
  clear his hN
  have CQ := Lib.hid (fun W (h : In W b m d lb) => parse_yes lb b m d W h (by omega) hib)
  have tr := dec_typed hJ.fit
  obtain ⟨r, hr⟩ : ∃ r, r = dec lb := ⟨_, rfl⟩
  have hor : Ok r := by rw [hr]; exact hib.1
  have her : bts r = lb := by rw [hr]; exact hib.2
  rw [← hr] at CQ tr
  have CR := Lib.hid (fun W (x : Option Addr) (k e : Nat) (h : In W x k e r.data) => build_ok r x k e hor tr W h)
  have HRL : Hid (lb.length = 20 + segLen r) := Lib.hid (by rw [← her, bts_len])
  have HRF := Lib.hid hJ.fit
  have HTR := Lib.hid tr
  rw [her] at CR
  clear hr hor her tr
  clear hW hB hI hJ ht hok hib
  go_enter Try.func5, Try.ntmps5
  go_wp2_with fail
  rw [HW.out]
  refine (alive_any W).mono ?_
  rintro e w1 ⟨rfl, hb⟩
  have HB1 := Lib.hid (HB.out.next hb)
  obtain ⟨e0, e1, e2, e3, e4, e5, e6, e7, e8, e9, e10, e11, e12⟩ := HB1.out.here
  clear hb HB HW
  go_wp2_with fail
  refine (CB.out w1 (HI.out.below HB1.out.below)).mono ?_
  rintro e w2 ⟨g2, c2, rfl, hown, hb⟩
  have HB2 := Lib.hid (HB1.out.next hb)
  have HX2 := Lib.hid (own_in hown.1 HBL.out HFB.out)
  clear hown hb HB1 e0 e1 e2 e3 e4 e5 e6 e7 e8 e9 e10 e11 e12 CB
  go_wp2_with fail
  refine (CP.out w2 g2 c2 HX2.out).mono ?_
  rintro e w3 ⟨ao, k, cp, rfl, hk, hown, hb⟩
  obtain ⟨q1, hq1⟩ : ∃ q, q = w3.heap.size := ⟨_, rfl⟩
  obtain ⟨X3, hX3⟩ : ∃ X, X = w3.alloc (p.obj ao k cp) := ⟨_, rfl⟩
  have hb3 : Below w2.heap.size w2 X3 := by rw [hX3]; exact bl_al hb _
  have HB3 := Lib.hid (HB2.out.next hb3)
  have HX3 := Lib.hid (HX2.out.below hb3)
  have HQ3 : Hid (PkAt X3 q1 p ao k cp) := Lib.hid (by rw [hX3, hq1]; exact PkAt.new _ _ _ _ _)
  have HS3 : Hid (w2.heap.size ≤ X3.heap.size) := Lib.hid hb3.size
  have HO3 : Hid (X3.ownsRow w2.heap.size 5 1 (.slice ao k cp) k (u8s p.data)) := Lib.hid (by rw [hX3]; exact owns_bel hown (bl_al (Below.refl _ _) _))
  have HK1 := Lib.hid hk
  have HXE := Lib.hid hX3
  have HQE := Lib.hid hq1
  clear hown hb hb3 hk hX3 hq1 HX2
  go_upto_region 6 with fail
  rw [← HXE.out, ← HQE.out]
  clear HXE HQE
  go_wp2_with fail
  refine (CP.out X3 g2 c2 HX3.out).mono ?_
  rintro e w4 ⟨ao2, k2, cp2, rfl, hk, hown, hb⟩
  obtain ⟨q2, hq2⟩ : ∃ q, q = w4.heap.size := ⟨_, rfl⟩
  obtain ⟨X4, hX4⟩ : ∃ X, X = w4.alloc (p.obj ao2 k2 cp2) := ⟨_, rfl⟩
  have hb4 : Below X3.heap.size X3 X4 := by rw [hX4]; exact bl_al hb _
  have HB4 := Lib.hid (HB3.out.next hb4)
  have HS4 : Hid (X3.heap.size ≤ X4.heap.size) := Lib.hid hb4.size
  have HQ4 := Lib.hid (HQ3.out.below hb4 HQ3.out.lt)
  have HR4 : Hid (PkAt X4 q2 p ao2 k2 cp2) := Lib.hid (by rw [hX4, hq2]; exact PkAt.new _ _ _ _ _)
  have HO4 := Lib.hid (owns_bel HO3.out hb4)
  have HP4 : Hid (X4.ownsRow X3.heap.size 5 1 (.slice ao2 k2 cp2) k2 (u8s p.data)) := Lib.hid (by rw [hX4]; exact owns_bel hown (bl_al (Below.refl _ _) _))
  have HK2 := Lib.hid hk
  have HXE := Lib.hid hX4
  have HQE := Lib.hid hq2
  clear hown hb hb4 hk hX4 hq2 HX3 HB3 HQ3 CP
  go_upto_region 7 with fail
  rw [← HXE.out, ← HQE.out]
  clear HXE HQE
  have CS := Lib.hid (same_any p p a ao n c k cp X4 (HI.out.below HB4.out.below) (own_in HO4.out HK1.out.symm HT.out.data))
  rw [sameP_self] at CS
  obtain ⟨e0, e1, e2, e3, e4, e5, e6, e7, e8, e9, e10, e11, e12⟩ := HB4.out.here
  obtain ⟨x0, x1, x2, x3, x4, x5, x6, x7, x8, x9, x10, x11, x12⟩ := HQ4.out
  go_wp2_with fail
  refine CS.out.mono ?_
  rintro e w5 ⟨rfl, hb⟩
  have HB5 := Lib.hid (HB4.out.next hb)
  have HO5 := Lib.hid (owns_bel HO4.out hb)
  have HP5 := Lib.hid (owns_bel HP4.out hb)
  have HQ5 := Lib.hid (HQ4.out.below hb HQ4.out.lt)
  have HR5 := Lib.hid (HR4.out.below hb HR4.out.lt)
  have HSZ : Hid (X4.heap.size ≤ w5.heap.size) := Lib.hid hb.size
  clear hb CS e0 e1 e2 e3 e4 e5 e6 e7 e8 e9 e10 e11 e12 x0 x1 x2 x3 x4 x5 x6 x7 x8 x9 x10 x11 x12 HB4 HO4 HP4 HQ4 HR4
  obtain ⟨x0, x1, x2, x3, x4, x5, x6, x7, x8, x9, x10, x11, x12⟩ := HQ5.out
  obtain ⟨y0, y1, y2, y3, y4, y5, y6, y7, y8, y9, y10, y11, y12⟩ := HR5.out
  have CA : Hid (Calls Try.prog 28 #[.slice (some ⟨w5.heap.size, 0, none⟩) 2 2] (w5.alloc (.cells #[.slice ao k cp, .slice ao2 k2 cp2] 26)) fun e w' => e = .returned (.bool true) ∧ Below w.heap.size (w5.alloc (.cells #[.slice ao k cp, .slice ao2 k2 cp2] 26)) w') := Lib.hid (by
    have o1 := HO3.out
    have o1' := own_base (B' := w.heap.size) HO5.out (by have := HB2.out.below.size; omega)
    have o2' := own_base (B' := w.heap.size) HP5.out (by have := HB2.out.below.size; have := HS3.out; have := HS4.out; omega)
    have s5 := HSZ.out
    have s4 := HB5.out.below.size
    refine apart_any _ w.heap.size w5.heap.size 2 2 (two (.slice ao k cp) (.slice ao2 k2 cp2)) (fun _ => p.data.length) (by omega) ?_ ?_ ?_ ?_ (by simp) (by simp; omega)
    · exact geo2 (own_base HO3.out (B' := w.heap.size) (by have := HB2.out.below.size; omega)) HP5.out (Nat.le_refl _) (Nat.le_refl _) (by have := HS3.out; have := HS4.out; omega)
    · intro i hi
      have : i = 0 ∨ i = 1 := by omega
      rcases this with rfl | rfl
      · have := cells_new w5 [.slice ao k cp, .slice ao2 k2 cp2] 26 (0, 0) 0 _ rfl
        exact this
      · have := cells_new w5 [.slice ao k cp, .slice ao2 k2 cp2] 26 (0, 0) 1 _ rfl
        exact this
    · intro i hi
      have : i = 0 ∨ i = 1 := by omega
      have k1 := HK1.out
      have k2' := HK2.out
      rcases this with rfl | rfl
      · refine ⟨p.data, rfl, ?_⟩
        have := o1'.alloc (.cells #[.slice ao k cp, .slice ao2 k2 cp2] 26)
        rw [k1] at this
        show World.ownsRow _ _ _ _ (.slice ao k cp) _ _
        rw [k1]
        exact this
      · refine ⟨p.data, rfl, ?_⟩
        have := o2'.alloc (.cells #[.slice ao k cp, .slice ao2 k2 cp2] 26)
        rw [k2'] at this
        show World.ownsRow _ _ _ _ (.slice ao2 k2 cp2) _ _
        rw [k2']
        exact this
    · intro i hi
      have := HDL.out
      show p.data.length ≤ _
      omega)
  go_wp2_with fail
  refine CA.out.mono ?_
  rintro e w6 ⟨rfl, hb⟩
  have HW6 : Hid (Below w.heap.size w w6) := Lib.hid ((bl_al HB5.out.below _).trans hb)
  clear hb CA x0 x1 x2 x3 x4 x5 x6 x7 x8 x9 x10 x11 x12 y0 y1 y2 y3 y4 y5 y6 y7 y8 y9 y10 y11 y12
  have HJ6 := Lib.hid (HJ.out.below HW6.out)
  go_wp2_with fail
  refine (CQ.out w6 HJ6.out).mono ?_
  rintro e w7 ⟨aq, kq, cq, rfl, hk, hown, hb⟩
  obtain ⟨q3, hq3⟩ : ∃ q, q = w7.heap.size := ⟨_, rfl⟩
  obtain ⟨X7, hX7⟩ : ∃ X, X = w7.alloc (r.obj aq kq cq) := ⟨_, rfl⟩
  have HW7 : Hid (Below w.heap.size w X7) := Lib.hid (by rw [hX7]; exact bl_al (bl_tr HW6.out hb) _)
  have HQ7 : Hid (PkAt X7 q3 r aq kq cq) := Lib.hid (by rw [hX7, hq3]; exact PkAt.new _ _ _ _ _)
  have HR7 : Hid (In X7 aq kq cq r.data) := Lib.hid (by rw [hX7]; exact (own_in hown hk.symm HTR.out.data).below (bl_al (Below.refl _ _) _))
  have HXE := Lib.hid hX7
  have HQE := Lib.hid hq3
  clear hown hb hk hX7 hq3
  go_upto_region 10 with fail
  rw [← HXE.out, ← HQE.out]
  clear HXE HQE
  obtain ⟨x0, x1, x2, x3, x4, x5, x6, x7, x8, x9, x10, x11, x12⟩ := HQ7.out
  go_wp2_with fail
  refine (CR.out X7 aq kq cq HR7.out).mono ?_
  rintro e w8 ⟨g8, c8, rfl, hown, hb⟩
  have HW8 := Lib.hid (bl_tr HW7.out hb)
  have hr8 := own_in hown.1 HRL.out HRF.out
  have hj8 := HJ.out.below HW8.out
  have sA := str_of hr8.here hr8.len
  have sB := str_of hj8.here hj8.len
  obtain ⟨s, hs⟩ : ∃ s, s = strOfNums lb := ⟨_, rfl⟩
  rw [← hs] at sA sB
  have sn : (s.toList == s.toList) = true := by simp
  clear hown hb hr8 hj8 hs x0 x1 x2 x3 x4 x5 x6 x7 x8 x9 x10 x11 x12
  go_wp2
  go_ret
  exact ⟨rfl, HW8.out⟩

set_option maxRecDepth 100000 in
set_option maxHeartbeats 2000000 in
theorem backP_yesno (p : Pk) (a b : Option Addr) (n c m d : Nat) (lb : List Int) (w : World) (hI : In w a n c p.data) (hJ : In w b m d lb) (ht : Typed p) (hn : n ≤ 140737488351232) (hm : m ≤ 140737488351232) (hok : Ok p) (hib : ¬ Is lb) :
    Calls Try.prog 5 #[p.val a n c, .slice b m d] w fun e w' => e = .returned (.bool true) ∧ Below w.heap.size w w' := by
  obtain ⟨W, hW, hB⟩ := Box.start w p a n c
  have HW := Lib.hid hW
  have HB := Lib.hid hB
  have HI := Lib.hid hI
  have HJ := Lib.hid hJ
  have HT := Lib.hid ht
  have CB := Lib.hid (fun W (h : In W a n c p.data) => build_ok p a n c hok ht W h)
  have his := (Is.of hok ht (b := bts p) rfl)
  have CP := Lib.hid (fun (W : World) (g cc : Nat) (h : In W (some ⟨g, 0, none⟩) (20 + segLen p) cc (bts p)) => parse_yes (bts p) (some ⟨g, 0, none⟩) (20 + segLen p) cc W h (by have := hok.len; omega) his.1)
  rw [his.2] at CP
  have HBL := Lib.hid (bts_len p)
  have HFB := Lib.hid (fit_bts ht.data)
  have HDL : Hid (p.data.length ≤ 1480) := Lib.hid (by have := hok.len; unfold segLen at this; omega)
  obtain ⟨N, hN⟩ : ∃ N, N = 20 + segLen p := ⟨_, rfl⟩
  rw [← hN] at CB CP HBL
  clear his hN
  have CQ := Lib.hid (fun W (h : In W b m d lb) => parse_no lb b m d W h (by omega) hib)
  clear hW hB hI hJ ht hok hib
  go_enter Try.func5, Try.ntmps5
  go_wp2_with fail
  rw [HW.out]
  refine (alive_any W).mono ?_
  rintro e w1 ⟨rfl, hb⟩
  have HB1 := Lib.hid (HB.out.next hb)
  obtain ⟨e0, e1, e2, e3, e4, e5, e6, e7, e8, e9, e10, e11, e12⟩ := HB1.out.here
  clear hb HB HW
  go_wp2_with fail
  refine (CB.out w1 (HI.out.below HB1.out.below)).mono ?_
  rintro e w2 ⟨g2, c2, rfl, hown, hb⟩
  have HB2 := Lib.hid (HB1.out.next hb)
  have HX2 := Lib.hid (own_in hown.1 HBL.out HFB.out)
  clear hown hb HB1 e0 e1 e2 e3 e4 e5 e6 e7 e8 e9 e10 e11 e12 CB
  go_wp2_with fail
  refine (CP.out w2 g2 c2 HX2.out).mono ?_
  rintro e w3 ⟨ao, k, cp, rfl, hk, hown, hb⟩
  obtain ⟨q1, hq1⟩ : ∃ q, q = w3.heap.size := ⟨_, rfl⟩
  obtain ⟨X3, hX3⟩ : ∃ X, X = w3.alloc (p.obj ao k cp) := ⟨_, rfl⟩
  have hb3 : Below w2.heap.size w2 X3 := by rw [hX3]; exact bl_al hb _
  have HB3 := Lib.hid (HB2.out.next hb3)
  have HX3 := Lib.hid (HX2.out.below hb3)
  have HQ3 : Hid (PkAt X3 q1 p ao k cp) := Lib.hid (by rw [hX3, hq1]; exact PkAt.new _ _ _ _ _)
  have HS3 : Hid (w2.heap.size ≤ X3.heap.size) := Lib.hid hb3.size
  have HO3 : Hid (X3.ownsRow w2.heap.size 5 1 (.slice ao k cp) k (u8s p.data)) := Lib.hid (by rw [hX3]; exact owns_bel hown (bl_al (Below.refl _ _) _))
  have HK1 := Lib.hid hk
  have HXE := Lib.hid hX3
  have HQE := Lib.hid hq1
  clear hown hb hb3 hk hX3 hq1 HX2
  go_upto_region 6 with fail
  rw [← HXE.out, ← HQE.out]
  clear HXE HQE
  go_wp2_with fail
  refine (CP.out X3 g2 c2 HX3.out).mono ?_
  rintro e w4 ⟨ao2, k2, cp2, rfl, hk, hown, hb⟩
  obtain ⟨q2, hq2⟩ : ∃ q, q = w4.heap.size := ⟨_, rfl⟩
  obtain ⟨X4, hX4⟩ : ∃ X, X = w4.alloc (p.obj ao2 k2 cp2) := ⟨_, rfl⟩
  have hb4 : Below X3.heap.size X3 X4 := by rw [hX4]; exact bl_al hb _
  have HB4 := Lib.hid (HB3.out.next hb4)
  have HS4 : Hid (X3.heap.size ≤ X4.heap.size) := Lib.hid hb4.size
  have HQ4 := Lib.hid (HQ3.out.below hb4 HQ3.out.lt)
  have HR4 : Hid (PkAt X4 q2 p ao2 k2 cp2) := Lib.hid (by rw [hX4, hq2]; exact PkAt.new _ _ _ _ _)
  have HO4 := Lib.hid (owns_bel HO3.out hb4)
  have HP4 : Hid (X4.ownsRow X3.heap.size 5 1 (.slice ao2 k2 cp2) k2 (u8s p.data)) := Lib.hid (by rw [hX4]; exact owns_bel hown (bl_al (Below.refl _ _) _))
  have HK2 := Lib.hid hk
  have HXE := Lib.hid hX4
  have HQE := Lib.hid hq2
  clear hown hb hb4 hk hX4 hq2 HX3 HB3 HQ3 CP
  go_upto_region 7 with fail
  rw [← HXE.out, ← HQE.out]
  clear HXE HQE
  have CS := Lib.hid (same_any p p a ao n c k cp X4 (HI.out.below HB4.out.below) (own_in HO4.out HK1.out.symm HT.out.data))
  rw [sameP_self] at CS
  obtain ⟨e0, e1, e2, e3, e4, e5, e6, e7, e8, e9, e10, e11, e12⟩ := HB4.out.here
  obtain ⟨x0, x1, x2, x3, x4, x5, x6, x7, x8, x9, x10, x11, x12⟩ := HQ4.out
  go_wp2_with fail
  refine CS.out.mono ?_
  rintro e w5 ⟨rfl, hb⟩
  have HB5 := Lib.hid (HB4.out.next hb)
  have HO5 := Lib.hid (owns_bel HO4.out hb)
  have HP5 := Lib.hid (owns_bel HP4.out hb)
  have HQ5 := Lib.hid (HQ4.out.below hb HQ4.out.lt)
  have HR5 := Lib.hid (HR4.out.below hb HR4.out.lt)
  have HSZ : Hid (X4.heap.size ≤ w5.heap.size) := Lib.hid hb.size
  clear hb CS e0 e1 e2 e3 e4 e5 e6 e7 e8 e9 e10 e11 e12 x0 x1 x2 x3 x4 x5 x6 x7 x8 x9 x10 x11 x12 HB4 HO4 HP4 HQ4 HR4
  obtain ⟨x0, x1, x2, x3, x4, x5, x6, x7, x8, x9, x10, x11, x12⟩ := HQ5.out
  obtain ⟨y0, y1, y2, y3, y4, y5, y6, y7, y8, y9, y10, y11, y12⟩ := HR5.out
  have CA : Hid (Calls Try.prog 28 #[.slice (some ⟨w5.heap.size, 0, none⟩) 2 2] (w5.alloc (.cells #[.slice ao k cp, .slice ao2 k2 cp2] 26)) fun e w' => e = .returned (.bool true) ∧ Below w.heap.size (w5.alloc (.cells #[.slice ao k cp, .slice ao2 k2 cp2] 26)) w') := Lib.hid (by
    have o1 := HO3.out
    have o1' := own_base (B' := w.heap.size) HO5.out (by have := HB2.out.below.size; omega)
    have o2' := own_base (B' := w.heap.size) HP5.out (by have := HB2.out.below.size; have := HS3.out; have := HS4.out; omega)
    have s5 := HSZ.out
    have s4 := HB5.out.below.size
    refine apart_any _ w.heap.size w5.heap.size 2 2 (two (.slice ao k cp) (.slice ao2 k2 cp2)) (fun _ => p.data.length) (by omega) ?_ ?_ ?_ ?_ (by simp) (by simp; omega)
    · exact geo2 (own_base HO3.out (B' := w.heap.size) (by have := HB2.out.below.size; omega)) HP5.out (Nat.le_refl _) (Nat.le_refl _) (by have := HS3.out; have := HS4.out; omega)
    · intro i hi
      have : i = 0 ∨ i = 1 := by omega
      rcases this with rfl | rfl
      · have := cells_new w5 [.slice ao k cp, .slice ao2 k2 cp2] 26 (0, 0) 0 _ rfl
        exact this
      · have := cells_new w5 [.slice ao k cp, .slice ao2 k2 cp2] 26 (0, 0) 1 _ rfl
        exact this
    · intro i hi
      have : i = 0 ∨ i = 1 := by omega
      have k1 := HK1.out
      have k2' := HK2.out
      rcases this with rfl | rfl
      · refine ⟨p.data, rfl, ?_⟩
        have := o1'.alloc (.cells #[.slice ao k cp, .slice ao2 k2 cp2] 26)
        rw [k1] at this
        show World.ownsRow _ _ _ _ (.slice ao k cp) _ _
        rw [k1]
        exact this
      · refine ⟨p.data, rfl, ?_⟩
        have := o2'.alloc (.cells #[.slice ao k cp, .slice ao2 k2 cp2] 26)
        rw [k2'] at this
        show World.ownsRow _ _ _ _ (.slice ao2 k2 cp2) _ _
        rw [k2']
        exact this
    · intro i hi
      have := HDL.out
      show p.data.length ≤ _
      omega)
  go_wp2_with fail
  refine CA.out.mono ?_
  rintro e w6 ⟨rfl, hb⟩
  have HW6 : Hid (Below w.heap.size w w6) := Lib.hid ((bl_al HB5.out.below _).trans hb)
  clear hb CA x0 x1 x2 x3 x4 x5 x6 x7 x8 x9 x10 x11 x12 y0 y1 y2 y3 y4 y5 y6 y7 y8 y9 y10 y11 y12
  have HJ6 := Lib.hid (HJ.out.below HW6.out)
  go_wp2_with fail
  refine (CQ.out w6 HJ6.out).mono ?_
  rintro e w7 ⟨rfl, hb⟩
  obtain ⟨q3, hq3⟩ : ∃ q, q = w7.heap.size := ⟨_, rfl⟩
  obtain ⟨X7, hX7⟩ : ∃ X, X = w7.alloc (zP.obj none 0 0) := ⟨_, rfl⟩
  have HW7 : Hid (Below w.heap.size w X7) := Lib.hid (by rw [hX7]; exact bl_al (bl_tr HW6.out hb) _)
  have hq7 : PkAt X7 q3 zP none 0 0 := by rw [hX7, hq3]; exact PkAt.new _ _ _ _ _
  obtain ⟨x0, x1, x2, x3, x4, x5, x6, x7, x8, x9, x10, x11, x12⟩ := hq7
  have CZ := Lib.hid (same_any zP zP none none 0 0 0 0 X7 (in_nil _) (in_nil _))
  rw [sameP_self] at CZ
  have HXE : Hid (X7 = w7.alloc (.cells zeroCs 28)) := Lib.hid hX7
  have HQE := Lib.hid hq3
  have s2 := same22
  clear hb hX7 hq3
  go_upto_region 10 with fail
  rw [← HXE.out, ← HQE.out]
  clear HXE HQE
  go_wp2_with fail
  refine CZ.out.mono ?_
  rintro e w8 ⟨rfl, hb⟩
  have HW8 := Lib.hid (bl_tr HW7.out hb)
  clear hb x0 x1 x2 x3 x4 x5 x6 x7 x8 x9 x10 x11 x12
  go_wp2
  go_ret
  exact ⟨rfl, HW8.out⟩

set_option maxRecDepth 100000 in
set_option maxHeartbeats 2000000 in
theorem backP_noyes (p : Pk) (a b : Option Addr) (n c m d : Nat) (lb : List Int) (w : World) (hI : In w a n c p.data) (hJ : In w b m d lb) (ht : Typed p) (hn : n ≤ 140737488351232) (hm : m ≤ 140737488351232) (hok : ¬ Ok p) (hib : Is lb) :
    Calls Try.prog 5 #[p.val a n c, .slice b m d] w fun e w' => e = .returned (.bool true) ∧ Below w.heap.size w w' := by
  obtain ⟨W, hW, hB⟩ := Box.start w p a n c
  have HW := Lib.hid hW
  have HB := Lib.hid hB
  have HI := Lib.hid hI
  have HJ := Lib.hid hJ
  have HT := Lib.hid ht
  have CB := Lib.hid (fun W => build_no p a n c hI.len (by omega) hok W)
  have CQ := Lib.hid (fun W (h : In W b m d lb) => parse_yes lb b m d W h (by omega) hib)
  have tr := dec_typed hJ.fit
  obtain ⟨r, hr⟩ : ∃ r, r = dec lb := ⟨_, rfl⟩
  have hor : Ok r := by rw [hr]; exact hib.1
  have her : bts r = lb := by rw [hr]; exact hib.2
  rw [← hr] at CQ tr
  have CR := Lib.hid (fun W (x : Option Addr) (k e : Nat) (h : In W x k e r.data) => build_ok r x k e hor tr W h)
  have HRL : Hid (lb.length = 20 + segLen r) := Lib.hid (by rw [← her, bts_len])
  have HRF := Lib.hid hJ.fit
  have HTR := Lib.hid tr
  rw [her] at CR
  clear hr hor her tr
  clear hW hB hI hJ ht hok hib
  go_enter Try.func5, Try.ntmps5
  go_wp2_with fail
  rw [HW.out]
  refine (alive_any W).mono ?_
  rintro e w1 ⟨rfl, hb⟩
  have HB1 := Lib.hid (HB.out.next hb)
  obtain ⟨e0, e1, e2, e3, e4, e5, e6, e7, e8, e9, e10, e11, e12⟩ := HB1.out.here
  clear hb HB HW
  go_wp2_with fail
  refine (CB.out w1).mono ?_
  rintro e w6 ⟨rfl, hb⟩
  have HW6 : Hid (Below w.heap.size w w6) := Lib.hid (bl_tr HB1.out.below hb)
  clear hb HB1 e0 e1 e2 e3 e4 e5 e6 e7 e8 e9 e10 e11 e12 CB
  have HJ6 := Lib.hid (HJ.out.below HW6.out)
  go_wp2_with fail
  refine (CQ.out w6 HJ6.out).mono ?_
  rintro e w7 ⟨aq, kq, cq, rfl, hk, hown, hb⟩
  obtain ⟨q3, hq3⟩ : ∃ q, q = w7.heap.size := ⟨_, rfl⟩
  obtain ⟨X7, hX7⟩ : ∃ X, X = w7.alloc (r.obj aq kq cq) := ⟨_, rfl⟩
  have HW7 : Hid (Below w.heap.size w X7) := Lib.hid (by rw [hX7]; exact bl_al (bl_tr HW6.out hb) _)
  have HQ7 : Hid (PkAt X7 q3 r aq kq cq) := Lib.hid (by rw [hX7, hq3]; exact PkAt.new _ _ _ _ _)
  have HR7 : Hid (In X7 aq kq cq r.data) := Lib.hid (by rw [hX7]; exact (own_in hown hk.symm HTR.out.data).below (bl_al (Below.refl _ _) _))
  have HXE := Lib.hid hX7
  have HQE := Lib.hid hq3
  clear hown hb hk hX7 hq3
  go_upto_region 10 with fail
  rw [← HXE.out, ← HQE.out]
  clear HXE HQE
  obtain ⟨x0, x1, x2, x3, x4, x5, x6, x7, x8, x9, x10, x11, x12⟩ := HQ7.out
  go_wp2_with fail
  refine (CR.out X7 aq kq cq HR7.out).mono ?_
  rintro e w8 ⟨g8, c8, rfl, hown, hb⟩
  have HW8 := Lib.hid (bl_tr HW7.out hb)
  have hr8 := own_in hown.1 HRL.out HRF.out
  have hj8 := HJ.out.below HW8.out
  have sA := str_of hr8.here hr8.len
  have sB := str_of hj8.here hj8.len
  obtain ⟨s, hs⟩ : ∃ s, s = strOfNums lb := ⟨_, rfl⟩
  rw [← hs] at sA sB
  have sn : (s.toList == s.toList) = true := by simp
  clear hown hb hr8 hj8 hs x0 x1 x2 x3 x4 x5 x6 x7 x8 x9 x10 x11 x12
  go_wp2
  go_ret
  exact ⟨rfl, HW8.out⟩

set_option maxRecDepth 100000 in
set_option maxHeartbeats 2000000 in
theorem backP_nono (p : Pk) (a b : Option Addr) (n c m d : Nat) (lb : List Int) (w : World) (hI : In w a n c p.data) (hJ : In w b m d lb) (ht : Typed p) (hn : n ≤ 140737488351232) (hm : m ≤ 140737488351232) (hok : ¬ Ok p) (hib : ¬ Is lb) :
    Calls Try.prog 5 #[p.val a n c, .slice b m d] w fun e w' => e = .returned (.bool true) ∧ Below w.heap.size w w' := by
  obtain ⟨W, hW, hB⟩ := Box.start w p a n c
  have HW := Lib.hid hW
  have HB := Lib.hid hB
  have HI := Lib.hid hI
  have HJ := Lib.hid hJ
  have HT := Lib.hid ht
  have CB := Lib.hid (fun W => build_no p a n c hI.len (by omega) hok W)
  have CQ := Lib.hid (fun W (h : In W b m d lb) => parse_no lb b m d W h (by omega) hib)
  clear hW hB hI hJ ht hok hib
  go_enter Try.func5, Try.ntmps5
  go_wp2_with fail
  rw [HW.out]
  refine (alive_any W).mono ?_
  rintro e w1 ⟨rfl, hb⟩
  have HB1 := Lib.hid (HB.out.next hb)
  obtain ⟨e0, e1, e2, e3, e4, e5, e6, e7, e8, e9, e10, e11, e12⟩ := HB1.out.here
  clear hb HB HW
  go_wp2_with fail
  refine (CB.out w1).mono ?_
  rintro e w6 ⟨rfl, hb⟩
  have HW6 : Hid (Below w.heap.size w w6) := Lib.hid (bl_tr HB1.out.below hb)
  clear hb HB1 e0 e1 e2 e3 e4 e5 e6 e7 e8 e9 e10 e11 e12 CB
  have HJ6 := Lib.hid (HJ.out.below HW6.out)
  go_wp2_with fail
  refine (CQ.out w6 HJ6.out).mono ?_
  rintro e w7 ⟨rfl, hb⟩
  obtain ⟨q3, hq3⟩ : ∃ q, q = w7.heap.size := ⟨_, rfl⟩
  obtain ⟨X7, hX7⟩ : ∃ X, X = w7.alloc (zP.obj none 0 0) := ⟨_, rfl⟩
  have HW7 : Hid (Below w.heap.size w X7) := Lib.hid (by rw [hX7]; exact bl_al (bl_tr HW6.out hb) _)
  have hq7 : PkAt X7 q3 zP none 0 0 := by rw [hX7, hq3]; exact PkAt.new _ _ _ _ _
  obtain ⟨x0, x1, x2, x3, x4, x5, x6, x7, x8, x9, x10, x11, x12⟩ := hq7
  have CZ := Lib.hid (same_any zP zP none none 0 0 0 0 X7 (in_nil _) (in_nil _))
  rw [sameP_self] at CZ
  have HXE : Hid (X7 = w7.alloc (.cells zeroCs 28)) := Lib.hid hX7
  have HQE := Lib.hid hq3
  have s2 := same22
  clear hb hX7 hq3
  go_upto_region 10 with fail
  rw [← HXE.out, ← HQE.out]
  clear HXE HQE
  go_wp2_with fail
  refine CZ.out.mono ?_
  rintro e w8 ⟨rfl, hb⟩
  have HW8 := Lib.hid (bl_tr HW7.out hb)
  clear hb x0 x1 x2 x3 x4 x5 x6 x7 x8 x9 x10 x11 x12
  go_wp2
  go_ret
  exact ⟨rfl, HW8.out⟩

theorem backP_any (p : Pk) (a b : Option Addr) (n c m d : Nat) (lb : List Int) (w : World) (hI : In w a n c p.data) (hJ : In w b m d lb) (ht : Typed p) (hn : n ≤ 140737488351232) (hm : m ≤ 140737488351232) :
    Calls Try.prog 5 #[p.val a n c, .slice b m d] w fun e w' => e = .returned (.bool true) ∧ Below w.heap.size w w' := by
  by_cases hok : Ok p
  · by_cases hib : Is lb
    · exact backP_yesyes p a b n c m d lb w hI hJ ht hn hm hok hib
    · exact backP_yesno p a b n c m d lb w hI hJ ht hn hm hok hib
  · by_cases hib : Is lb
    · exact backP_noyes p a b n c m d lb w hI hJ ht hn hm hok hib
    · exact backP_nono p a b n c m d lb w hI hJ ht hn hm hok hib
end Go.Proofs.Ytfgajgdbojapcaa
