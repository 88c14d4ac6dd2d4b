/- Contract of PacketParses: true. Conditions: the row came in, of at most 2^47 - 4096 bytes. -/
import Derived.Test.YtfgajgdbojapcaaFlowA
import Derived.Test.YtfgajgdbojapcaaBuilds
import Derived.Test.YtfgajgdbojapcaaSameB
namespace Go.Proofs.Ytfgajgdbojapcaa
open Go Go.RowKit
set_option linter.unusedVariables false
set_option linter.unusedSimpArgs false

/-- What PacketParses holds: the copy, the packet of the copy, the document's packet. -/
structure Ps (w : World) (g n c q1 q2 B1 B2 : Nat) (a : Option Addr) (l : List Int) (p : Pk) (ao : Option Addr) (k cp : Nat) (ao2 : Option Addr) (k2 cp2 : Nat) (wx : World) : Prop where
  row : In wx a n c l
  own : Own wx w.heap.size g (n + 2) (n + 2) (l ++ [165, 90])
  p1 : PkAt wx q1 p ao k cp
  p2 : PkAt wx q2 p ao2 k2 cp2
  o1 : wx.ownsRow B1 5 1 (.slice ao k cp) k (u8s p.data)
  o2 : wx.ownsRow B2 5 1 (.slice ao2 k2 cp2) k2 (u8s p.data)
  below : Below w.heap.size w wx
theorem Ps.next {w : World} {g n c q1 q2 B1 B2 : Nat} {a : Option Addr} {l : List Int} {p : Pk} {ao : Option Addr} {k cp : Nat} {ao2 : Option Addr} {k2 cp2 : Nat} {wx wy : World} (h : Ps w g n c q1 q2 B1 B2 a l p ao k cp ao2 k2 cp2 wx) (hb : Below wx.heap.size wx wy) : Ps w g n c q1 q2 B1 B2 a l p ao k cp ao2 k2 cp2 wy :=
  ⟨h.row.below hb, h.own.below hb, h.p1.below hb h.p1.lt, h.p2.below hb h.p2.lt, owns_below h.o1 hb, owns_below h.o2 hb, bl_tr h.below hb⟩
theorem owns_far {w w' : World} {B g n size : Nat} {e : TypeId} {v : Value} {xs : List Value} (h : w.ownsRow B e size v n xs) (hg : w.grownBy w' (some g)) (hgB : g < B) : w'.ownsRow B e size v n xs := by
  refine h.kept hg ?_
  cases hv : v.ownBlock with
  | none => exact .inl rfl
  | some k => exact .inr (fun e => by have := (h.lt k hv).1; cases e; omega)
theorem PkAt.far {w w' : World} {q g : Nat} {p : Pk} {ao : Option Addr} {k cp : Nat} (h : PkAt w q p ao k cp) (hg : w.grownBy w' (some g)) (hne : q ≠ g) : PkAt w' q p ao k cp := by
  have hn : ∀ o, some (⟨q, o, none⟩ : Addr).block ≠ some g := fun o e => hne (by simpa using e)
  exact ⟨hg.cell h.c0 (hn _), hg.cell h.c1 (hn _), hg.cell h.c2 (hn _), hg.cell h.c3 (hn _), hg.cell h.c4 (hn _), hg.cell h.c5 (hn _), hg.cell h.c6 (hn _), hg.cell h.c7 (hn _), hg.cell h.c8 (hn _), hg.cell h.c9 (hn _), hg.cell h.c10 (hn _), hg.cell h.c11 (hn _), hg.cell h.c12 (hn _)⟩
theorem fl_neq (p : Pk) (w : World) : (binOp .neq 25 (.agg #[.int .i64 p.proto, .int .u32 p.src, .int .i64 p.sp, .int .u32 p.dst, .int .i64 p.dp]) (.agg #[.int .i64 p.proto, .int .u32 p.src, .int .i64 p.sp, .int .u32 p.dst, .int .i64 p.dp])).run Try.prog w = .ok (.bool false) w := by
  go_simp

set_option maxRecDepth 100000 in
set_option maxHeartbeats 2000000 in
theorem parses_any (l : List Int) (a : Option Addr) (n c : Nat) (w : World) (hI : In w a n c l) (hn : n ≤ 140737488351232) :
    Calls Try.prog 4 #[.slice a n c] w fun e w' => e = .returned (.bool true) ∧ Below w.heap.size w w' := by
  obtain ⟨p, E, f, bb, hS⟩ := Says.some l
  have HS := Lib.hid hS
  have HI := Lib.hid hI
  have HT := Lib.hid (hS.typed hI.fit)
  have hnb : n ≤ 4611686018427387904 := by omega
  have HNB := Lib.hid hnb
  clear hS hI hnb
  go_enter Try.func4, Try.ntmps4
  go_wp2_with fail
  refine (alive_any w).mono ?_
  rintro e w1 ⟨rfl, hb⟩
  have HB1 := Lib.hid hb
  clear hb
  go_wp2_with fail
  refine (copy_any l a n c w1 (HI.out.below HB1.out) hn).mono ?_
  rintro e w2 ⟨g, rfl, hown, hb⟩
  have HB2 := Lib.hid (bl_tr HB1.out hb)
  have HO2 : Hid (Own w2 w.heap.size g (n + 2) (n + 2) (l ++ [165, 90])) := Lib.hid ⟨own_base hown.1 HB1.out.size, hown.2.1, Nat.le_trans HB1.out.size hown.2.2⟩
  have HM2 := Lib.hid (hown.marked HI.out.len)
  have hg2 : g < w2.heap.size := (hown.1.lt g rfl).2
  have HG2 := Lib.hid hg2
  clear hown hb hg2
  go_wp2_with fail
  refine (parse_t HS.out (some ⟨g, 0, none⟩) n (n + 2) w2 (HM2.out.in HI.out.len HI.out.fit) HNB.out).mono ?_
  rintro e w3 ⟨ao, k, cp, rfl, hk, hown, hb⟩
  have HO3 := Lib.hid (HO2.out.below hb)
  have HP3 := Lib.hid hown
  have HB3 := Lib.hid (bl_tr HB2.out hb)
  have HK1 := Lib.hid hk
  have hz2 := hb.size
  have HZ2 := Lib.hid hz2
  clear hown hb hk hz2 HO2 HB2 HM2
  obtain ⟨q1, hq1⟩ : ∃ q, q = w3.heap.size := ⟨_, rfl⟩
  obtain ⟨X3, hX3⟩ : ∃ X, X = w3.alloc (p.obj ao k cp) := ⟨_, rfl⟩
  have HX3 : Hid (PkAt X3 q1 p ao k cp ∧ Below w3.heap.size w3 X3 ∧ g < q1) := Lib.hid (by
    have := HG2.out
    have := HZ2.out
    rw [hX3, hq1]
    exact ⟨PkAt.new _ _ _ _ _, bl_al (Below.refl _ _) _, by omega⟩)
  have HXE := Lib.hid hX3
  have HQE := Lib.hid hq1
  clear hX3 hq1
  go_upto_region 5 with fail
  rw [← HXE.out, ← HQE.out]
  go_wp2_with fail
  refine (refParse_t HS.out a n c X3 (HI.out.below (bl_tr HB3.out HX3.out.2.1)) HNB.out).mono ?_
  rintro e w4 ⟨ao2, k2, cp2, rfl, hk2, hown, hb⟩
  have hg4 : g < X3.heap.size := by have := HX3.out.1.lt; have := HX3.out.2.2; omega
  obtain ⟨q2, hq2⟩ : ∃ q, q = w4.heap.size := ⟨_, rfl⟩
  obtain ⟨X4, hX4⟩ : ∃ X, X = w4.alloc (p.obj ao2 k2 cp2) := ⟨_, rfl⟩
  have hb4 : Below X3.heap.size X3 X4 := by rw [hX4]; exact bl_al hb _
  have HP4 : Hid (Ps w g n c q1 q2 w2.heap.size X3.heap.size a l p ao k cp ao2 k2 cp2 X4) := Lib.hid (by
    have h3 := HX3.out.2.1
    refine ⟨HI.out.below (bl_tr (bl_tr HB3.out h3) hb4), (HO3.out.below h3).below hb4, HX3.out.1.below hb4 HX3.out.1.lt, ?_, owns_below (owns_below HP3.out h3) hb4, ?_, bl_tr (bl_tr HB3.out h3) hb4⟩
    · rw [hX4, hq2]; exact PkAt.new _ _ _ _ _
    · rw [hX4]; exact owns_below hown (bl_al (Below.refl _ _) _))
  have HQ2 : Hid (g < q1 ∧ g < q2 ∧ g < w2.heap.size ∧ g < X3.heap.size ∧ w.heap.size ≤ g) := Lib.hid (by
    have h1 := HX3.out.2.2
    have h2 := hb.size
    have h3 := HO3.out.2.2
    have h4 := HG2.out
    exact ⟨h1, by omega, h4, hg4, h3⟩)
  have HXE4 := Lib.hid hX4
  have HQE4 := Lib.hid hq2
  have HK2 := Lib.hid hk2
  clear hown hb hb4 hX4 hq2 hg4 hk2 HX3 HXE HQE HP3 HO3 HB3 HB1 HZ2 HG2
  go_upto_region 6 with fail
  rw [← HXE4.out, ← HQE4.out]
  have hmk := HP4.out.own.marked HI.out.len
  have HM4 := Lib.hid (hmk.in HI.out.len HI.out.fit)
  clear hmk HXE4 HQE4
  go_wp2_with fail
  refine (flow_t HS.out (some ⟨g, 0, none⟩) n (n + 2) X4 HM4.out HNB.out).mono ?_
  rintro e w5 ⟨rfl, hb⟩
  obtain ⟨q3, hq3⟩ : ∃ q, q = w5.heap.size := ⟨_, rfl⟩
  obtain ⟨X5, hX5⟩ : ∃ X, X = w5.alloc p.fobj := ⟨_, rfl⟩
  have HP5 : Hid (Ps w g n c q1 q2 w2.heap.size X3.heap.size a l p ao k cp ao2 k2 cp2 X5) := Lib.hid (by rw [hX5]; exact (HP4.out.next hb).next (bl_al (Below.refl _ _) _))
  have HF5 : Hid (FlAt X5 q3 p) := Lib.hid (by rw [hX5, hq3]; exact FlAt.new _ _)
  have HXE5 := Lib.hid hX5
  have HQE5 := Lib.hid hq3
  clear hb hX5 hq3 HP4 HM4
  go_upto_region 7 with fail
  rw [← HXE5.out, ← HQE5.out]
  clear HXE5 HQE5
  have CS := Lib.hid (fun W (h : Ps w g n c q1 q2 w2.heap.size X3.heap.size a l p ao k cp ao2 k2 cp2 W) => refSame_any p p ao ao2 k cp k2 cp2 W (own_row h.o1 HK1.out.symm HT.out.data) (own_row h.o2 HK2.out.symm HT.out.data))
  rw [sameP_self] at CS
  obtain ⟨x0, x1, x2, x3, x4, x5, x6, x7, x8, x9, x10, x11, x12⟩ := HP5.out.p1
  obtain ⟨y0, y1, y2, y3, y4, y5, y6, y7, y8, y9, y10, y11, y12⟩ := HP5.out.p2
  go_wp2_with fail
  refine (CS.out X5 HP5.out).mono ?_
  rintro e w6 ⟨rfl, hb⟩
  have HP6 := Lib.hid (HP5.out.next hb)
  obtain ⟨f0, f1, f2, f3, f4⟩ := HF5.out.below hb (World.block_lt_of_cell? _ _ HF5.out.c0)
  clear hb HP5 x0 x1 x2 x3 x4 x5 x6 x7 x8 x9 x10 x11 x12 y0 y1 y2 y3 y4 y5 y6 y7 y8 y9 y10 y11 y12
  obtain ⟨x0, x1, x2, x3, x4, x5, x6, x7, x8, x9, x10, x11, x12⟩ := HP6.out.p1
  obtain ⟨y0, y1, y2, y3, y4, y5, y6, y7, y8, y9, y10, y11, y12⟩ := HP6.out.p2
  have fq := fl_neq p
  have t1 : (f != f) = false := by simp
  have t2 : (f == 0) = bb := HS.out.ok
  have t3 : (bb != bb) = false := by simp
  have CK := Lib.hid (kept_any l a n c g w6 HP6.out.row (HP6.out.own.marked HI.out.len) hn)
  go_wp2_with (go_at_call 19; refine (num_t HS.out _).mono ?_; rintro e w' ⟨rfl, rfl⟩)
  refine CK.out.mono ?_
  rintro e w7 ⟨rfl, hb⟩
  have HP7 := Lib.hid (HP6.out.next hb)
  clear hb HP6 HF5 CK CS fq t1 t2 t3 f0 f1 f2 f3 f4 x0 x1 x2 x3 x4 x5 x6 x7 x8 x9 x10 x11 x12 y0 y1 y2 y3 y4 y5 y6 y7 y8 y9 y10 y11 y12
  go_wp2_with fail
  refine (over_any _ g _ n (n + 2) _ w7 HP7.out.own (by omega) (by omega) (n + 2)).mono ?_
  rintro e w8 ⟨rfl, hg⟩
  have HX := Lib.hid (HP7.out.p1.far hg (by have := HQ2.out; omega))
  have HY := Lib.hid (HP7.out.p2.far hg (by have := HQ2.out; omega))
  have HO1 := Lib.hid (own_row (owns_far HP7.out.o1 hg (by have := HQ2.out; omega)) HK1.out.symm HT.out.data)
  have HO2 := Lib.hid (own_row (owns_far HP7.out.o2 hg (by have := HQ2.out; omega)) HK2.out.symm HT.out.data)
  have HB8 := Lib.hid (HP7.out.below.grown hg HP7.out.below.size (fun k hk => by cases hk; exact HQ2.out.2.2.2.2))
  clear hg HP7
  obtain ⟨x0, x1, x2, x3, x4, x5, x6, x7, x8, x9, x10, x11, x12⟩ := HX.out
  obtain ⟨y0, y1, y2, y3, y4, y5, y6, y7, y8, y9, y10, y11, y12⟩ := HY.out
  have CT := Lib.hid (refSame_any p p ao ao2 k cp k2 cp2 w8 HO1.out HO2.out)
  rw [sameP_self] at CT
  go_wp2_with fail
  refine CT.out.mono ?_
  rintro e w9 ⟨rfl, hb⟩
  have HB9 := Lib.hid (bl_tr HB8.out hb)
  clear hb
  go_wp2
  go_ret
  exact ⟨rfl, HB9.out⟩
end Go.Proofs.Ytfgajgdbojapcaa
