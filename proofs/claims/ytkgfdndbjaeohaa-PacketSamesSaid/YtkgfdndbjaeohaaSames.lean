/- Contract of PacketSames: true. Condition: both Datas came in, the first of at most 2^47 - 4096 bytes. -/
import Derived.Test.YtkgfdndbjaeohaaAliA
import Derived.Test.YtkgfdndbjaeohaaSameB
namespace Go.Proofs.Ytkgfdndbjaeohaa
open Go Go.RowKit
set_option linter.unusedVariables false
set_option linter.unusedSimpArgs false

/-- Three packets lie in memory, and their Datas. -/
structure Tri (w : World) (r : Nat) (p q : Pk) (a b ao : Option Addr) (n c m d c2 : Nat) (wx : World) : Prop where
  kp : PkAt wx w.heap.size p a n c
  kq : PkAt wx (w.heap.size + 1) q b m d
  kr : PkAt wx r p ao n c2
  pd : In wx a n c p.data
  qd : In wx b m d q.data
  rd : In wx ao n c2 p.data
  below : Below w.heap.size w wx
theorem Tri.next {w : World} {r : Nat} {p q : Pk} {a b ao : Option Addr} {n c m d c2 : Nat} {wx wy : World} (h : Tri w r p q a b ao n c m d c2 wx) (hb : Below wx.heap.size wx wy) : Tri w r p q a b ao n c m d c2 wy :=
  ⟨h.kp.below hb h.kp.lt, h.kq.below hb h.kq.lt, h.kr.below hb h.kr.lt, h.pd.below hb, h.qd.below hb, h.rd.below hb, bl_tr h.below hb⟩
abbrev TriS (w : World) (r : Nat) (p q : Pk) (a b ao : Option Addr) (n c m d c2 : Nat) (wx : World) : Prop :=
  wx.cell? ⟨w.heap.size, 0, none⟩ = some (.int .i64 p.tos) ∧ wx.cell? ⟨w.heap.size, 1, none⟩ = some (.int .i64 p.id) ∧ wx.cell? ⟨w.heap.size, 2, none⟩ = some (.int .i64 p.ttl) ∧ wx.cell? ⟨w.heap.size, 3, none⟩ = some (.int .i64 p.proto) ∧ wx.cell? ⟨w.heap.size, 4, none⟩ = some (.int .u32 p.src) ∧ wx.cell? ⟨w.heap.size, 5, none⟩ = some (.int .i64 p.sp) ∧ wx.cell? ⟨w.heap.size, 6, none⟩ = some (.int .u32 p.dst) ∧ wx.cell? ⟨w.heap.size, 7, none⟩ = some (.int .i64 p.dp) ∧ wx.cell? ⟨w.heap.size, 8, none⟩ = some (.int .u32 p.seq) ∧ wx.cell? ⟨w.heap.size, 9, none⟩ = some (.int .u32 p.ack) ∧ wx.cell? ⟨w.heap.size, 10, none⟩ = some (.int .i64 p.flags) ∧ wx.cell? ⟨w.heap.size, 11, none⟩ = some (.int .i64 p.win) ∧ wx.cell? ⟨w.heap.size, 12, none⟩ = some (.slice a n c) ∧ wx.cell? ⟨w.heap.size + 1, 0, none⟩ = some (.int .i64 q.tos) ∧ wx.cell? ⟨w.heap.size + 1, 1, none⟩ = some (.int .i64 q.id) ∧ wx.cell? ⟨w.heap.size + 1, 2, none⟩ = some (.int .i64 q.ttl) ∧ wx.cell? ⟨w.heap.size + 1, 3, none⟩ = some (.int .i64 q.proto) ∧ wx.cell? ⟨w.heap.size + 1, 4, none⟩ = some (.int .u32 q.src) ∧ wx.cell? ⟨w.heap.size + 1, 5, none⟩ = some (.int .i64 q.sp) ∧ wx.cell? ⟨w.heap.size + 1, 6, none⟩ = some (.int .u32 q.dst) ∧ wx.cell? ⟨w.heap.size + 1, 7, none⟩ = some (.int .i64 q.dp) ∧ wx.cell? ⟨w.heap.size + 1, 8, none⟩ = some (.int .u32 q.seq) ∧ wx.cell? ⟨w.heap.size + 1, 9, none⟩ = some (.int .u32 q.ack) ∧ wx.cell? ⟨w.heap.size + 1, 10, none⟩ = some (.int .i64 q.flags) ∧ wx.cell? ⟨w.heap.size + 1, 11, none⟩ = some (.int .i64 q.win) ∧ wx.cell? ⟨w.heap.size + 1, 12, none⟩ = some (.slice b m d) ∧ wx.cell? ⟨r, 0, none⟩ = some (.int .i64 p.tos) ∧ wx.cell? ⟨r, 1, none⟩ = some (.int .i64 p.id) ∧ wx.cell? ⟨r, 2, none⟩ = some (.int .i64 p.ttl) ∧ wx.cell? ⟨r, 3, none⟩ = some (.int .i64 p.proto) ∧ wx.cell? ⟨r, 4, none⟩ = some (.int .u32 p.src) ∧ wx.cell? ⟨r, 5, none⟩ = some (.int .i64 p.sp) ∧ wx.cell? ⟨r, 6, none⟩ = some (.int .u32 p.dst) ∧ wx.cell? ⟨r, 7, none⟩ = some (.int .i64 p.dp) ∧ wx.cell? ⟨r, 8, none⟩ = some (.int .u32 p.seq) ∧ wx.cell? ⟨r, 9, none⟩ = some (.int .u32 p.ack) ∧ wx.cell? ⟨r, 10, none⟩ = some (.int .i64 p.flags) ∧ wx.cell? ⟨r, 11, none⟩ = some (.int .i64 p.win) ∧ wx.cell? ⟨r, 12, none⟩ = some (.slice ao n c2) ∧ Tri w r p q a b ao n c m d c2 wx
theorem Tri.s {w : World} {r : Nat} {p q : Pk} {a b ao : Option Addr} {n c m d c2 : Nat} {wx : World} (h : Tri w r p q a b ao n c m d c2 wx) : TriS w r p q a b ao n c m d c2 wx :=
  ⟨h.kp.c0, h.kp.c1, h.kp.c2, h.kp.c3, h.kp.c4, h.kp.c5, h.kp.c6, h.kp.c7, h.kp.c8, h.kp.c9, h.kp.c10, h.kp.c11, h.kp.c12, h.kq.c0, h.kq.c1, h.kq.c2, h.kq.c3, h.kq.c4, h.kq.c5, h.kq.c6, h.kq.c7, h.kq.c8, h.kq.c9, h.kq.c10, h.kq.c11, h.kq.c12, h.kr.c0, h.kr.c1, h.kr.c2, h.kr.c3, h.kr.c4, h.kr.c5, h.kr.c6, h.kr.c7, h.kr.c8, h.kr.c9, h.kr.c10, h.kr.c11, h.kr.c12, h⟩
theorem keepTri {w : World} {r : Nat} {p q : Pk} {a b ao : Option Addr} {n c m d c2 : Nat} {w1 w2 : World} (h : TriS w r p q a b ao n c m d c2 w1) (hb : Below w1.heap.size w1 w2) : TriS w r p q a b ao n c m d c2 w2 := (h.2.2.2.2.2.2.2.2.2.2.2.2.2.2.2.2.2.2.2.2.2.2.2.2.2.2.2.2.2.2.2.2.2.2.2.2.2.2.2.next hb).s

set_option maxRecDepth 100000 in
set_option maxHeartbeats 4000000 in
theorem sames_any (p q : Pk) (a b : Option Addr) (n c m d : Nat) (w : World) (hA : In w a n c p.data) (hB : In w b m d q.data) (hn : n ≤ 140737488351232) :
    Calls Try.prog 7 #[p.val a n c, q.val b m d] w fun e w' => e = .returned (.bool true) ∧ Below w.heap.size w w' := by
  obtain ⟨i0, hi0, hz0, hz1, hz2⟩ := info_parts info5
  obtain ⟨W, hW⟩ : ∃ W, (w.alloc (p.obj a n c)).alloc (q.obj b m d) = W := ⟨_, rfl⟩
  have hp0 : PkAt W w.heap.size p a n c := by rw [← hW]; exact (PkAt.new w p a n c).below (bl_al (Below.refl _ _) _) (by simp)
  have hq0 : PkAt W (w.heap.size + 1) q b m d := by
    rw [← hW]
    have h := PkAt.new (w.alloc (p.obj a n c)) q b m d
    have e : (w.alloc (p.obj a n c)).heap.size = w.heap.size + 1 := by simp
    rw [e] at h
    exact h
  have hb0 : Below w.heap.size w W := by rw [← hW]; exact bl_al (bl_al (Below.refl _ _) _) _
  have HW := Lib.hid hW
  have HP0 := Lib.hid hp0
  have HQ0 := Lib.hid hq0
  have HB0 := Lib.hid hb0
  have HA := Lib.hid hA
  have HB := Lib.hid hB
  clear hA hB hW hp0 hq0 hb0
  go_enter Try.func7, Try.ntmps7
  go_wp2_with fail
  rw [HW.out]
  refine (alive_any W).mono ?_
  rintro e w1 ⟨rfl, hb⟩
  have HP1 := Lib.hid (HP0.out.below hb HP0.out.lt)
  have HQ1 := Lib.hid (HQ0.out.below hb HQ0.out.lt)
  have HB1 := Lib.hid (bl_tr HB0.out hb)
  have hlq := HQ1.out.lt
  obtain ⟨x0, x1, x2, x3, x4, x5, x6, x7, x8, x9, x10, x11, x12⟩ := HP1.out
  clear hb HP0 HQ0 HB0 HW
  obtain ⟨w2, hw2⟩ : ∃ w2, w2 = w1.alloc (p.obj a n c) := ⟨_, rfl⟩
  have hs2 : w2.heap.size = w1.heap.size + 1 := by rw [hw2]; simp
  have hr2 : w2.heap[w1.heap.size]? = some (.cells (p.cs a n c) 28 (0, 0)) := by rw [hw2]; exact heap_alloc_new _ _
  have hb2 : Below w1.heap.size w1 w2 := by rw [hw2]; exact bl_al (Below.refl _ _) _
  have HI2 := Lib.hid ((HA.out.below (bl_tr HB1.out hb2)).below (bl_al (Below.refl _ _) (.cells #[] 5)))
  have HR2 := Lib.hid hr2
  have HB2 := Lib.hid hb2
  have HS2 := Lib.hid hs2
  have own0 := Lib.hid (World.ownsRow_made (e := 5) (size := 1) w2 #[] 0 (Nat.le_refl _) (by decide) rfl)
  have HW2 := Lib.hid hw2.symm
  clear hw2 hr2 hb2 hs2
  go_upto_region 4 with fail
  rw [HW2.out]
  have HP2 := Lib.hid (HP1.out.below HB2.out HP1.out.lt)
  have HQ2 := Lib.hid (HQ1.out.below HB2.out HQ1.out.lt)
  have y12 := HP2.out.c12
  have ylt := HP2.out.lt
  clear x0 x1 x2 x3 x4 x5 x6 x7 x8 x9 x10 x11 x12

  go_wp2_with (at_builtin; refine append_any rfl (.tmp 9) (.tmp 11) 26 rfl w2.heap.size 5 i0 (.int .u8 0) 1 1 Try.underlying26 hi0 hz0 hz1 hz2 rfl (by decide) _ 0 [] rfl own0.out a n c (u8s p.data) rfl HI2.out.zero ?c1 HI2.out.cells (u8s_one _) ?c2 ?c3 ?c4 ?_)
  case c1 => unfold u8s; rw [List.length_map, HI2.out.len]; omega
  case c2 => unfold maxLen; omega
  case c3 => omega
  case c4 => simp
  intro v3 w3 hown hgrow
  have hb3 : Below w2.heap.size w2 w3 := (bl_al (Below.refl w2.heap.size w2) (.cells #[] 5)).grown hgrow (by simp) (fun k hk => by cases hk; exact Nat.le_refl _)
  obtain ⟨ao, c2, rfl⟩ := own_form hown
  have hO3 : w3.ownsRow w2.heap.size 5 1 (.slice ao n c2) n (u8s p.data) := hown
  have HO3 := Lib.hid hO3
  have hr3 : w3.heap[w1.heap.size]? = some (.cells (p.cs a n c) 28 (0, 0)) := (hb3.block _ (by rw [HS2.out]; omega)).trans HR2.out
  have HR3 := Lib.hid hr3
  have r12 := (PkAt.of hr3).c12
  have rf := frozen_of_row w3 w1.heap.size 12 _ _ hr3
  have HP3 := Lib.hid (HP2.out.below hb3 HP2.out.lt)
  have HQ3 := Lib.hid (HQ2.out.below hb3 HQ2.out.lt)
  have HB3 := Lib.hid (bl_tr (bl_tr HB1.out HB2.out) hb3)
  have hlp : w.heap.size < w1.heap.size := HP1.out.lt
  obtain ⟨r, hr⟩ : ∃ r, r = w1.heap.size := ⟨_, rfl⟩
  have hrs : r < w2.heap.size := by rw [hr, HS2.out]; omega
  rw [← hr] at hlp hlq HR3 r12 rf
  have HX : Hid (Tri w r p q a b ao n c m d c2 (w3.setCell ⟨r, 12, none⟩ (.slice ao n c2))) := Lib.hid (by
    have hset := heap_setCell_same w3 r 12 _ _ (.slice ao n c2) HR3.out
    have hbel : Below r w3 (w3.setCell ⟨r, 12, none⟩ (.slice ao n c2)) := (Below.refl r w3).setCell (p := ⟨r, 12, none⟩) (Nat.le_refl _) _
    have hbw : Below w.heap.size w (w3.setCell ⟨r, 12, none⟩ (.slice ao n c2)) := HB3.out.trans (hbel.mono (by omega))
    exact ⟨HP3.out.below hbel hlp, HQ3.out.below hbel hlq, PkAt.of hset, HA.out.below hbw, HB.out.below hbw, own_in (ownsRow_setCell_below HO3.out hrs _) HA.out.len HA.out.fit, hbw⟩)
  clear hown hgrow hb3 hO3 hr3 HP3 HQ3 HB3 HP2 HQ2 HP1 HQ1 HB1 HB2 HI2 HR2 own0 y12 ylt HO3 HR3 HW2
  have hrr := hr.symm
  rw [hrr]
  clear hr hrr
  go_wp2_with fail
  obtain ⟨X, hX⟩ : ∃ X, X = w3.setCell ⟨r, 12, none⟩ (.slice ao n c2) := ⟨_, rfl⟩
  rw [← hX] at HX
  rw [← hX]
  clear hX r12 rf
  have hS0 := (HX.out.next (Below.refl _ _).drew).s
  have C1 := Lib.hid (fun (W : World) (h : TriS w r p q a b ao n c m d c2 W) => same_any p q a b n c m d W (h.2.2.2.2.2.2.2.2.2.2.2.2.2.2.2.2.2.2.2.2.2.2.2.2.2.2.2.2.2.2.2.2.2.2.2.2.2.2.2.pd) (h.2.2.2.2.2.2.2.2.2.2.2.2.2.2.2.2.2.2.2.2.2.2.2.2.2.2.2.2.2.2.2.2.2.2.2.2.2.2.2.qd))
  have C2 := Lib.hid (fun (W : World) (h : TriS w r p q a b ao n c m d c2 W) => refSame_any p q a b n c m d W (h.2.2.2.2.2.2.2.2.2.2.2.2.2.2.2.2.2.2.2.2.2.2.2.2.2.2.2.2.2.2.2.2.2.2.2.2.2.2.2.pd) (h.2.2.2.2.2.2.2.2.2.2.2.2.2.2.2.2.2.2.2.2.2.2.2.2.2.2.2.2.2.2.2.2.2.2.2.2.2.2.2.qd))
  have C3 := Lib.hid (fun (W : World) (h : TriS w r p q a b ao n c m d c2 W) => same_any p p a ao n c n c2 W (h.2.2.2.2.2.2.2.2.2.2.2.2.2.2.2.2.2.2.2.2.2.2.2.2.2.2.2.2.2.2.2.2.2.2.2.2.2.2.2.pd) (h.2.2.2.2.2.2.2.2.2.2.2.2.2.2.2.2.2.2.2.2.2.2.2.2.2.2.2.2.2.2.2.2.2.2.2.2.2.2.2.rd))
  rw [sameP_self] at C3
  obtain ⟨z, hz⟩ : ∃ z, z = sameP p q := ⟨_, rfl⟩
  rw [← hz] at C1 C2
  have hzz : (z == z) = true := by simp
  clear hz
  go_region_held3 (fun wx => wx.cell? ⟨w.heap.size, 0, none⟩ = some (.int .i64 p.tos) ∧ wx.cell? ⟨w.heap.size, 1, none⟩ = some (.int .i64 p.id) ∧ wx.cell? ⟨w.heap.size, 2, none⟩ = some (.int .i64 p.ttl) ∧ wx.cell? ⟨w.heap.size, 3, none⟩ = some (.int .i64 p.proto) ∧ wx.cell? ⟨w.heap.size, 4, none⟩ = some (.int .u32 p.src) ∧ wx.cell? ⟨w.heap.size, 5, none⟩ = some (.int .i64 p.sp) ∧ wx.cell? ⟨w.heap.size, 6, none⟩ = some (.int .u32 p.dst) ∧ wx.cell? ⟨w.heap.size, 7, none⟩ = some (.int .i64 p.dp) ∧ wx.cell? ⟨w.heap.size, 8, none⟩ = some (.int .u32 p.seq) ∧ wx.cell? ⟨w.heap.size, 9, none⟩ = some (.int .u32 p.ack) ∧ wx.cell? ⟨w.heap.size, 10, none⟩ = some (.int .i64 p.flags) ∧ wx.cell? ⟨w.heap.size, 11, none⟩ = some (.int .i64 p.win) ∧ wx.cell? ⟨w.heap.size, 12, none⟩ = some (.slice a n c) ∧ wx.cell? ⟨w.heap.size + 1, 0, none⟩ = some (.int .i64 q.tos) ∧ wx.cell? ⟨w.heap.size + 1, 1, none⟩ = some (.int .i64 q.id) ∧ wx.cell? ⟨w.heap.size + 1, 2, none⟩ = some (.int .i64 q.ttl) ∧ wx.cell? ⟨w.heap.size + 1, 3, none⟩ = some (.int .i64 q.proto) ∧ wx.cell? ⟨w.heap.size + 1, 4, none⟩ = some (.int .u32 q.src) ∧ wx.cell? ⟨w.heap.size + 1, 5, none⟩ = some (.int .i64 q.sp) ∧ wx.cell? ⟨w.heap.size + 1, 6, none⟩ = some (.int .u32 q.dst) ∧ wx.cell? ⟨w.heap.size + 1, 7, none⟩ = some (.int .i64 q.dp) ∧ wx.cell? ⟨w.heap.size + 1, 8, none⟩ = some (.int .u32 q.seq) ∧ wx.cell? ⟨w.heap.size + 1, 9, none⟩ = some (.int .u32 q.ack) ∧ wx.cell? ⟨w.heap.size + 1, 10, none⟩ = some (.int .i64 q.flags) ∧ wx.cell? ⟨w.heap.size + 1, 11, none⟩ = some (.int .i64 q.win) ∧ wx.cell? ⟨w.heap.size + 1, 12, none⟩ = some (.slice b m d) ∧ wx.cell? ⟨r, 0, none⟩ = some (.int .i64 p.tos) ∧ wx.cell? ⟨r, 1, none⟩ = some (.int .i64 p.id) ∧ wx.cell? ⟨r, 2, none⟩ = some (.int .i64 p.ttl) ∧ wx.cell? ⟨r, 3, none⟩ = some (.int .i64 p.proto) ∧ wx.cell? ⟨r, 4, none⟩ = some (.int .u32 p.src) ∧ wx.cell? ⟨r, 5, none⟩ = some (.int .i64 p.sp) ∧ wx.cell? ⟨r, 6, none⟩ = some (.int .u32 p.dst) ∧ wx.cell? ⟨r, 7, none⟩ = some (.int .i64 p.dp) ∧ wx.cell? ⟨r, 8, none⟩ = some (.int .u32 p.seq) ∧ wx.cell? ⟨r, 9, none⟩ = some (.int .u32 p.ack) ∧ wx.cell? ⟨r, 10, none⟩ = some (.int .i64 p.flags) ∧ wx.cell? ⟨r, 11, none⟩ = some (.int .i64 p.win) ∧ wx.cell? ⟨r, 12, none⟩ = some (.slice ao n c2) ∧ Tri w r p q a b ao n c m d c2 wx) (first | exact hS0 | exact keepTri (by assumption) (by assumption) | go_keep)
    (first | (go_at_call 21; with_reducible refine (C1.out _ (by assumption)).mono ?_; rintro e w' ⟨rfl, hb'⟩) | (go_at_call 19; with_reducible refine (C2.out _ (by assumption)).mono ?_; rintro e w' ⟨rfl, hb'⟩) | (go_at_call 21; with_reducible refine (C3.out _ (by assumption)).mono ?_; rintro e w' ⟨rfl, hb'⟩))
  rename_i hHeld
  have HF := Lib.hid (hHeld.2.2.2.2.2.2.2.2.2.2.2.2.2.2.2.2.2.2.2.2.2.2.2.2.2.2.2.2.2.2.2.2.2.2.2.2.2.2.2.below)
  clear hHeld hS0 C1 C2 C3
  go_wp2
  go_ret
  exact ⟨rfl, HF.out⟩
end Go.Proofs.Ytkgfdndbjaeohaa
