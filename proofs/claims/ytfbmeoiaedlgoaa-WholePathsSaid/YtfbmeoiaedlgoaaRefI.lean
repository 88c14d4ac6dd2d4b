/- Contract of the document's packet Parse, whole headers. Conditions: the row came in, of 28 (40, TCP) to 1500 bytes. -/
import Derived.Test.YtfbmeoiaedlgoaaRefH
import Derived.Deep.CutRange
namespace Go.Proofs.Ytfbmeoiaedlgoaa
open Go Go.RowKit
set_option linter.unusedVariables false
set_option linter.unusedSimpArgs false

/-- What the document's Parse answers. -/
def RefRes (w : World) (l : List Int) (w' : World) (res : Value) : Prop :=
  (¬ Is l ∧ res = .tuple #[zeroV, .int .i64 2]) ∨ (Is l ∧ ∃ ao k cp, res = .tuple #[(dec l).val ao k cp, .int .i64 0] ∧ k = (dec l).data.length ∧ w'.ownsRow w.heap.size 5 1 (.slice ao k cp) k (u8s (dec l).data))
theorem n2_fit {b : List Int} (hf : fit b) (i : Nat) : 0 ≤ n2 b i ∧ n2 b i ≤ 65535 := by
  have := getD_fit hf i; have := getD_fit hf (i + 1)
  unfold n2
  omega
theorem n4_n2 (b : List Int) (i : Nat) : n4 b i = n2 b i * 65536 + n2 b (i + 2) := by
  unfold n4 n2
  show 16777216 * b.getD i 0 + 65536 * b.getD (i + 1) 0 + 256 * b.getD (i + 2) 0 + b.getD (i + 3) 0 = (256 * b.getD i 0 + b.getD (i + 1) 0) * 65536 + (256 * b.getD (i + 2) 0 + b.getD (i + 3) 0)
  omega
theorem owns_below {w w' : World} {B n size : Nat} {e : TypeId} {v : Value} {xs : List Value} (h : w.ownsRow B e size v n xs) (hb : Below w.heap.size w w') : w'.ownsRow B e size v n xs := by
  refine ⟨h.1, ?_⟩
  rcases h.2 with hn | ⟨g', cap', cur, hv, h1, h2, h3⟩
  · exact .inl hn
  · exact .inr ⟨g', cap', cur, hv, h1, (hb.block g' (lt_of_block h2)).trans h2, h3⟩
abbrev RS (w : World) (b o : Nat) (y : Int) (wx : World) : Prop := wx.cell? ⟨b, o, none⟩ = some (.int .u8 y) ∧ Below w.heap.size w wx
theorem keepR {w : World} {b o : Nat} {y : Int} {wx wy : World} (hb : b < w.heap.size) (h : RS w b o y wx) (h2 : Below w.heap.size wx wy) : RS w b o y wy := ⟨(h2.cell (p := ⟨b, o, none⟩) hb).trans h.1, h.2.trans h2⟩

set_option maxRecDepth 100000 in
set_option maxHeartbeats 4000000 in
theorem rp_tcp (l : List Int) (b off n c : Nat) (w : World) (hI : In w (some ⟨b, off, none⟩) n c l) (hn : 40 ≤ n) (hn2 : n ≤ 1500) (hk : l.getD 9 0 = 6) :
    Calls Try.prog 30 #[.slice (some ⟨b, off, none⟩) n c] w fun e w' => ∃ res, e = .returned res ∧ RefRes w l w' res ∧ Below w.heap.size w w' := by
  obtain ⟨i0, hi0, hz0, hz1, hz2⟩ := info_parts info5
  have hcap := hI.room
  have HI := Lib.hid hI
  have HK := Lib.hid hk
  obtain ⟨R, hR⟩ : ∃ R, w.alloc (.cells zeroCs 49) = R := ⟨_, rfl⟩
  obtain ⟨X, hX⟩ : ∃ X, R.alloc (.cells zeroCs 49) = X := ⟨_, rfl⟩
  have hRz : R.heap.size = w.heap.size + 1 := by rw [← hR]; simp
  obtain ⟨q, hq⟩ : ∃ q, q = w.heap.size + 1 := ⟨_, rfl⟩
  obtain ⟨p, hp⟩ : ∃ p : Pk, p = ⟨0, 0, 0, 0, 0, 0, 0, 0, 0, 0, 0, 0, []⟩ := ⟨_, rfl⟩
  have hx : Rd w q p none 0 0 X := by
    have h1 : R.heap[w.heap.size]? = some (.cells zeroCs 49 (0, 0)) := by rw [← hR]; exact heap_alloc_new _ _
    refine ⟨?_, ?_, by omega, ?_⟩
    · rw [← hX, hq, ← hRz, hp]; exact heap_alloc_new _ _
    · rw [← hX, heap_alloc_old _ _ (by omega)]; exact h1
    · rw [← hX, ← hR]; exact bl_al (bl_al (Below.refl _ _) _) _
  have HX := Lib.hid hx
  have Hp := Lib.hid hp
  have HR := Lib.hid hR
  have HXX := Lib.hid hX
  have HRZ := Lib.hid hRz
  have HQ := Lib.hid hq
  have hbw : b < w.heap.size := World.block_lt_of_cell? _ _ (in_cell hI 0 (by omega))
  have HBW := Lib.hid hbw
  have HIX := Lib.hid (hI.below hx.below)
  have c9 := in_cell HIX.out 9 (by omega)
  rw [hk] at c9
  clear hI hk hX hR hx hRz hq hp
  go_enter Try.func30, Try.ntmps30
  go_upto_region 3 with fail
  rw [HR.out, HXX.out, ← HQ.out]
  obtain ⟨x0, x1, x2, x3, x4, x5, x6, x7, x8, x9, x10, x11, x12⟩ := HX.out.pk
  have xf := HX.out.free
  have hqw : w.heap.size ≤ q := Nat.le_of_lt HX.out.lt
  have HQW := Lib.hid hqw
  have N : Hid (∀ (i : Nat) (I : Int) (W : World), I = i → i + 1 < n → Below w.heap.size w W → Calls Try.prog 46 #[.slice (some ⟨b, off, none⟩) n c, .int .i64 I] W fun e w' => e = .returned (.int .i64 (n2 l i)) ∧ w' = W.drew) := Lib.hid (fun i I W hi h1 hb => at_any l b off n c i I hi W (HI.out.below hb) (by omega) h1)
  have N4 := Lib.hid (fun W hb => N.out 4 4 W rfl (by omega) hb)
  obtain ⟨y4, hy4⟩ : ∃ y, y = n2 l 4 := ⟨_, rfl⟩
  rw [← hy4] at N4
  have b1 := in_cell HIX.out 1 (by omega)
  have b8 := in_cell HIX.out 8 (by omega)
  have r1 := getD_fit HIX.out.fit 1
  have r8 := getD_fit HIX.out.fit 8
  obtain ⟨y1, hy1⟩ : ∃ y, y = l.getD 1 0 := ⟨_, rfl⟩
  obtain ⟨y8, hy8⟩ : ∃ y, y = l.getD 8 0 := ⟨_, rfl⟩
  rw [← hy1] at b1 r1
  rw [← hy8] at b8 r8
  obtain ⟨r1a, r1b⟩ := r1
  obtain ⟨r8a, r8b⟩ := r8
  have HY4 := Lib.hid hy4
  have HY1 := Lib.hid hy1
  have HY8 := Lib.hid hy8
  have hbq : ¬ b = q := by omega
  have hqb : ¬ q = b := by omega
  clear hy4 hy1 hy8 HR HXX
  go_upto_region 8 with (go_at_call 46; refine (N4.out _ (HX.out.below.setCell (p := ⟨q, 0, none⟩) HQW.out _)).mono ?_; rintro e w' ⟨rfl, rfl⟩)
  obtain ⟨p3, hp3⟩ : ∃ p3 : Pk, p3 = ⟨y1, y4, y8, 0, 0, 0, 0, 0, 0, 0, 0, 0, []⟩ := ⟨_, rfl⟩
  have HX3 : Hid (Rd w q p3 none 0 0 ((((X.setCell ⟨q, 0, none⟩ (.int .i64 y1)).setCell ⟨q, 1, none⟩ (.int .i64 y4)).setCell ⟨q, 2, none⟩ (.int .i64 y8)).drew)) := Lib.hid (by
    have := HX.out
    rw [Hp.out] at this
    rw [hp3]
    exact (((this.set 0 (.int .i64 y1) (p' := ⟨y1, 0, 0, 0, 0, 0, 0, 0, 0, 0, 0, 0, []⟩) (a' := none) (n' := 0) (c' := 0) rfl).set 1 (.int .i64 y4) (p' := ⟨y1, y4, 0, 0, 0, 0, 0, 0, 0, 0, 0, 0, []⟩) (a' := none) (n' := 0) (c' := 0) rfl).set 2 (.int .i64 y8) (p' := ⟨y1, y4, y8, 0, 0, 0, 0, 0, 0, 0, 0, 0, []⟩) (a' := none) (n' := 0) (c' := 0) rfl).drew)
  obtain ⟨X3, hX3⟩ : ∃ X3, X3 = (((X.setCell ⟨q, 0, none⟩ (.int .i64 y1)).setCell ⟨q, 1, none⟩ (.int .i64 y4)).setCell ⟨q, 2, none⟩ (.int .i64 y8)).drew := ⟨_, rfl⟩
  rw [← hX3] at HX3
  rw [← hX3]
  have Hp3 := Lib.hid hp3
  clear hX3 hp3 HX xf x0 x1 x2 x3 x4 x5 x6 x7 x8 x9 x10 x11 x12
  obtain ⟨x0, x1, x2, x3, x4, x5, x6, x7, x8, x9, x10, x11, x12⟩ := HX3.out.pk
  have xf := HX3.out.free
  have HI3 := Lib.hid (HI.out.below HX3.out.below)
  clear HIX N4 b1 b8 r1a r1b r8a r8b c9
  have c9 := in_cell HI3.out 9 (by omega)
  rw [HK.out] at c9
  have hS0 : RS w b (off + 9) 6 X3.drew := ⟨c9, HX3.out.below.drew⟩
  have N12 : Hid (∀ W, RS w b (off + 9) 6 W → Calls Try.prog 46 #[.slice (some ⟨b, off, none⟩) n c, .int .i64 12] W fun e w' => e = .returned (.int .i64 (n2 l 12)) ∧ w' = W.drew) := Lib.hid (fun W hs => N.out 12 12 W rfl (by omega) hs.2)
  have r12 := n2_fit HI3.out.fit 12
  obtain ⟨a12, ha12⟩ : ∃ y, y = n2 l 12 := ⟨_, rfl⟩
  rw [← ha12] at N12 r12
  have N14 : Hid (∀ W, RS w b (off + 9) 6 W → Calls Try.prog 46 #[.slice (some ⟨b, off, none⟩) n c, .int .i64 14] W fun e w' => e = .returned (.int .i64 (n2 l 14)) ∧ w' = W.drew) := Lib.hid (fun W hs => N.out 14 14 W rfl (by omega) hs.2)
  have r14 := n2_fit HI3.out.fit 14
  obtain ⟨a14, ha14⟩ : ∃ y, y = n2 l 14 := ⟨_, rfl⟩
  rw [← ha14] at N14 r14
  have N16 : Hid (∀ W, RS w b (off + 9) 6 W → Calls Try.prog 46 #[.slice (some ⟨b, off, none⟩) n c, .int .i64 16] W fun e w' => e = .returned (.int .i64 (n2 l 16)) ∧ w' = W.drew) := Lib.hid (fun W hs => N.out 16 16 W rfl (by omega) hs.2)
  have r16 := n2_fit HI3.out.fit 16
  obtain ⟨a16, ha16⟩ : ∃ y, y = n2 l 16 := ⟨_, rfl⟩
  rw [← ha16] at N16 r16
  have N18 : Hid (∀ W, RS w b (off + 9) 6 W → Calls Try.prog 46 #[.slice (some ⟨b, off, none⟩) n c, .int .i64 18] W fun e w' => e = .returned (.int .i64 (n2 l 18)) ∧ w' = W.drew) := Lib.hid (fun W hs => N.out 18 18 W rfl (by omega) hs.2)
  have r18 := n2_fit HI3.out.fit 18
  obtain ⟨a18, ha18⟩ : ∃ y, y = n2 l 18 := ⟨_, rfl⟩
  rw [← ha18] at N18 r18
  have N20 : Hid (∀ W, RS w b (off + 9) 6 W → Calls Try.prog 46 #[.slice (some ⟨b, off, none⟩) n c, .int .i64 20] W fun e w' => e = .returned (.int .i64 (n2 l 20)) ∧ w' = W.drew) := Lib.hid (fun W hs => N.out 20 20 W rfl (by omega) hs.2)
  have r20 := n2_fit HI3.out.fit 20
  obtain ⟨a20, ha20⟩ : ∃ y, y = n2 l 20 := ⟨_, rfl⟩
  rw [← ha20] at N20 r20
  have N22 : Hid (∀ W, RS w b (off + 9) 6 W → Calls Try.prog 46 #[.slice (some ⟨b, off, none⟩) n c, .int .i64 22] W fun e w' => e = .returned (.int .i64 (n2 l 22)) ∧ w' = W.drew) := Lib.hid (fun W hs => N.out 22 22 W rfl (by omega) hs.2)
  have r22 := n2_fit HI3.out.fit 22
  obtain ⟨a22, ha22⟩ : ∃ y, y = n2 l 22 := ⟨_, rfl⟩
  rw [← ha22] at N22 r22
  obtain ⟨s, hs⟩ : ∃ y, y = n4 l 12 := ⟨_, rfl⟩
  obtain ⟨d, hd⟩ : ∃ y, y = n4 l 16 := ⟨_, rfl⟩
  have es : a12 * 65536 + a14 = s := by rw [ha12, ha14, hs]; exact (n4_n2 l 12).symm
  have ed : a16 * 65536 + a18 = d := by rw [ha16, ha18, hd]; exact (n4_n2 l 16).symm
  have s1 : ∀ [Inhabited Nat], IntKind.i64.wrap (a12 * 65536) = a12 * 65536 := by intro _; exact IntWalk.i64_in _ (by omega)
  have s2 : ∀ [Inhabited Nat], IntKind.i64.wrap (a12 * 65536 + a14) = s := by intro _; rw [es]; exact IntWalk.i64_in _ (by omega)
  have s3 : ∀ [Inhabited Nat], IntKind.u32.wrap s = s := by intro _; rw [IntKind.wrap_u32']; omega
  have d1 : ∀ [Inhabited Nat], IntKind.i64.wrap (a16 * 65536) = a16 * 65536 := by intro _; exact IntWalk.i64_in _ (by omega)
  have d2 : ∀ [Inhabited Nat], IntKind.i64.wrap (a16 * 65536 + a18) = d := by intro _; rw [ed]; exact IntWalk.i64_in _ (by omega)
  have d3 : ∀ [Inhabited Nat], IntKind.u32.wrap d = d := by intro _; rw [IntKind.wrap_u32']; omega
  have p9 : ∀ [Inhabited Nat], IntKind.i64.wrap 6 = 6 := by intro _; exact IntWalk.i64_in _ (by omega)
  have i9 : (9 : Int) < (n : Int) := by omega
  have HSS := Lib.hid hs
  have HDD := Lib.hid hd
  have H20 := Lib.hid ha20
  have H22 := Lib.hid ha22
  clear hs hd es ed ha12 ha14 ha16 ha18 ha20 ha22 r12 r14 r16 r18 r20 r22
  have hS9 : RS w b (off + 9) 6 ((((((X3.setCell ⟨q, 3, none⟩ (.int .i64 6)).setCell ⟨q, 4, none⟩ (.int .u32 s)).setCell ⟨q, 5, none⟩ (.int .i64 a20)).setCell ⟨q, 6, none⟩ (.int .u32 d)).setCell ⟨q, 7, none⟩ (.int .i64 a22)).drew.drew.drew.drew.drew.drew.drew) := keepR HBW.out ⟨c9, HX3.out.below⟩ ((((((Below.refl _ _).setCell HQW.out _).setCell HQW.out _).setCell HQW.out _).setCell HQW.out _).setCell HQW.out _).drew.drew.drew.drew.drew.drew.drew
  go_wp2_with fail
  go_region_held3 (fun wx => wx.cell? ⟨b, off + 9, none⟩ = some (.int .u8 6) ∧ Below w.heap.size w wx) (first | (with_reducible exact hS0) | (with_reducible exact keepR HBW.out (by assumption) (Below.refl _ _).drew) | (with_reducible exact hS9) | fail)
    (first | (go_at_call 46; (with_reducible refine (N12.out _ (by assumption)).mono ?_); rintro e w' ⟨rfl, rfl⟩) | (go_at_call 46; (with_reducible refine (N14.out _ (by assumption)).mono ?_); rintro e w' ⟨rfl, rfl⟩) | (go_at_call 46; (with_reducible refine (N16.out _ (by assumption)).mono ?_); rintro e w' ⟨rfl, rfl⟩) | (go_at_call 46; (with_reducible refine (N18.out _ (by assumption)).mono ?_); rintro e w' ⟨rfl, rfl⟩) | (go_at_call 46; (with_reducible refine (N20.out _ (by assumption)).mono ?_); rintro e w' ⟨rfl, rfl⟩) | (go_at_call 46; (with_reducible refine (N22.out _ (by assumption)).mono ?_); rintro e w' ⟨rfl, rfl⟩) | fail)
  obtain ⟨p4, hp4⟩ : ∃ p4 : Pk, p4 = ⟨y1, y4, y8, 6, s, a20, d, a22, 0, 0, 0, 0, []⟩ := ⟨_, rfl⟩
  have HX4 : Hid (Rd w q p4 none 0 0 ((((((X3.setCell ⟨q, 3, none⟩ (.int .i64 6)).setCell ⟨q, 4, none⟩ (.int .u32 s)).setCell ⟨q, 5, none⟩ (.int .i64 a20)).setCell ⟨q, 6, none⟩ (.int .u32 d)).setCell ⟨q, 7, none⟩ (.int .i64 a22)).drew.drew.drew.drew.drew.drew.drew)) := Lib.hid (by
    have := HX3.out
    rw [Hp3.out] at this
    rw [hp4]
    exact (((((this.set 3 (.int .i64 6) (p' := ⟨y1, y4, y8, 6, 0, 0, 0, 0, 0, 0, 0, 0, []⟩) (a' := none) (n' := 0) (c' := 0) rfl).set 4 (.int .u32 s) (p' := ⟨y1, y4, y8, 6, s, 0, 0, 0, 0, 0, 0, 0, []⟩) (a' := none) (n' := 0) (c' := 0) rfl).set 5 (.int .i64 a20) (p' := ⟨y1, y4, y8, 6, s, a20, 0, 0, 0, 0, 0, 0, []⟩) (a' := none) (n' := 0) (c' := 0) rfl).set 6 (.int .u32 d) (p' := ⟨y1, y4, y8, 6, s, a20, d, 0, 0, 0, 0, 0, []⟩) (a' := none) (n' := 0) (c' := 0) rfl).set 7 (.int .i64 a22) (p' := ⟨y1, y4, y8, 6, s, a20, d, a22, 0, 0, 0, 0, []⟩) (a' := none) (n' := 0) (c' := 0) rfl).drew.drew.drew.drew.drew.drew.drew)
  obtain ⟨X4, hX4⟩ : ∃ X4, X4 = (((((X3.setCell ⟨q, 3, none⟩ (.int .i64 6)).setCell ⟨q, 4, none⟩ (.int .u32 s)).setCell ⟨q, 5, none⟩ (.int .i64 a20)).setCell ⟨q, 6, none⟩ (.int .u32 d)).setCell ⟨q, 7, none⟩ (.int .i64 a22)).drew.drew.drew.drew.drew.drew.drew := ⟨_, rfl⟩
  rw [← hX4] at HX4
  rw [← hX4]
  have Hp4 := Lib.hid hp4
  clear hX4 hp4 HX3 xf x0 x1 x2 x3 x4 x5 x6 x7 x8 x9 x10 x11 x12
  obtain ⟨x0, x1, x2, x3, x4, x5, x6, x7, x8, x9, x10, x11, x12⟩ := HX4.out.pk
  have xf := HX4.out.free
  rename_i hHeld
  clear hHeld hS0 hS9 HI3 N12 N14 N16 N18 N20 N22 s1 s2 s3 d1 d2 d3 p9 i9 c9
  have HI4 := Lib.hid (HI.out.below HX4.out.below)
  have c9 := in_cell HI4.out 9 (by omega)
  rw [HK.out] at c9
  have r24 := n2_fit HI4.out.fit 24
  have r26 := n2_fit HI4.out.fit 26
  have N24 := Lib.hid (fun W hb => N.out 24 24 W rfl (by omega) hb)
  have N26 := Lib.hid (fun W hb => N.out 26 26 W rfl (by omega) hb)
  obtain ⟨a24, ha24⟩ : ∃ y, y = n2 l 24 := ⟨_, rfl⟩
  obtain ⟨a26, ha26⟩ : ∃ y, y = n2 l 26 := ⟨_, rfl⟩
  rw [← ha24] at N24 r24
  rw [← ha26] at N26 r26
  have H24 : Hid (n4 l 24 = a24 * 65536 + a26) := Lib.hid (by rw [ha24, ha26]; exact n4_n2 l 24)
  obtain ⟨r24a, r24b⟩ := r24
  obtain ⟨r26a, r26b⟩ := r26
  clear ha24 ha26
  go_upto_region 13 with (first | (go_at_call 46; (with_reducible refine (N24.out _ HX4.out.below).mono ?_); rintro e w' ⟨rfl, rfl⟩) | (go_at_call 46; (with_reducible refine (N26.out _ HX4.out.below.drew).mono ?_); rintro e w' ⟨rfl, rfl⟩) | fail)
  obtain ⟨p5, hp5⟩ : ∃ p5 : Pk, p5 = ⟨y1, y4, y8, 6, s, a20, d, a22, (a24 * 65536 + a26), 0, 0, 0, []⟩ := ⟨_, rfl⟩
  have HX5 : Hid (Rd w q p5 none 0 0 ((X4.setCell ⟨q, 8, none⟩ (.int .u32 (a24 * 65536 + a26))).drew.drew)) := Lib.hid (by
    have := HX4.out
    rw [Hp4.out] at this
    rw [hp5]
    exact (this.set 8 (.int .u32 (a24 * 65536 + a26)) (p' := ⟨y1, y4, y8, 6, s, a20, d, a22, (a24 * 65536 + a26), 0, 0, 0, []⟩) (a' := none) (n' := 0) (c' := 0) rfl).drew.drew)
  obtain ⟨X5, hX5⟩ : ∃ X5, X5 = (X4.setCell ⟨q, 8, none⟩ (.int .u32 (a24 * 65536 + a26))).drew.drew := ⟨_, rfl⟩
  rw [← hX5] at HX5
  rw [← hX5]
  have Hp5 := Lib.hid hp5
  clear hX5 hp5 HX4 xf x0 x1 x2 x3 x4 x5 x6 x7 x8 x9 x10 x11 x12
  obtain ⟨x0, x1, x2, x3, x4, x5, x6, x7, x8, x9, x10, x11, x12⟩ := HX5.out.pk
  have xf := HX5.out.free
  clear N24 N26 r24a r24b r26a r26b c9
  have r28 := n2_fit HI4.out.fit 28
  have r30 := n2_fit HI4.out.fit 30
  have N28 := Lib.hid (fun W hb => N.out 28 28 W rfl (by omega) hb)
  have N30 := Lib.hid (fun W hb => N.out 30 30 W rfl (by omega) hb)
  obtain ⟨a28, ha28⟩ : ∃ y, y = n2 l 28 := ⟨_, rfl⟩
  obtain ⟨a30, ha30⟩ : ∃ y, y = n2 l 30 := ⟨_, rfl⟩
  rw [← ha28] at N28 r28
  rw [← ha30] at N30 r30
  have H28 : Hid (n4 l 28 = a28 * 65536 + a30) := Lib.hid (by rw [ha28, ha30]; exact n4_n2 l 28)
  obtain ⟨r28a, r28b⟩ := r28
  obtain ⟨r30a, r30b⟩ := r30
  clear ha28 ha30
  go_upto_region 14 with (first | (go_at_call 46; (with_reducible refine (N28.out _ HX5.out.below).mono ?_); rintro e w' ⟨rfl, rfl⟩) | (go_at_call 46; (with_reducible refine (N30.out _ HX5.out.below.drew).mono ?_); rintro e w' ⟨rfl, rfl⟩) | fail)
  obtain ⟨p6, hp6⟩ : ∃ p6 : Pk, p6 = ⟨y1, y4, y8, 6, s, a20, d, a22, (a24 * 65536 + a26), (a28 * 65536 + a30), 0, 0, []⟩ := ⟨_, rfl⟩
  have HX6 : Hid (Rd w q p6 none 0 0 ((X5.setCell ⟨q, 9, none⟩ (.int .u32 (a28 * 65536 + a30))).drew.drew)) := Lib.hid (by
    have := HX5.out
    rw [Hp5.out] at this
    rw [hp6]
    exact (this.set 9 (.int .u32 (a28 * 65536 + a30)) (p' := ⟨y1, y4, y8, 6, s, a20, d, a22, (a24 * 65536 + a26), (a28 * 65536 + a30), 0, 0, []⟩) (a' := none) (n' := 0) (c' := 0) rfl).drew.drew)
  obtain ⟨X6, hX6⟩ : ∃ X6, X6 = (X5.setCell ⟨q, 9, none⟩ (.int .u32 (a28 * 65536 + a30))).drew.drew := ⟨_, rfl⟩
  rw [← hX6] at HX6
  rw [← hX6]
  have Hp6 := Lib.hid hp6
  clear hX6 hp6 HX5 xf x0 x1 x2 x3 x4 x5 x6 x7 x8 x9 x10 x11 x12
  obtain ⟨x0, x1, x2, x3, x4, x5, x6, x7, x8, x9, x10, x11, x12⟩ := HX6.out.pk
  have xf := HX6.out.free
  clear N28 N30 r28a r28b r30a r30b
  have b33 := in_cell (HI.out.below HX6.out.below) 33 (by omega)
  have r33 := getD_fit HI4.out.fit 33
  obtain ⟨y33, hy33⟩ : ∃ y, y = l.getD 33 0 := ⟨_, rfl⟩
  rw [← hy33] at b33 r33
  have HY33 := Lib.hid hy33
  obtain ⟨r33a, r33b⟩ := r33
  have N34 := Lib.hid (fun W hb => N.out 34 34 W rfl (by omega) hb)
  obtain ⟨y34, hy34⟩ : ∃ y, y = n2 l 34 := ⟨_, rfl⟩
  rw [← hy34] at N34
  have HY34 := Lib.hid hy34
  clear hy33 hy34
  go_upto_region 16 with (go_at_call 46; (with_reducible refine (N34.out _ (HX6.out.below.setCell (p := ⟨q, 10, none⟩) HQW.out _)).mono ?_); rintro e w' ⟨rfl, rfl⟩)
  obtain ⟨p7, hp7⟩ : ∃ p7 : Pk, p7 = ⟨y1, y4, y8, 6, s, a20, d, a22, (a24 * 65536 + a26), (a28 * 65536 + a30), y33, y34, []⟩ := ⟨_, rfl⟩
  have HX7 : Hid (Rd w q p7 none 0 0 (((X6.setCell ⟨q, 10, none⟩ (.int .i64 y33)).setCell ⟨q, 11, none⟩ (.int .i64 y34)).drew)) := Lib.hid (by
    have := HX6.out
    rw [Hp6.out] at this
    rw [hp7]
    exact ((this.set 10 (.int .i64 y33) (p' := ⟨y1, y4, y8, 6, s, a20, d, a22, (a24 * 65536 + a26), (a28 * 65536 + a30), y33, 0, []⟩) (a' := none) (n' := 0) (c' := 0) rfl).set 11 (.int .i64 y34) (p' := ⟨y1, y4, y8, 6, s, a20, d, a22, (a24 * 65536 + a26), (a28 * 65536 + a30), y33, y34, []⟩) (a' := none) (n' := 0) (c' := 0) rfl).drew)
  obtain ⟨X7, hX7⟩ : ∃ X7, X7 = ((X6.setCell ⟨q, 10, none⟩ (.int .i64 y33)).setCell ⟨q, 11, none⟩ (.int .i64 y34)).drew := ⟨_, rfl⟩
  rw [← hX7] at HX7
  rw [← hX7]
  have Hp7 := Lib.hid hp7
  clear hX7 hp7 HX6 xf x0 x1 x2 x3 x4 x5 x6 x7 x8 x9 x10 x11 x12
  obtain ⟨x0, x1, x2, x3, x4, x5, x6, x7, x8, x9, x10, x11, x12⟩ := HX7.out.pk
  have xf := HX7.out.free
  clear N34 b33 r33a r33b
  have jK : (40 : Int) ≤ (n : Int) := by omega
  have jc : (40 : Int) ≤ (c : Int) := by omega
  have jc2 : (n : Int) ≤ (c : Int) := by omega
  obtain ⟨ad, had⟩ : ∃ ad : Addr, (if c = 40 then some (⟨b, off, none⟩ : Addr) else some ⟨b, off + 40, none⟩) = some ad := by
    by_cases h : c = 40
    · exact ⟨⟨b, off, none⟩, by rw [if_pos h]⟩
    · exact ⟨⟨b, off + 40, none⟩, by rw [if_neg h]⟩
  have hIn : ∀ W : World, In W (some ⟨b, off, none⟩) n c l → In W (some ad) (n - 40) (c - 40) (l.drop 40) := by
    intro W hW
    have hl := hW.len
    refine ⟨by rw [List.length_drop]; omega, by omega, (fun e => by cases e), ?_, fun x hx => hW.fit x (List.mem_of_mem_drop hx)⟩
    by_cases h : c = 40
    · have h0 : l.drop 40 = [] := List.drop_eq_nil_of_le (by omega)
      rw [h0, show n - 40 = 0 by omega]
      exact At.nil _ _ _
    · rw [if_neg h] at had
      cases had
      have := hW.here.sub hW.len 40 n (by omega) (Nat.le_refl _) (n - 40) (c - 40) (off + 40) (by omega) (by omega)
      rw [List.take_of_length_le (by rw [List.length_drop]; omega)] at this
      exact this
  have hsn : (n : Int) - 40 = ((n - 40 : Nat) : Int) := by omega
  have hsc : (c : Int) - 40 = ((c - 40 : Nat) : Int) := by omega
  obtain ⟨k, hk⟩ : ∃ k, k = n - 40 := ⟨_, rfl⟩
  obtain ⟨cr, hcr⟩ : ∃ cr, cr = c - 40 := ⟨_, rfl⟩
  rw [← hk, ← hcr] at hIn
  rw [← hk] at hsn
  rw [← hcr] at hsc
  have HIN := Lib.hid hIn
  have hkb : k ≤ 1500 := by omega
  obtain ⟨D, hD⟩ : ∃ D, D = dec l := ⟨_, rfl⟩
  have HDz : Hid (D = { p7 with data := l.drop 40 }) := Lib.hid (by
    have h9 := HK.out
    rw [hD, Hp7.out]
    unfold dec
    simp only [if_pos h9, h9, HY1.out, HY4.out, HY8.out, HSS.out, HDD.out, H20.out, H22.out, HY33.out, HY34.out, H24.out, H28.out, show ¬ ((6 : Int) = 17) by decide, if_false, if_true])
  have HDl := Lib.hid hD
  have HOV : Hid ((X7.alloc (.cells #[] 5)).ownsRow X7.heap.size 5 1 (.slice (some ⟨X7.heap.size, 0, none⟩) 0 0) 0 []) := Lib.hid (World.ownsRow_made X7 #[] 0 (Nat.le_refl _) (by decide) rfl)
  have HIY := Lib.hid (HIN.out _ (HI.out.below (HX7.out.below.alloc HX7.out.below.size (.cells #[] 5))))
  have hsy : X7.heap.size ≤ (X7.alloc (.cells #[] 5)).heap.size := by simp
  have HKN := Lib.hid hk
  have HCR := Lib.hid hcr
  clear hIn hD hk hcr
  go_wp2_with (at_builtin; (try rw [← HKN.out]); (try rw [← HCR.out]); refine append_any rfl (.tmp 102) (.tmp 105) 24 rfl X7.heap.size 5 i0 (.int .u8 0) 1 1 Try.underlying24 hi0 hz0 hz1 hz2 rfl (by decide) _ 0 [] rfl HOV.out (some ad) k cr (u8s (l.drop 40)) rfl HIY.out.zero ?c1 HIY.out.cells (u8s_one _) ?c2 ?c3 ?c4 ?_)
  case c1 => unfold u8s; rw [List.length_map, HIY.out.len]; omega
  case c2 => unfold maxLen; omega
  case c3 => omega
  case c4 => exact hsy
  intro v5 w5 hown5 hg5
  have hO : w5.ownsRow X7.heap.size 5 1 v5 k (u8s (l.drop 40)) := by simpa using hown5
  obtain ⟨a5, c5, rfl⟩ := own_form hO
  have HX9 := Lib.hid (HX7.out.later ((bl_al (Below.refl _ _) _).grown hg5 hsy (fun j hj => (HOV.out.lt j hj).1)))
  have hqX : q < X7.heap.size := lt_of_block HX7.out.here
  have HQX := Lib.hid hqX
  have HO := Lib.hid hO
  have HLD := Lib.hid HIY.out.len
  have HFD := Lib.hid HIY.out.fit
  clear xf x0 x1 x2 x3 x4 x5 x6 x7 x8 x9 x10 x11 x12 hown5 hg5 hO hqX HIY HOV HX7 had jK jc jc2 hsn hsc hsy
  obtain ⟨x0, x1, x2, x3, x4, x5, x6, x7, x8, x9, x10, x11, x12⟩ := HX9.out.pk
  have xf := HX9.out.free
  go_wp2_with fail
  have HXD : Hid (Rd w q D a5 k c5 (w5.setCell ⟨q, 12, none⟩ (.slice a5 k c5))) := Lib.hid (by
    rw [HDz.out]
    exact HX9.out.set 12 _ rfl)
  have hval2 : p7.val a5 k c5 = D.val a5 k c5 := by rw [HDz.out]
  have hdat : D.data = l.drop 40 := by rw [HDz.out]
  obtain ⟨X9, hX9⟩ : ∃ X9, X9 = w5.setCell ⟨q, 12, none⟩ (.slice a5 k c5) := ⟨_, rfl⟩
  have hO9 : X9.ownsRow X7.heap.size 5 1 (.slice a5 k c5) k (u8s D.data) := by
    rw [hX9, hdat]
    exact ownsRow_setCell_below HO.out HQX.out _
  have HO9 := Lib.hid hO9
  have hN9 := own_row hO9 (by rw [hdat]; exact HLD.out) (by rw [hdat]; exact HFD.out)
  have HN9 := Lib.hid hN9
  have hlD : D.data.length = k := hN9.len
  rw [← hX9] at HXD
  rw [← hX9]
  unfold Pk.val Pk.cs at hval2
  rw [hval2]
  clear hX9 hval2 hdat hO9 hN9 HO HX9 HLD HFD xf x0 x1 x2 x3 x4 x5 x6 x7 x8 x9 x10 x11 x12
  by_cases hok : Ok D
  · have hty : Typed D := by rw [HDl.out]; exact dec_typed HI.out.fit
    refine (refBuild_ok D a5 k c5 hok hty X9 HN9.out).mono ?_
    rintro e X5 ⟨ao, cp, rfl, hbi, hb5⟩
    have HX5 := Lib.hid (HXD.out.later hb5)
    have HI5 := Lib.hid (HI.out.below HX5.out.below)
    have HO5 := Lib.hid (owns_below HO9.out hb5)
    have sA := str_of hbi.here hbi.len
    have sB := str_of HI5.out.here HI5.out.len
    have sq := str_eq hbi.fit HI5.out.fit
    obtain ⟨s, hs⟩ : ∃ s, s = strOfNums (bts D) := ⟨_, rfl⟩
    obtain ⟨t, ht⟩ : ∃ t, t = strOfNums l := ⟨_, rfl⟩
    rw [← hs] at sA sq
    rw [← ht] at sB sq
    obtain ⟨N, hN⟩ : ∃ N, N = 20 + segLen D := ⟨_, rfl⟩
    rw [← hN] at sA
    rw [← hN]
    clear hs ht hbi hb5 hN HXD HI5
    obtain ⟨x0, x1, x2, x3, x4, x5, x6, x7, x8, x9, x10, x11, x12⟩ := HX5.out.pk
    obtain ⟨z0, z1, z2, z3, z4, z5, z6, z7, z8, z9, z10, z11, z12⟩ := HX5.out.zk
    have zf := HX5.out.zfree
    by_cases hbt : bts D = l
    · have HIS : Hid (Is l) := Lib.hid ⟨by rw [← HDl.out]; exact hok, by rw [← HDl.out]; exact hbt⟩
      have hs : same (bts D) l = true := decide_eq_true hbt
      rw [hs] at sq
      have sqn : (s.toList != t.toList) = false := by simp [bne, sq]
      clear hbt hs hok hty
      go_wp2
      refine bodyPost_ret (v := .tuple #[D.val a5 k c5, .int .i64 0]) (by simp [results, Try.results30, go_sem, z0, z1, z2, z3, z4, z5, z6, z7, z8, z9, z10, z11, z12]) rfl ⟨_, rfl, .inr ⟨HIS.out, a5, k, c5, by rw [HDl.out], by rw [← HDl.out]; exact hlD.symm, ?_⟩, ?_⟩
      · rw [← HDl.out]
        refine own_base (B := X7.heap.size) ?_ (Nat.le_of_lt (Nat.lt_of_le_of_lt hqw HQX.out))
        iterate 13 (refine ownsRow_setCell_below ?_ (by exact Nat.lt_of_le_of_lt hqw HQX.out) _)
        exact HO5.out
      · iterate 13 (refine Below.setCell ?_ (by first | exact Nat.le_refl _ | simp) _)
        exact HX5.out.below
    · have HIS : Hid (¬ Is l) := Lib.hid (fun h => hbt (by rw [HDl.out]; exact h.2))
      have hs : same (bts D) l = false := decide_eq_false hbt
      rw [hs] at sq
      have sqn : (s.toList != t.toList) = true := by simp [bne, sq]
      clear hbt hs hok hty
      go_wp2
      refine bodyPost_ret (v := .tuple #[zeroV, .int .i64 2]) (by simp [results, Try.results30, go_sem, z0, z1, z2, z3, z4, z5, z6, z7, z8, z9, z10, z11, z12]) rfl ⟨_, rfl, .inl ⟨HIS.out, rfl⟩, ?_⟩
      iterate 13 (refine Below.setCell ?_ (by first | exact Nat.le_refl _ | simp) _)
      exact HX5.out.below
  · have HIS : Hid (¬ Is l) := Lib.hid (fun h => hok (by rw [HDl.out]; exact h.1))
    refine (refBuild_no D a5 k c5 hlD (by omega) hok X9).mono ?_
    rintro e X5 ⟨rfl, hb5⟩
    have HX5 := Lib.hid (HXD.out.later hb5)
    obtain ⟨z0, z1, z2, z3, z4, z5, z6, z7, z8, z9, z10, z11, z12⟩ := HX5.out.zk
    have zf := HX5.out.zfree
    clear hb5 HXD hok
    go_wp2
    refine bodyPost_ret (v := .tuple #[zeroV, .int .i64 2]) (by simp [results, Try.results30, go_sem, z0, z1, z2, z3, z4, z5, z6, z7, z8, z9, z10, z11, z12]) rfl ⟨_, rfl, .inl ⟨HIS.out, rfl⟩, ?_⟩
    iterate 13 (refine Below.setCell ?_ (by first | exact Nat.le_refl _ | simp) _)
    exact HX5.out.below

end Go.Proofs.Ytfbmeoiaedlgoaa
