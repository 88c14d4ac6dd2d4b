/- Contract of the document's packet Parse: the packet of bytes, or the zero packet and 2. Conditions: the row came in, of at most 2^62 bytes. -/
import Derived.Test.YtfbmeoiaedlgoaaRefI
namespace Go.Proofs.Ytfbmeoiaedlgoaa
open Go Go.RowKit
set_option linter.unusedVariables false
set_option linter.unusedSimpArgs false

set_option maxRecDepth 100000 in
set_option maxHeartbeats 4000000 in
theorem rp_udp (l : List Int) (b off n c : Nat) (w : World) (hI : In w (some ⟨b, off, none⟩) n c l) (hn : 28 ≤ n) (hn2 : n ≤ 1500) (hk : l.getD 9 0 = 17) :
    Calls Try.prog 30 #[.slice (some ⟨b, off, none⟩) n c] w fun e w' => ∃ res, e = .returned res ∧ RefRes w l w' res ∧ Below w.heap.size w w' := by
  obtain ⟨i0, hi0, hz0, hz1, hz2⟩ := info_parts info5
  have hcap := hI.room
  have HI := Lib.hid hI
  have HK := Lib.hid hk
  obtain ⟨R, hR⟩ : ∃ R, w.alloc (.cells zeroCs 49) = R := ⟨_, rfl⟩
  obtain ⟨X, hX⟩ : ∃ X, R.alloc (.cells zeroCs 49) = X := ⟨_, rfl⟩
  have hRz : R.heap.size = w.heap.size + 1 := by rw [← hR]; simp
  obtain ⟨q, hq⟩ : ∃ q, q = w.heap.size + 1 := ⟨_, rfl⟩
  obtain ⟨p, hp⟩ : ∃ p : Pk, p = ⟨0, 0, 0, 0, 0, 0, 0, 0, 0, 0, 0, 0, []⟩ := ⟨_, rfl⟩
  have hx : Rd w q p none 0 0 X := by
    have h1 : R.heap[w.heap.size]? = some (.cells zeroCs 49 (0, 0)) := by rw [← hR]; exact heap_alloc_new _ _
    refine ⟨?_, ?_, by omega, ?_⟩
    · rw [← hX, hq, ← hRz, hp]; exact heap_alloc_new _ _
    · rw [← hX, heap_alloc_old _ _ (by omega)]; exact h1
    · rw [← hX, ← hR]; exact bl_al (bl_al (Below.refl _ _) _) _
  have HX := Lib.hid hx
  have Hp := Lib.hid hp
  have HR := Lib.hid hR
  have HXX := Lib.hid hX
  have HRZ := Lib.hid hRz
  have HQ := Lib.hid hq
  have hbw : b < w.heap.size := World.block_lt_of_cell? _ _ (in_cell hI 0 (by omega))
  have HBW := Lib.hid hbw
  have HIX := Lib.hid (hI.below hx.below)
  have c9 := in_cell HIX.out 9 (by omega)
  rw [hk] at c9
  clear hI hk hX hR hx hRz hq hp
  go_enter Try.func30, Try.ntmps30
  go_upto_region 3 with fail
  rw [HR.out, HXX.out, ← HQ.out]
  obtain ⟨x0, x1, x2, x3, x4, x5, x6, x7, x8, x9, x10, x11, x12⟩ := HX.out.pk
  have xf := HX.out.free
  have hqw : w.heap.size ≤ q := Nat.le_of_lt HX.out.lt
  have HQW := Lib.hid hqw
  have N : Hid (∀ (i : Nat) (I : Int) (W : World), I = i → i + 1 < n → Below w.heap.size w W → Calls Try.prog 46 #[.slice (some ⟨b, off, none⟩) n c, .int .i64 I] W fun e w' => e = .returned (.int .i64 (n2 l i)) ∧ w' = W.drew) := Lib.hid (fun i I W hi h1 hb => at_any l b off n c i I hi W (HI.out.below hb) (by omega) h1)
  have N4 := Lib.hid (fun W hb => N.out 4 4 W rfl (by omega) hb)
  obtain ⟨y4, hy4⟩ : ∃ y, y = n2 l 4 := ⟨_, rfl⟩
  rw [← hy4] at N4
  have b1 := in_cell HIX.out 1 (by omega)
  have b8 := in_cell HIX.out 8 (by omega)
  have r1 := getD_fit HIX.out.fit 1
  have r8 := getD_fit HIX.out.fit 8
  obtain ⟨y1, hy1⟩ : ∃ y, y = l.getD 1 0 := ⟨_, rfl⟩
  obtain ⟨y8, hy8⟩ : ∃ y, y = l.getD 8 0 := ⟨_, rfl⟩
  rw [← hy1] at b1 r1
  rw [← hy8] at b8 r8
  obtain ⟨r1a, r1b⟩ := r1
  obtain ⟨r8a, r8b⟩ := r8
  have HY4 := Lib.hid hy4
  have HY1 := Lib.hid hy1
  have HY8 := Lib.hid hy8
  have hbq : ¬ b = q := by omega
  have hqb : ¬ q = b := by omega
  clear hy4 hy1 hy8 HR HXX
  go_upto_region 8 with (go_at_call 46; refine (N4.out _ (HX.out.below.setCell (p := ⟨q, 0, none⟩) HQW.out _)).mono ?_; rintro e w' ⟨rfl, rfl⟩)
  obtain ⟨p3, hp3⟩ : ∃ p3 : Pk, p3 = ⟨y1, y4, y8, 0, 0, 0, 0, 0, 0, 0, 0, 0, []⟩ := ⟨_, rfl⟩
  have HX3 : Hid (Rd w q p3 none 0 0 ((((X.setCell ⟨q, 0, none⟩ (.int .i64 y1)).setCell ⟨q, 1, none⟩ (.int .i64 y4)).setCell ⟨q, 2, none⟩ (.int .i64 y8)).drew)) := Lib.hid (by
    have := HX.out
    rw [Hp.out] at this
    rw [hp3]
    exact (((this.set 0 (.int .i64 y1) (p' := ⟨y1, 0, 0, 0, 0, 0, 0, 0, 0, 0, 0, 0, []⟩) (a' := none) (n' := 0) (c' := 0) rfl).set 1 (.int .i64 y4) (p' := ⟨y1, y4, 0, 0, 0, 0, 0, 0, 0, 0, 0, 0, []⟩) (a' := none) (n' := 0) (c' := 0) rfl).set 2 (.int .i64 y8) (p' := ⟨y1, y4, y8, 0, 0, 0, 0, 0, 0, 0, 0, 0, []⟩) (a' := none) (n' := 0) (c' := 0) rfl).drew)
  obtain ⟨X3, hX3⟩ : ∃ X3, X3 = (((X.setCell ⟨q, 0, none⟩ (.int .i64 y1)).setCell ⟨q, 1, none⟩ (.int .i64 y4)).setCell ⟨q, 2, none⟩ (.int .i64 y8)).drew := ⟨_, rfl⟩
  rw [← hX3] at HX3
  rw [← hX3]
  have Hp3 := Lib.hid hp3
  clear hX3 hp3 HX xf x0 x1 x2 x3 x4 x5 x6 x7 x8 x9 x10 x11 x12
  obtain ⟨x0, x1, x2, x3, x4, x5, x6, x7, x8, x9, x10, x11, x12⟩ := HX3.out.pk
  have xf := HX3.out.free
  have HI3 := Lib.hid (HI.out.below HX3.out.below)
  clear HIX N4 b1 b8 r1a r1b r8a r8b c9
  have c9 := in_cell HI3.out 9 (by omega)
  rw [HK.out] at c9
  have hS0 : RS w b (off + 9) 17 X3.drew := ⟨c9, HX3.out.below.drew⟩
  have N12 : Hid (∀ W, RS w b (off + 9) 17 W → Calls Try.prog 46 #[.slice (some ⟨b, off, none⟩) n c, .int .i64 12] W fun e w' => e = .returned (.int .i64 (n2 l 12)) ∧ w' = W.drew) := Lib.hid (fun W hs => N.out 12 12 W rfl (by omega) hs.2)
  have r12 := n2_fit HI3.out.fit 12
  obtain ⟨a12, ha12⟩ : ∃ y, y = n2 l 12 := ⟨_, rfl⟩
  rw [← ha12] at N12 r12
  have N14 : Hid (∀ W, RS w b (off + 9) 17 W → Calls Try.prog 46 #[.slice (some ⟨b, off, none⟩) n c, .int .i64 14] W fun e w' => e = .returned (.int .i64 (n2 l 14)) ∧ w' = W.drew) := Lib.hid (fun W hs => N.out 14 14 W rfl (by omega) hs.2)
  have r14 := n2_fit HI3.out.fit 14
  obtain ⟨a14, ha14⟩ : ∃ y, y = n2 l 14 := ⟨_, rfl⟩
  rw [← ha14] at N14 r14
  have N16 : Hid (∀ W, RS w b (off + 9) 17 W → Calls Try.prog 46 #[.slice (some ⟨b, off, none⟩) n c, .int .i64 16] W fun e w' => e = .returned (.int .i64 (n2 l 16)) ∧ w' = W.drew) := Lib.hid (fun W hs => N.out 16 16 W rfl (by omega) hs.2)
  have r16 := n2_fit HI3.out.fit 16
  obtain ⟨a16, ha16⟩ : ∃ y, y = n2 l 16 := ⟨_, rfl⟩
  rw [← ha16] at N16 r16
  have N18 : Hid (∀ W, RS w b (off + 9) 17 W → Calls Try.prog 46 #[.slice (some ⟨b, off, none⟩) n c, .int .i64 18] W fun e w' => e = .returned (.int .i64 (n2 l 18)) ∧ w' = W.drew) := Lib.hid (fun W hs => N.out 18 18 W rfl (by omega) hs.2)
  have r18 := n2_fit HI3.out.fit 18
  obtain ⟨a18, ha18⟩ : ∃ y, y = n2 l 18 := ⟨_, rfl⟩
  rw [← ha18] at N18 r18
  have N20 : Hid (∀ W, RS w b (off + 9) 17 W → Calls Try.prog 46 #[.slice (some ⟨b, off, none⟩) n c, .int .i64 20] W fun e w' => e = .returned (.int .i64 (n2 l 20)) ∧ w' = W.drew) := Lib.hid (fun W hs => N.out 20 20 W rfl (by omega) hs.2)
  have r20 := n2_fit HI3.out.fit 20
  obtain ⟨a20, ha20⟩ : ∃ y, y = n2 l 20 := ⟨_, rfl⟩
  rw [← ha20] at N20 r20
  have N22 : Hid (∀ W, RS w b (off + 9) 17 W → Calls Try.prog 46 #[.slice (some ⟨b, off, none⟩) n c, .int .i64 22] W fun e w' => e = .returned (.int .i64 (n2 l 22)) ∧ w' = W.drew) := Lib.hid (fun W hs => N.out 22 22 W rfl (by omega) hs.2)
  have r22 := n2_fit HI3.out.fit 22
  obtain ⟨a22, ha22⟩ : ∃ y, y = n2 l 22 := ⟨_, rfl⟩
  rw [← ha22] at N22 r22
  obtain ⟨s, hs⟩ : ∃ y, y = n4 l 12 := ⟨_, rfl⟩
  obtain ⟨d, hd⟩ : ∃ y, y = n4 l 16 := ⟨_, rfl⟩
  have es : a12 * 65536 + a14 = s := by rw [ha12, ha14, hs]; exact (n4_n2 l 12).symm
  have ed : a16 * 65536 + a18 = d := by rw [ha16, ha18, hd]; exact (n4_n2 l 16).symm
  have s1 : ∀ [Inhabited Nat], IntKind.i64.wrap (a12 * 65536) = a12 * 65536 := by intro _; exact IntWalk.i64_in _ (by omega)
  have s2 : ∀ [Inhabited Nat], IntKind.i64.wrap (a12 * 65536 + a14) = s := by intro _; rw [es]; exact IntWalk.i64_in _ (by omega)
  have s3 : ∀ [Inhabited Nat], IntKind.u32.wrap s = s := by intro _; rw [IntKind.wrap_u32']; omega
  have d1 : ∀ [Inhabited Nat], IntKind.i64.wrap (a16 * 65536) = a16 * 65536 := by intro _; exact IntWalk.i64_in _ (by omega)
  have d2 : ∀ [Inhabited Nat], IntKind.i64.wrap (a16 * 65536 + a18) = d := by intro _; rw [ed]; exact IntWalk.i64_in _ (by omega)
  have d3 : ∀ [Inhabited Nat], IntKind.u32.wrap d = d := by intro _; rw [IntKind.wrap_u32']; omega
  have p9 : ∀ [Inhabited Nat], IntKind.i64.wrap 17 = 17 := by intro _; exact IntWalk.i64_in _ (by omega)
  have i9 : (9 : Int) < (n : Int) := by omega
  have HSS := Lib.hid hs
  have HDD := Lib.hid hd
  have H20 := Lib.hid ha20
  have H22 := Lib.hid ha22
  clear hs hd es ed ha12 ha14 ha16 ha18 ha20 ha22 r12 r14 r16 r18 r20 r22
  have hS9 : RS w b (off + 9) 17 ((((((X3.setCell ⟨q, 3, none⟩ (.int .i64 17)).setCell ⟨q, 4, none⟩ (.int .u32 s)).setCell ⟨q, 5, none⟩ (.int .i64 a20)).setCell ⟨q, 6, none⟩ (.int .u32 d)).setCell ⟨q, 7, none⟩ (.int .i64 a22)).drew.drew.drew.drew.drew.drew.drew) := keepR HBW.out ⟨c9, HX3.out.below⟩ ((((((Below.refl _ _).setCell HQW.out _).setCell HQW.out _).setCell HQW.out _).setCell HQW.out _).setCell HQW.out _).drew.drew.drew.drew.drew.drew.drew
  go_wp2_with fail
  go_region_held3 (fun wx => wx.cell? ⟨b, off + 9, none⟩ = some (.int .u8 17) ∧ Below w.heap.size w wx) (first | (with_reducible exact hS0) | (with_reducible exact keepR HBW.out (by assumption) (Below.refl _ _).drew) | (with_reducible exact hS9) | fail)
    (first | (go_at_call 46; (with_reducible refine (N12.out _ (by assumption)).mono ?_); rintro e w' ⟨rfl, rfl⟩) | (go_at_call 46; (with_reducible refine (N14.out _ (by assumption)).mono ?_); rintro e w' ⟨rfl, rfl⟩) | (go_at_call 46; (with_reducible refine (N16.out _ (by assumption)).mono ?_); rintro e w' ⟨rfl, rfl⟩) | (go_at_call 46; (with_reducible refine (N18.out _ (by assumption)).mono ?_); rintro e w' ⟨rfl, rfl⟩) | (go_at_call 46; (with_reducible refine (N20.out _ (by assumption)).mono ?_); rintro e w' ⟨rfl, rfl⟩) | (go_at_call 46; (with_reducible refine (N22.out _ (by assumption)).mono ?_); rintro e w' ⟨rfl, rfl⟩) | fail)
  obtain ⟨p4, hp4⟩ : ∃ p4 : Pk, p4 = ⟨y1, y4, y8, 17, s, a20, d, a22, 0, 0, 0, 0, []⟩ := ⟨_, rfl⟩
  have HX4 : Hid (Rd w q p4 none 0 0 ((((((X3.setCell ⟨q, 3, none⟩ (.int .i64 17)).setCell ⟨q, 4, none⟩ (.int .u32 s)).setCell ⟨q, 5, none⟩ (.int .i64 a20)).setCell ⟨q, 6, none⟩ (.int .u32 d)).setCell ⟨q, 7, none⟩ (.int .i64 a22)).drew.drew.drew.drew.drew.drew.drew)) := Lib.hid (by
    have := HX3.out
    rw [Hp3.out] at this
    rw [hp4]
    exact (((((this.set 3 (.int .i64 17) (p' := ⟨y1, y4, y8, 17, 0, 0, 0, 0, 0, 0, 0, 0, []⟩) (a' := none) (n' := 0) (c' := 0) rfl).set 4 (.int .u32 s) (p' := ⟨y1, y4, y8, 17, s, 0, 0, 0, 0, 0, 0, 0, []⟩) (a' := none) (n' := 0) (c' := 0) rfl).set 5 (.int .i64 a20) (p' := ⟨y1, y4, y8, 17, s, a20, 0, 0, 0, 0, 0, 0, []⟩) (a' := none) (n' := 0) (c' := 0) rfl).set 6 (.int .u32 d) (p' := ⟨y1, y4, y8, 17, s, a20, d, 0, 0, 0, 0, 0, []⟩) (a' := none) (n' := 0) (c' := 0) rfl).set 7 (.int .i64 a22) (p' := ⟨y1, y4, y8, 17, s, a20, d, a22, 0, 0, 0, 0, []⟩) (a' := none) (n' := 0) (c' := 0) rfl).drew.drew.drew.drew.drew.drew.drew)
  obtain ⟨X4, hX4⟩ : ∃ X4, X4 = (((((X3.setCell ⟨q, 3, none⟩ (.int .i64 17)).setCell ⟨q, 4, none⟩ (.int .u32 s)).setCell ⟨q, 5, none⟩ (.int .i64 a20)).setCell ⟨q, 6, none⟩ (.int .u32 d)).setCell ⟨q, 7, none⟩ (.int .i64 a22)).drew.drew.drew.drew.drew.drew.drew := ⟨_, rfl⟩
  rw [← hX4] at HX4
  rw [← hX4]
  have Hp4 := Lib.hid hp4
  clear hX4 hp4 HX3 xf x0 x1 x2 x3 x4 x5 x6 x7 x8 x9 x10 x11 x12
  obtain ⟨x0, x1, x2, x3, x4, x5, x6, x7, x8, x9, x10, x11, x12⟩ := HX4.out.pk
  have xf := HX4.out.free
  rename_i hHeld
  clear hHeld hS0 hS9 HI3 N12 N14 N16 N18 N20 N22 s1 s2 s3 d1 d2 d3 p9 i9 c9
  have HI4 := Lib.hid (HI.out.below HX4.out.below)
  have c9 := in_cell HI4.out 9 (by omega)
  rw [HK.out] at c9
  go_upto_region 16 with fail
  clear c9
  have jK : (28 : Int) ≤ (n : Int) := by omega
  have jc : (28 : Int) ≤ (c : Int) := by omega
  have jc2 : (n : Int) ≤ (c : Int) := by omega
  obtain ⟨ad, had⟩ : ∃ ad : Addr, (if c = 28 then some (⟨b, off, none⟩ : Addr) else some ⟨b, off + 28, none⟩) = some ad := by
    by_cases h : c = 28
    · exact ⟨⟨b, off, none⟩, by rw [if_pos h]⟩
    · exact ⟨⟨b, off + 28, none⟩, by rw [if_neg h]⟩
  have hIn : ∀ W : World, In W (some ⟨b, off, none⟩) n c l → In W (some ad) (n - 28) (c - 28) (l.drop 28) := by
    intro W hW
    have hl := hW.len
    refine ⟨by rw [List.length_drop]; omega, by omega, (fun e => by cases e), ?_, fun x hx => hW.fit x (List.mem_of_mem_drop hx)⟩
    by_cases h : c = 28
    · have h0 : l.drop 28 = [] := List.drop_eq_nil_of_le (by omega)
      rw [h0, show n - 28 = 0 by omega]
      exact At.nil _ _ _
    · rw [if_neg h] at had
      cases had
      have := hW.here.sub hW.len 28 n (by omega) (Nat.le_refl _) (n - 28) (c - 28) (off + 28) (by omega) (by omega)
      rw [List.take_of_length_le (by rw [List.length_drop]; omega)] at this
      exact this
  have hsn : (n : Int) - 28 = ((n - 28 : Nat) : Int) := by omega
  have hsc : (c : Int) - 28 = ((c - 28 : Nat) : Int) := by omega
  obtain ⟨k, hk⟩ : ∃ k, k = n - 28 := ⟨_, rfl⟩
  obtain ⟨cr, hcr⟩ : ∃ cr, cr = c - 28 := ⟨_, rfl⟩
  rw [← hk, ← hcr] at hIn
  rw [← hk] at hsn
  rw [← hcr] at hsc
  have HIN := Lib.hid hIn
  have hkb : k ≤ 1500 := by omega
  obtain ⟨D, hD⟩ : ∃ D, D = dec l := ⟨_, rfl⟩
  have HDz : Hid (D = { p4 with data := l.drop 28 }) := Lib.hid (by
    have h9 := HK.out
    rw [hD, Hp4.out]
    unfold dec
    simp only [h9, HY1.out, HY4.out, HY8.out, HSS.out, HDD.out, H20.out, H22.out, show ¬ ((17 : Int) = 6) by decide, if_false, if_true])
  have HDl := Lib.hid hD
  have HOV : Hid ((X4.alloc (.cells #[] 5)).ownsRow X4.heap.size 5 1 (.slice (some ⟨X4.heap.size, 0, none⟩) 0 0) 0 []) := Lib.hid (World.ownsRow_made X4 #[] 0 (Nat.le_refl _) (by decide) rfl)
  have HIY := Lib.hid (HIN.out _ (HI.out.below (HX4.out.below.alloc HX4.out.below.size (.cells #[] 5))))
  have hsy : X4.heap.size ≤ (X4.alloc (.cells #[] 5)).heap.size := by simp
  have HKN := Lib.hid hk
  have HCR := Lib.hid hcr
  clear hIn hD hk hcr
  go_wp2_with (at_builtin; (try rw [← HKN.out]); (try rw [← HCR.out]); refine append_any rfl (.tmp 102) (.tmp 105) 24 rfl X4.heap.size 5 i0 (.int .u8 0) 1 1 Try.underlying24 hi0 hz0 hz1 hz2 rfl (by decide) _ 0 [] rfl HOV.out (some ad) k cr (u8s (l.drop 28)) rfl HIY.out.zero ?c1 HIY.out.cells (u8s_one _) ?c2 ?c3 ?c4 ?_)
  case c1 => unfold u8s; rw [List.length_map, HIY.out.len]; omega
  case c2 => unfold maxLen; omega
  case c3 => omega
  case c4 => exact hsy
  intro v5 w5 hown5 hg5
  have hO : w5.ownsRow X4.heap.size 5 1 v5 k (u8s (l.drop 28)) := by simpa using hown5
  obtain ⟨a5, c5, rfl⟩ := own_form hO
  have HX9 := Lib.hid (HX4.out.later ((bl_al (Below.refl _ _) _).grown hg5 hsy (fun j hj => (HOV.out.lt j hj).1)))
  have hqX : q < X4.heap.size := lt_of_block HX4.out.here
  have HQX := Lib.hid hqX
  have HO := Lib.hid hO
  have HLD := Lib.hid HIY.out.len
  have HFD := Lib.hid HIY.out.fit
  clear xf x0 x1 x2 x3 x4 x5 x6 x7 x8 x9 x10 x11 x12 hown5 hg5 hO hqX HIY HOV HX4 had jK jc jc2 hsn hsc hsy
  obtain ⟨x0, x1, x2, x3, x4, x5, x6, x7, x8, x9, x10, x11, x12⟩ := HX9.out.pk
  have xf := HX9.out.free
  go_wp2_with fail
  have HXD : Hid (Rd w q D a5 k c5 (w5.setCell ⟨q, 12, none⟩ (.slice a5 k c5))) := Lib.hid (by
    rw [HDz.out]
    exact HX9.out.set 12 _ rfl)
  have hval2 : p4.val a5 k c5 = D.val a5 k c5 := by rw [HDz.out]
  have hdat : D.data = l.drop 28 := by rw [HDz.out]
  obtain ⟨X9, hX9⟩ : ∃ X9, X9 = w5.setCell ⟨q, 12, none⟩ (.slice a5 k c5) := ⟨_, rfl⟩
  have hO9 : X9.ownsRow X4.heap.size 5 1 (.slice a5 k c5) k (u8s D.data) := by
    rw [hX9, hdat]
    exact ownsRow_setCell_below HO.out HQX.out _
  have HO9 := Lib.hid hO9
  have hN9 := own_row hO9 (by rw [hdat]; exact HLD.out) (by rw [hdat]; exact HFD.out)
  have HN9 := Lib.hid hN9
  have hlD : D.data.length = k := hN9.len
  rw [← hX9] at HXD
  rw [← hX9]
  unfold Pk.val Pk.cs at hval2
  rw [hval2]
  clear hX9 hval2 hdat hO9 hN9 HO HX9 HLD HFD xf x0 x1 x2 x3 x4 x5 x6 x7 x8 x9 x10 x11 x12
  by_cases hok : Ok D
  · have hty : Typed D := by rw [HDl.out]; exact dec_typed HI.out.fit
    refine (refBuild_ok D a5 k c5 hok hty X9 HN9.out).mono ?_
    rintro e X5 ⟨ao, cp, rfl, hbi, hb5⟩
    have HX5 := Lib.hid (HXD.out.later hb5)
    have HI5 := Lib.hid (HI.out.below HX5.out.below)
    have HO5 := Lib.hid (owns_below HO9.out hb5)
    have sA := str_of hbi.here hbi.len
    have sB := str_of HI5.out.here HI5.out.len
    have sq := str_eq hbi.fit HI5.out.fit
    obtain ⟨s, hs⟩ : ∃ s, s = strOfNums (bts D) := ⟨_, rfl⟩
    obtain ⟨t, ht⟩ : ∃ t, t = strOfNums l := ⟨_, rfl⟩
    rw [← hs] at sA sq
    rw [← ht] at sB sq
    obtain ⟨N, hN⟩ : ∃ N, N = 20 + segLen D := ⟨_, rfl⟩
    rw [← hN] at sA
    rw [← hN]
    clear hs ht hbi hb5 hN HXD HI5
    obtain ⟨x0, x1, x2, x3, x4, x5, x6, x7, x8, x9, x10, x11, x12⟩ := HX5.out.pk
    obtain ⟨z0, z1, z2, z3, z4, z5, z6, z7, z8, z9, z10, z11, z12⟩ := HX5.out.zk
    have zf := HX5.out.zfree
    by_cases hbt : bts D = l
    · have HIS : Hid (Is l) := Lib.hid ⟨by rw [← HDl.out]; exact hok, by rw [← HDl.out]; exact hbt⟩
      have hs : same (bts D) l = true := decide_eq_true hbt
      rw [hs] at sq
      have sqn : (s.toList != t.toList) = false := by simp [bne, sq]
      clear hbt hs hok hty
      go_wp2
      refine bodyPost_ret (v := .tuple #[D.val a5 k c5, .int .i64 0]) (by simp [results, Try.results30, go_sem, z0, z1, z2, z3, z4, z5, z6, z7, z8, z9, z10, z11, z12]) rfl ⟨_, rfl, .inr ⟨HIS.out, a5, k, c5, by rw [HDl.out], by rw [← HDl.out]; exact hlD.symm, ?_⟩, ?_⟩
      · rw [← HDl.out]
        refine own_base (B := X4.heap.size) ?_ (Nat.le_of_lt (Nat.lt_of_le_of_lt hqw HQX.out))
        iterate 13 (refine ownsRow_setCell_below ?_ (by exact Nat.lt_of_le_of_lt hqw HQX.out) _)
        exact HO5.out
      · iterate 13 (refine Below.setCell ?_ (by first | exact Nat.le_refl _ | simp) _)
        exact HX5.out.below
    · have HIS : Hid (¬ Is l) := Lib.hid (fun h => hbt (by rw [HDl.out]; exact h.2))
      have hs : same (bts D) l = false := decide_eq_false hbt
      rw [hs] at sq
      have sqn : (s.toList != t.toList) = true := by simp [bne, sq]
      clear hbt hs hok hty
      go_wp2
      refine bodyPost_ret (v := .tuple #[zeroV, .int .i64 2]) (by simp [results, Try.results30, go_sem, z0, z1, z2, z3, z4, z5, z6, z7, z8, z9, z10, z11, z12]) rfl ⟨_, rfl, .inl ⟨HIS.out, rfl⟩, ?_⟩
      iterate 13 (refine Below.setCell ?_ (by first | exact Nat.le_refl _ | simp) _)
      exact HX5.out.below
  · have HIS : Hid (¬ Is l) := Lib.hid (fun h => hok (by rw [HDl.out]; exact h.1))
    refine (refBuild_no D a5 k c5 hlD (by omega) hok X9).mono ?_
    rintro e X5 ⟨rfl, hb5⟩
    have HX5 := Lib.hid (HXD.out.later hb5)
    obtain ⟨z0, z1, z2, z3, z4, z5, z6, z7, z8, z9, z10, z11, z12⟩ := HX5.out.zk
    have zf := HX5.out.zfree
    clear hb5 HXD hok
    go_wp2
    refine bodyPost_ret (v := .tuple #[zeroV, .int .i64 2]) (by simp [results, Try.results30, go_sem, z0, z1, z2, z3, z4, z5, z6, z7, z8, z9, z10, z11, z12]) rfl ⟨_, rfl, .inl ⟨HIS.out, rfl⟩, ?_⟩
    iterate 13 (refine Below.setCell ?_ (by first | exact Nat.le_refl _ | simp) _)
    exact HX5.out.below

set_option maxRecDepth 100000 in
set_option maxHeartbeats 1000000 in
theorem rp_short (l : List Int) (a : Option Addr) ( n c : Nat) (h : n < 28) (w : World) :
    Calls Try.prog 30 #[.slice a n c] w fun e w' => e = .returned (.tuple #[zeroV, .int .i64 2]) ∧ Below w.heap.size w w' := by
  obtain ⟨R, hR⟩ : ∃ R, w.alloc (.cells zeroCs 49) = R := ⟨_, rfl⟩
  obtain ⟨X, hX⟩ : ∃ X, R.alloc (.cells zeroCs 49) = X := ⟨_, rfl⟩
  have hRz : R.heap.size = w.heap.size + 1 := by rw [← hR]; simp
  obtain ⟨q, hq⟩ : ∃ q, q = w.heap.size + 1 := ⟨_, rfl⟩
  have hx : Rd w q ⟨0, 0, 0, 0, 0, 0, 0, 0, 0, 0, 0, 0, []⟩ none 0 0 X := by
    have h1 : R.heap[w.heap.size]? = some (.cells zeroCs 49 (0, 0)) := by rw [← hR]; exact heap_alloc_new _ _
    refine ⟨?_, ?_, by omega, ?_⟩
    · rw [← hX, hq, ← hRz]; exact heap_alloc_new _ _
    · rw [← hX, heap_alloc_old _ _ (by omega)]; exact h1
    · rw [← hX, ← hR]; exact bl_al (bl_al (Below.refl _ _) _) _
  have HX := Lib.hid hx
  have HR := Lib.hid hR
  have HXX := Lib.hid hX
  have HQ := Lib.hid hq
  have t1 : decide ((n : Int) < 28) = true := decide_eq_true (by omega)
  clear hX hR hx hRz hq
  go_enter Try.func30, Try.ntmps30
  go_upto_region 3 with fail
  rw [HR.out, HXX.out, ← HQ.out]
  obtain ⟨x0, x1, x2, x3, x4, x5, x6, x7, x8, x9, x10, x11, x12⟩ := HX.out.pk
  obtain ⟨z0, z1, z2, z3, z4, z5, z6, z7, z8, z9, z10, z11, z12⟩ := HX.out.zk
  have zf := HX.out.zfree
  clear HR HXX
  go_wp2
  refine bodyPost_ret (v := .tuple #[zeroV, .int .i64 2]) (by simp [results, Try.results30, go_sem, z0, z1, z2, z3, z4, z5, z6, z7, z8, z9, z10, z11, z12]) rfl ⟨rfl, ?_⟩
  iterate 13 (refine Below.setCell ?_ (by first | exact Nat.le_refl _ | simp) _)
  exact HX.out.below
set_option maxRecDepth 100000 in
set_option maxHeartbeats 1000000 in
theorem rp_long (l : List Int) (a : Option Addr) ( n c : Nat) (h : 1500 < n) (hn : n ≤ 4611686018427387904) (w : World) :
    Calls Try.prog 30 #[.slice a n c] w fun e w' => e = .returned (.tuple #[zeroV, .int .i64 2]) ∧ Below w.heap.size w w' := by
  obtain ⟨R, hR⟩ : ∃ R, w.alloc (.cells zeroCs 49) = R := ⟨_, rfl⟩
  obtain ⟨X, hX⟩ : ∃ X, R.alloc (.cells zeroCs 49) = X := ⟨_, rfl⟩
  have hRz : R.heap.size = w.heap.size + 1 := by rw [← hR]; simp
  obtain ⟨q, hq⟩ : ∃ q, q = w.heap.size + 1 := ⟨_, rfl⟩
  have hx : Rd w q ⟨0, 0, 0, 0, 0, 0, 0, 0, 0, 0, 0, 0, []⟩ none 0 0 X := by
    have h1 : R.heap[w.heap.size]? = some (.cells zeroCs 49 (0, 0)) := by rw [← hR]; exact heap_alloc_new _ _
    refine ⟨?_, ?_, by omega, ?_⟩
    · rw [← hX, hq, ← hRz]; exact heap_alloc_new _ _
    · rw [← hX, heap_alloc_old _ _ (by omega)]; exact h1
    · rw [← hX, ← hR]; exact bl_al (bl_al (Below.refl _ _) _) _
  have HX := Lib.hid hx
  have HR := Lib.hid hR
  have HXX := Lib.hid hX
  have HQ := Lib.hid hq
  have t1 : decide ((n : Int) < 28) = false := decide_eq_false (by omega)
  have t2 : decide (1500 < (n : Int)) = true := decide_eq_true (by omega)
  clear hX hR hx hRz hq
  go_enter Try.func30, Try.ntmps30
  go_upto_region 3 with fail
  rw [HR.out, HXX.out, ← HQ.out]
  obtain ⟨x0, x1, x2, x3, x4, x5, x6, x7, x8, x9, x10, x11, x12⟩ := HX.out.pk
  obtain ⟨z0, z1, z2, z3, z4, z5, z6, z7, z8, z9, z10, z11, z12⟩ := HX.out.zk
  have zf := HX.out.zfree
  clear HR HXX
  go_wp2
  refine bodyPost_ret (v := .tuple #[zeroV, .int .i64 2]) (by simp [results, Try.results30, go_sem, z0, z1, z2, z3, z4, z5, z6, z7, z8, z9, z10, z11, z12]) rfl ⟨rfl, ?_⟩
  iterate 13 (refine Below.setCell ?_ (by first | exact Nat.le_refl _ | simp) _)
  exact HX.out.below
set_option maxRecDepth 100000 in
set_option maxHeartbeats 1000000 in
theorem rp_other (l : List Int) (b off n c : Nat) (h : 28 ≤ n) (hn : n ≤ 1500) (w : World) (hI : In w (some ⟨b, off, none⟩) n c l) (h1 : l.getD 9 0 ≠ 17) (h2 : l.getD 9 0 ≠ 6) :
    Calls Try.prog 30 #[.slice (some ⟨b, off, none⟩) n c] w fun e w' => e = .returned (.tuple #[zeroV, .int .i64 2]) ∧ Below w.heap.size w w' := by
  obtain ⟨R, hR⟩ : ∃ R, w.alloc (.cells zeroCs 49) = R := ⟨_, rfl⟩
  obtain ⟨X, hX⟩ : ∃ X, R.alloc (.cells zeroCs 49) = X := ⟨_, rfl⟩
  have hRz : R.heap.size = w.heap.size + 1 := by rw [← hR]; simp
  obtain ⟨q, hq⟩ : ∃ q, q = w.heap.size + 1 := ⟨_, rfl⟩
  have hx : Rd w q ⟨0, 0, 0, 0, 0, 0, 0, 0, 0, 0, 0, 0, []⟩ none 0 0 X := by
    have h1 : R.heap[w.heap.size]? = some (.cells zeroCs 49 (0, 0)) := by rw [← hR]; exact heap_alloc_new _ _
    refine ⟨?_, ?_, by omega, ?_⟩
    · rw [← hX, hq, ← hRz]; exact heap_alloc_new _ _
    · rw [← hX, heap_alloc_old _ _ (by omega)]; exact h1
    · rw [← hX, ← hR]; exact bl_al (bl_al (Below.refl _ _) _) _
  have HX := Lib.hid hx
  have HR := Lib.hid hR
  have HXX := Lib.hid hX
  have HQ := Lib.hid hq
  have HI := Lib.hid hI
  have c9 := in_cell (hI.below hx.below) 9 (by omega)
  have i9 : (9 : Int) < (n : Int) := by omega
  obtain ⟨y, hy⟩ : ∃ y, y = l.getD 9 0 := ⟨_, rfl⟩
  rw [← hy] at c9 h1 h2
  have t1 : (y != 17) = true := by simp [h1]
  have t2 : (y != 6) = true := by simp [h2]
  clear hy h1 h2 hI
  clear hX hR hx hRz hq
  go_enter Try.func30, Try.ntmps30
  go_upto_region 3 with fail
  rw [HR.out, HXX.out, ← HQ.out]
  obtain ⟨x0, x1, x2, x3, x4, x5, x6, x7, x8, x9, x10, x11, x12⟩ := HX.out.pk
  obtain ⟨z0, z1, z2, z3, z4, z5, z6, z7, z8, z9, z10, z11, z12⟩ := HX.out.zk
  have zf := HX.out.zfree
  clear HR HXX
  go_wp2
  refine bodyPost_ret (v := .tuple #[zeroV, .int .i64 2]) (by simp [results, Try.results30, go_sem, z0, z1, z2, z3, z4, z5, z6, z7, z8, z9, z10, z11, z12]) rfl ⟨rfl, ?_⟩
  iterate 13 (refine Below.setCell ?_ (by first | exact Nat.le_refl _ | simp) _)
  exact HX.out.below
set_option maxRecDepth 100000 in
set_option maxHeartbeats 1000000 in
theorem rp_low (l : List Int) (b off n c : Nat) (h : 28 ≤ n) (hn : n < 40) (w : World) (hI : In w (some ⟨b, off, none⟩) n c l) (h1 : l.getD 9 0 = 6) :
    Calls Try.prog 30 #[.slice (some ⟨b, off, none⟩) n c] w fun e w' => e = .returned (.tuple #[zeroV, .int .i64 2]) ∧ Below w.heap.size w w' := by
  obtain ⟨R, hR⟩ : ∃ R, w.alloc (.cells zeroCs 49) = R := ⟨_, rfl⟩
  obtain ⟨X, hX⟩ : ∃ X, R.alloc (.cells zeroCs 49) = X := ⟨_, rfl⟩
  have hRz : R.heap.size = w.heap.size + 1 := by rw [← hR]; simp
  obtain ⟨q, hq⟩ : ∃ q, q = w.heap.size + 1 := ⟨_, rfl⟩
  have hx : Rd w q ⟨0, 0, 0, 0, 0, 0, 0, 0, 0, 0, 0, 0, []⟩ none 0 0 X := by
    have h1 : R.heap[w.heap.size]? = some (.cells zeroCs 49 (0, 0)) := by rw [← hR]; exact heap_alloc_new _ _
    refine ⟨?_, ?_, by omega, ?_⟩
    · rw [← hX, hq, ← hRz]; exact heap_alloc_new _ _
    · rw [← hX, heap_alloc_old _ _ (by omega)]; exact h1
    · rw [← hX, ← hR]; exact bl_al (bl_al (Below.refl _ _) _) _
  have HX := Lib.hid hx
  have HR := Lib.hid hR
  have HXX := Lib.hid hX
  have HQ := Lib.hid hq
  have HI := Lib.hid hI
  have c9 := in_cell (hI.below hx.below) 9 (by omega)
  have i9 : (9 : Int) < (n : Int) := by omega
  rw [h1] at c9
  clear h1 hI
  clear hX hR hx hRz hq
  go_enter Try.func30, Try.ntmps30
  go_upto_region 3 with fail
  rw [HR.out, HXX.out, ← HQ.out]
  obtain ⟨x0, x1, x2, x3, x4, x5, x6, x7, x8, x9, x10, x11, x12⟩ := HX.out.pk
  obtain ⟨z0, z1, z2, z3, z4, z5, z6, z7, z8, z9, z10, z11, z12⟩ := HX.out.zk
  have zf := HX.out.zfree
  clear HR HXX
  go_wp2
  refine bodyPost_ret (v := .tuple #[zeroV, .int .i64 2]) (by simp [results, Try.results30, go_sem, z0, z1, z2, z3, z4, z5, z6, z7, z8, z9, z10, z11, z12]) rfl ⟨rfl, ?_⟩
  iterate 13 (refine Below.setCell ?_ (by first | exact Nat.le_refl _ | simp) _)
  exact HX.out.below
theorem in_some {w : World} {a : Option Addr} {n c : Nat} {l : List Int} (h : In w a n c l) (hn : 0 < n) : ∃ b off, a = some ⟨b, off, none⟩ := by
  obtain ⟨a', cap', e, hA⟩ := h.here
  simp only [Value.slice.injEq] at e
  obtain ⟨rfl, _, rfl⟩ := e
  rcases hA with h0 | ⟨b, off, e, _⟩
  · have := h.len; rw [h0] at this; simp at this; omega
  · exact ⟨b, off, e⟩
theorem Is.tcp {l : List Int} (h : Is l) (h6 : l.getD 9 0 = 6) : 40 ≤ l.length := by
  have h2 := congrArg List.length h.2
  rw [bts_len] at h2
  have h3 : (dec l).proto = 6 := h6
  unfold segLen at h2
  rw [if_neg (by omega)] at h2
  omega
theorem refParse_any (l : List Int) (a : Option Addr) (n c : Nat) (w : World) (hI : In w a n c l) (hn : n ≤ 4611686018427387904) :
    Calls Try.prog 30 #[.slice a n c] w fun e w' => ∃ res, e = .returned res ∧ RefRes w l w' res ∧ Below w.heap.size w w' := by
  have hl := hI.len
  by_cases h1 : n < 28
  · exact (rp_short l a n c h1 w).mono fun e w' ⟨he, hb⟩ => ⟨_, he, .inl ⟨fun hi => by have := hi.size; omega, rfl⟩, hb⟩
  by_cases h2 : 1500 < n
  · exact (rp_long l a n c h2 hn w).mono fun e w' ⟨he, hb⟩ => ⟨_, he, .inl ⟨fun hi => by have := hi.size; omega, rfl⟩, hb⟩
  obtain ⟨b, off, rfl⟩ := in_some hI (by omega)
  by_cases h17 : l.getD 9 0 = 17
  · exact rp_udp l b off n c w hI (by omega) (by omega) h17
  by_cases h6 : l.getD 9 0 = 6
  · by_cases h40 : n < 40
    · exact (rp_low l b off n c (by omega) h40 w hI h6).mono fun e w' ⟨he, hb⟩ => ⟨_, he, .inl ⟨fun hi => by have := hi.tcp h6; omega, rfl⟩, hb⟩
    · exact rp_tcp l b off n c w hI (by omega) (by omega) h6
  · exact (rp_other l b off n c (by omega) (by omega) w hI h17 h6).mono fun e w' ⟨he, hb⟩ => ⟨_, he, .inl ⟨fun hi => by
      rcases hi.1.proto with h | h
      · exact h6 h
      · exact h17 h, rfl⟩, hb⟩
end Go.Proofs.Ytfbmeoiaedlgoaa
