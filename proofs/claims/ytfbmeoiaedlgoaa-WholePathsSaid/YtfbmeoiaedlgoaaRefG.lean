/- Contract of the document's packet Build: the packet's bytes, or nil and 9. Conditions: the packet's numbers are of their types, its Data came in. -/
import Derived.Test.YtfbmeoiaedlgoaaRefC
import Derived.Test.YtfbmeoiaedlgoaaRefF
import Derived.Test.YtfbmeoiaedlgoaaRefSum
import Derived.Deep.AppendLies
namespace Go.Proofs.Ytfbmeoiaedlgoaa
open Go Go.RowKit
set_option linter.unusedVariables false
set_option linter.unusedSimpArgs false

theorem PIn.one {w : World} {a1 : Option Addr} {n1 c1 : Nat} {p : List Int} (h : In w a1 n1 c1 p) (t : TypeId) (N : Nat) (hN : N = w.heap.size) : PIn (w.alloc (.cells #[.slice a1 n1 c1] t)) (.slice (some ⟨N, 0, none⟩) 1 1) [p] := by
  subst hN
  refine ⟨_, 1, rfl, .inr ⟨_, 0, rfl, fun j x hj => ?_⟩⟩
  match j, hj with
  | 0, hj =>
    cases hj
    exact ⟨a1, n1, c1, cells_new w [.slice a1 n1 c1] t (0, 0) 0 _ rfl, h.below (bl_al (Below.refl _ _) _)⟩
theorem PIn.two {w : World} {a1 a2 : Option Addr} {n1 c1 n2 c2 : Nat} {p q : List Int} (h : In w a1 n1 c1 p) (h' : In w a2 n2 c2 q) (t : TypeId) (N : Nat) (hN : N = w.heap.size) : PIn (w.alloc (.cells #[.slice a1 n1 c1, .slice a2 n2 c2] t)) (.slice (some ⟨N, 0, none⟩) 2 2) [p, q] := by
  subst hN
  refine ⟨_, 2, rfl, .inr ⟨_, 0, rfl, fun j x hj => ?_⟩⟩
  match j, hj with
  | 0, hj =>
    cases hj
    exact ⟨a1, n1, c1, cells_new w [.slice a1 n1 c1, .slice a2 n2 c2] t (0, 0) 0 _ rfl, h.below (bl_al (Below.refl _ _) _)⟩
  | 1, hj =>
    cases hj
    exact ⟨a2, n2, c2, cells_new w [.slice a1 n1 c1, .slice a2 n2 c2] t (0, 0) 1 _ rfl, h'.below (bl_al (Below.refl _ _) _)⟩
theorem refSum1 {w : World} {a1 : Option Addr} {n1 c1 : Nat} {p : List Int} (h : In w a1 n1 c1 p) (hl : p.length ≤ 4294967295) (N : Nat) (hN : N = w.heap.size) :
    Calls Try.prog 32 #[.slice (some ⟨N, 0, none⟩) 1 1] (w.alloc (.cells #[.slice a1 n1 c1] 24)) fun e w' => e = .returned (.int .u16 (65535 - car (ws p))) ∧ Below (w.alloc (.cells #[.slice a1 n1 c1] 24)).heap.size (w.alloc (.cells #[.slice a1 n1 c1] 24)) w' := by
  have H := refSum_any [p] _ _ (PIn.one h 24 N hN) (by simpa using h.fit) (by simpa using hl) (by simp)
  rw [show [p].flatten = p by simp] at H
  exact H
theorem refSum2 {w : World} {a1 a2 : Option Addr} {n1 c1 n2 c2 : Nat} {p q : List Int} (h : In w a1 n1 c1 p) (h' : In w a2 n2 c2 q) (hl : p.length + q.length ≤ 4294967295) (N : Nat) (hN : N = w.heap.size) :
    Calls Try.prog 32 #[.slice (some ⟨N, 0, none⟩) 2 2] (w.alloc (.cells #[.slice a1 n1 c1, .slice a2 n2 c2] 24)) fun e w' => e = .returned (.int .u16 (65535 - car (ws (p ++ q)))) ∧ Below (w.alloc (.cells #[.slice a1 n1 c1, .slice a2 n2 c2] 24)).heap.size (w.alloc (.cells #[.slice a1 n1 c1, .slice a2 n2 c2] 24)) w' := by
  have H := refSum_any [p, q] _ _ (PIn.two h h' 24 N hN) (by simpa using fit_app h.fit h'.fit) (by simpa using hl) (by simp)
  rw [show [p, q].flatten = p ++ q by simp] at H
  exact H

/-- What Build leaves: the packet's bytes, in new memory. -/
def RBuilt (w : World) (p : Pk) (e : Ending) (w' : World) : Prop :=
  ∃ ao cp, e = .returned (.tuple #[.slice ao (20 + segLen p) cp, .int .i64 0]) ∧ In w' ao (20 + segLen p) cp (bts p) ∧ Below w.heap.size w w'

/-- All of a packet's cells, and that nothing below a world has turned. -/
abbrev GS (w : World) (p : Pk) (a : Option Addr) (n c : Nat) (w7 wx : World) : Prop :=
  wx.cell? ⟨w.heap.size, 0, none⟩ = some (.int .i64 p.tos) ∧ wx.cell? ⟨w.heap.size, 1, none⟩ = some (.int .i64 p.id) ∧ wx.cell? ⟨w.heap.size, 2, none⟩ = some (.int .i64 p.ttl) ∧ wx.cell? ⟨w.heap.size, 3, none⟩ = some (.int .i64 p.proto) ∧ wx.cell? ⟨w.heap.size, 4, none⟩ = some (.int .u32 p.src) ∧ wx.cell? ⟨w.heap.size, 5, none⟩ = some (.int .i64 p.sp) ∧ wx.cell? ⟨w.heap.size, 6, none⟩ = some (.int .u32 p.dst) ∧ wx.cell? ⟨w.heap.size, 7, none⟩ = some (.int .i64 p.dp) ∧ wx.cell? ⟨w.heap.size, 8, none⟩ = some (.int .u32 p.seq) ∧ wx.cell? ⟨w.heap.size, 9, none⟩ = some (.int .u32 p.ack) ∧ wx.cell? ⟨w.heap.size, 10, none⟩ = some (.int .i64 p.flags) ∧ wx.cell? ⟨w.heap.size, 11, none⟩ = some (.int .i64 p.win) ∧ wx.cell? ⟨w.heap.size, 12, none⟩ = some (.slice a n c) ∧ Below w7.heap.size w7 wx
theorem gs_of {w : World} {p : Pk} {a : Option Addr} {n c : Nat} {w7 wx : World} (hB : Box w p a n c w7) (hb : Below w7.heap.size w7 wx) : GS w p a n c w7 wx := by
  obtain ⟨⟨e0, e1, e2, e3, e4, e5, e6, e7, e8, e9, e10, e11, e12⟩, _⟩ := hB.next hb
  exact ⟨e0, e1, e2, e3, e4, e5, e6, e7, e8, e9, e10, e11, e12, hb⟩
theorem GS.bel {w : World} {p : Pk} {a : Option Addr} {n c : Nat} {w7 wx : World} (h : GS w p a n c w7 wx) : Below w7.heap.size w7 wx := h.2.2.2.2.2.2.2.2.2.2.2.2.2
theorem keepG {w : World} {p : Pk} {a : Option Addr} {n c : Nat} {w7 wx wy : World} (hB : Box w p a n c w7) (h : GS w p a n c w7 wx) (hb : Below wx.heap.size wx wy) : GS w p a n c w7 wy := gs_of hB (bl_tr h.bel hb)
theorem keepH {w : World} {p : Pk} {a : Option Addr} {n c : Nat} {w7 wx wy : World} (hB : Box w p a n c w7) (h : GS w p a n c w7 wx) (hb : Below w7.heap.size wx wy) : GS w p a n c w7 wy := gs_of hB (h.bel.trans hb)

set_option maxRecDepth 100000 in
theorem refBuild_no (p : Pk) (a : Option Addr) (n c : Nat) (hl : p.data.length = n) (hn : n ≤ 4611686018427387904) (h : ¬ Ok p) (w : World) :
    Calls Try.prog 21 #[p.val a n c] w fun e w' => e = .returned (.tuple #[.slice none 0 0, .int .i64 9]) ∧ Below w.heap.size w w' := by
  obtain ⟨W, hW, hB⟩ := Box.start w p a n c
  have HW := Lib.hid hW
  have HB := Lib.hid hB
  have C := Lib.hid (fun W => (refGood_any p a n c hl hn W).2 h)
  clear hl h hW hB
  go_enter Try.func21, Try.ntmps21
  go_wp2_with fail
  rw [HW.out]
  refine (C.out W).mono ?_
  rintro e w1 ⟨rfl, hb⟩
  have HB1 := Lib.hid (HB.out.next hb)
  clear hb HB HW C
  go_wp2
  go_ret2
  exact ⟨rfl, HB1.out.below⟩

set_option maxRecDepth 100000 in
set_option maxHeartbeats 2000000 in
theorem rbA (p : Pk) (a : Option Addr) (n c : Nat) (h : Ok p) (ht : Typed p) (x : Int) (hx : rawSum p = x) (H0 : (x == 0) = true) (q : (p.proto == 17) = true) (w : World) (hI : In w a n c p.data) :
    Calls Try.prog 21 #[p.val a n c] w (RBuilt w p) := by
  obtain ⟨i0, hi0, hz0, hz1, hz2⟩ := info_parts info5
  obtain ⟨W, hW, hB⟩ := Box.start w p a n c
  have HW := Lib.hid hW
  have HB := Lib.hid hB
  have HI := Lib.hid hI
  have HT := Lib.hid ht
  have hsl := h.len
  have hs8 : 8 ≤ segLen p := by unfold segLen; split <;> omega
  have hln : n ≤ 1480 := by have := hI.len; unfold segLen at hsl; omega
  have HSG : Hid ((65535 : Int) = segSum p) := Lib.hid (by unfold segSum; rw [if_pos ⟨by simpa using q, by rw [hx]; simpa using H0⟩])
  have hx16 : w16 x := by rw [← hx]; exact rawSum_w16 ht.data
  have hk16 : w16 (65535 : Int) := by rw [HSG.out]; exact segSum_w16 ht.data
  have CG := Lib.hid (fun W => (refGood_any p a n c hI.len (by omega) W).1 h)
  have CW0 := Lib.hid (fun W (hi : In W a n c p.data) => with_any p a n c h ht 0 (by unfold w16; omega) W hi)
  have CW1 := Lib.hid (fun W (hi : In W a n c p.data) => with_any p a n c h ht (65535 : Int) hk16 W hi)
  have hip := ipSum_w16 p
  have CF0 := Lib.hid (fun m (hm : m ≤ 1480) W => front_any p a n c m hm h ht 0 (by unfold w16; omega) W)
  have CFy := Lib.hid (fun m (hm : m ≤ 1480) y (hy : w16 y) W => front_any p a n c m hm h ht y hy W)
  have hpr : 0 ≤ p.proto ∧ p.proto < 256 := by have := h.proto; omega
  have HPR := Lib.hid hpr
  obtain ⟨m, hm⟩ : ∃ m, m = segLen p := ⟨_, rfl⟩
  have HX : Hid (65535 - car (ws (pre p m ++ seg p 0)) = x) := Lib.hid (by rw [hm, ← hx]; rfl)
  have HX16 := Lib.hid hx16
  have hx0 : 0 ≤ x := hx16.1
  have hx1 : x < 65536 := hx16.2
  obtain ⟨y, hy⟩ : ∃ y, y = ipSum p := ⟨_, rfl⟩
  have HY : Hid (65535 - car (ws (hdr p m 0)) = y) := Lib.hid (by rw [hm, hy]; rfl)
  rw [← hy] at hip
  have HY16 := Lib.hid hip
  have hy0 : 0 ≤ y := hip.1
  have hy1 : y < 65536 := hip.2
  have ky : IntKind.i64.wrap y = y := IntWalk.i64_in _ (by omega)
  have KY := Lib.hid ky
  rw [← hm] at hsl hs8 CW0 CW1
  have HBT : Hid (u8s (hdr p m y) ++ u8s (seg p (65535 : Int)) = u8s (bts p)) := Lib.hid (by rw [HSG.out, hm, hy, u8s_app]; rfl)
  have HSL : Hid (segLen p = m) := Lib.hid hm.symm
  have HFB := Lib.hid (fit_bts ht.data)
  clear hI h ht hx hW hB hm hy hx16 hip hpr hk16 ky
  go_enter Try.func21, Try.ntmps21
  go_wp2_with fail
  rw [HW.out]
  refine (CG.out W).mono ?_
  rintro e w1 ⟨rfl, hb⟩
  have HB1 := Lib.hid (HB.out.next hb)
  obtain ⟨e0, e1, e2, e3, e4, e5, e6, e7, e8, e9, e10, e11, e12⟩ := HB1.out.here
  clear hb HB HW CG
  go_wp2_with fail
  refine (CW0.out w1 (HI.out.below HB1.out.below)).mono ?_
  rintro e w2 ⟨ao, cp, rfl, hin, hb⟩
  have HB2 := Lib.hid (HB1.out.next hb)
  have HS2 := Lib.hid hin
  clear hb hin HB1 CW0 e0 e1 e2 e3 e4 e5 e6 e7 e8 e9 e10 e11 e12
  go_wp2_with fail
  -- ahead
  have hf0 := HB2.out.drw.fs
  have hszd : w.heap.size + 1 ≤ w2.drew.heap.size := HB2.out.here.lt
  have HZ2 : Hid (w.heap.size + 1 ≤ w2.heap.size) := Lib.hid HB2.out.here.lt
  have F1 : Hid (Calls Try.prog 39 #[.slice none 0 0, .int .u32 p.src] w2.drew (Put w2.heap.size w2.drew 4 (b4 p.src))) := Lib.hid (four_any p.src HT.out.src w2.heap.size 0 none 0 [] w2.drew (World.ownsRow_nil _ _ _ _) (Nat.le_refl _) (by omega))
  have F2 : Hid (∀ (X : World) (ao : Option Addr) (cc : Nat), X.ownsRow w2.heap.size 5 1 (.slice ao 4 cc) 4 (u8s (b4 p.src)) → Below w2.heap.size w2.drew X → Calls Try.prog 39 #[.slice ao 4 cc, .int .u32 p.dst] X (Put w2.heap.size X 8 (b4 p.src ++ b4 p.dst))) := Lib.hid (fun X ao cc ho hb => four_any p.dst HT.out.dst w2.heap.size 4 ao cc _ X ho hb.size (by omega))
  clear hszd
  go_region_held3 (fun wx => wx.cell? ⟨w.heap.size, 4, none⟩ = some (.int .u32 p.src) ∧ wx.cell? ⟨w.heap.size, 6, none⟩ = some (.int .u32 p.dst) ∧ Box w p a n c wx) (first | exact hf0 | exact keepF (by assumption) (Below.mono (by assumption) HZ2.out) | go_keep)
    (first | (go_at_call 39; (with_reducible refine F1.out.mono ?_); rintro e w3 ⟨a3, c3, rfl, ho3, hb3⟩) | (go_at_call 39; (with_reducible refine (F2.out _ _ _ (by assumption) (by assumption)).mono ?_); rintro e w4 ⟨a4, c4, rfl, ho4, hb4⟩))
  have HO4 := Lib.hid ho4
  have hb24 : Below w2.heap.size w2 w4 := ((Below.refl _ _).drew.trans hb3).trans hb4
  have HB24 := Lib.hid hb24
  have f3 := (HB2.out.next hb24).here.c3
  have hs4 := hb24.size
  rename_i hHeld
  clear hHeld ho3 hb3 ho4 hb4 hf0 F1 F2 HZ2 hb24
  go_wp2_with fail
  refine (two_any p.proto (by have := HPR.out; omega) w2.heap.size 8 a4 c4 _ w4 HO4.out hs4 (by omega)).mono ?_
  rintro e w5 ⟨a5, c5, rfl, ho5, hb5⟩
  have HO5 := Lib.hid ho5
  have hs5 : w2.heap.size ≤ w5.heap.size := Nat.le_trans hs4 hb5.size
  have HB25 := Lib.hid (HB24.out.trans hb5)
  clear ho5 f3 hb5 hs4 HO4 HB24
  go_wp2_with fail
  refine (two_any (m : Int) (by omega) w2.heap.size 10 a5 c5 _ w5 HO5.out hs5 (by omega)).mono ?_
  rintro e w6 ⟨a6, c6, rfl, ho6, hb6⟩
  have HB26 := Lib.hid (HB25.out.trans hb6)
  have e6 : b4 p.src ++ b4 p.dst ++ b2 p.proto ++ b2 (m : Int) = pre p m := by
    have := HPR.out
    unfold pre
    have e : b2 p.proto = [0, p.proto % 256] := by
      unfold b2
      rw [show p.proto / 256 % 256 = 0 by omega]
    rw [e]
    simp [List.append_assoc]
  rw [e6] at ho6
  have CS := Lib.hid (refSum2 (own_row ho6 (by rw [pre_len]) (fit_pre p m)) (HS2.out.below HB26.out) (by rw [pre_len, HS2.out.len]; omega) w6.heap.size rfl)
  rw [HX.out] at CS
  have hs6 := HB26.out.size
  clear ho6 e6 hb6 HO5 HB25 hs5
  go_wp2_with fail
  refine CS.out.mono ?_
  rintro e w8 ⟨rfl, hb8⟩
  have HB8 := Lib.hid (HB2.out.next ((HB26.out.alloc hs6 _).trans (hb8.mono (by simp; omega))))
  obtain ⟨e0, e1, e2, e3, e4, e5, e6, e7, e8, e9, e10, e11, e12⟩ := HB8.out.here
  clear hb8 CS HB26 hs6 HB2 HS2
  go_wp2_with fail
  refine (CW1.out w8 (HI.out.below HB8.out.below)).mono ?_
  rintro e w7 ⟨ar, cr, rfl, hin, hb⟩
  have HB7 := Lib.hid (HB8.out.next hb)
  obtain ⟨ad, rfl⟩ : ∃ ad, ar = some ad := by
    cases ar with
    | none => have := (hin.zero rfl).1; omega
    | some ad => exact ⟨ad, rfl⟩
  have HROW := Lib.hid hin
  clear hb hin HB8 CW1 e0 e1 e2 e3 e4 e5 e6 e7 e8 e9 e10 e11 e12
  -- the first header
  have hS0 := gs_of HB7.out (Below.refl w7.heap.size w7).drew
  have G1 : Hid (∀ W, GS w p a n c w7 W → Calls Try.prog 41 #[p.val a n c, .int .i64 m, .int .i64 0] W fun e w' => ∃ ao cp, e = .returned (.slice ao 20 cp) ∧ In w' ao 20 cp (hdr p m 0) ∧ Below W.heap.size W w') := Lib.hid (fun W _ => (CF0.out m hsl W).mono fun e w' ⟨ao, cp, he, ho, hb⟩ => ⟨ao, cp, he, own_row ho (hdr_len _ _ _) (fit_hdr _ _ _), hb⟩)
  have G2 : Hid (∀ W, GS w p a n c w7 W → Calls Try.prog 41 #[p.val a n c, .int .i64 m, .int .i64 y] W fun e w' => ∃ ao cp, e = .returned (.slice ao 20 cp) ∧ w'.ownsRow w7.heap.size 5 1 (.slice ao 20 cp) 20 (u8s (hdr p m y)) ∧ Below W.heap.size W w') := Lib.hid (fun W hg => (CFy.out m hsl y HY16.out W).mono fun e w' ⟨ao, cp, he, ho, hb⟩ => ⟨ao, cp, he, own_base ho (by have := (GS.bel hg).size; omega), hb⟩)
  have GSum : Hid (∀ W a1 c1, In W a1 20 c1 (hdr p m 0) → Calls Try.prog 32 #[.slice (some ⟨W.heap.size, 0, none⟩) 1 1] (W.alloc (.cells #[.slice a1 20 c1] 24)) fun e w' => e = .returned (.int .u16 y) ∧ Below (W.alloc (.cells #[.slice a1 20 c1] 24)).heap.size (W.alloc (.cells #[.slice a1 20 c1] 24)) w') := Lib.hid (fun W a1 c1 hi => by
    have := refSum1 hi (by rw [hdr_len]; decide) W.heap.size rfl
    rw [HY.out] at this
    exact this)
  have GL : Hid ((u8s (seg p (65535 : Int))).length = m * 1) := Lib.hid (by unfold u8s; rw [List.length_map, HROW.out.len, Nat.mul_one])
  have hm0 : 0 < m := by omega
  have h63 : 20 + m ≤ maxLen := by unfold maxLen; omega
  have hby : (20 + m) * 1 ≤ 140737488355328 := by omega
  have HM0 := Lib.hid hm0
  have H63 := Lib.hid h63
  have HBY := Lib.hid hby
  clear hm0 h63 hby
  go_wp2_with fail
  have ky := KY.out
  go_region_held3 (fun wx => wx.cell? ⟨w.heap.size, 0, none⟩ = some (.int .i64 p.tos) ∧ wx.cell? ⟨w.heap.size, 1, none⟩ = some (.int .i64 p.id) ∧ wx.cell? ⟨w.heap.size, 2, none⟩ = some (.int .i64 p.ttl) ∧ wx.cell? ⟨w.heap.size, 3, none⟩ = some (.int .i64 p.proto) ∧ wx.cell? ⟨w.heap.size, 4, none⟩ = some (.int .u32 p.src) ∧ wx.cell? ⟨w.heap.size, 5, none⟩ = some (.int .i64 p.sp) ∧ wx.cell? ⟨w.heap.size, 6, none⟩ = some (.int .u32 p.dst) ∧ wx.cell? ⟨w.heap.size, 7, none⟩ = some (.int .i64 p.dp) ∧ wx.cell? ⟨w.heap.size, 8, none⟩ = some (.int .u32 p.seq) ∧ wx.cell? ⟨w.heap.size, 9, none⟩ = some (.int .u32 p.ack) ∧ wx.cell? ⟨w.heap.size, 10, none⟩ = some (.int .i64 p.flags) ∧ wx.cell? ⟨w.heap.size, 11, none⟩ = some (.int .i64 p.win) ∧ wx.cell? ⟨w.heap.size, 12, none⟩ = some (.slice a n c) ∧ Below w7.heap.size w7 wx)
    (first | exact hS0 | exact keepG HB7.out (by assumption) (by assumption) | exact keepG HB7.out (by assumption) (bl_al (Below.refl _ _) _) | exact keepH HB7.out (by assumption) hgr | go_keep)
    (first | (go_at_call 41; (with_reducible refine (G1.out _ (by assumption)).mono ?_); rintro e w9 ⟨a9, c9, rfl, hi9, hb9⟩) | (go_at_call 32; (with_reducible refine (GSum.out _ _ _ (by assumption)).mono ?_); rintro e w10 ⟨rfl, hb10⟩) | (go_at_call 41; (with_reducible refine (G2.out _ (by assumption)).mono ?_); rintro e w11 ⟨a11, c11, rfl, ho11, hb11⟩) | (refine step_append_lies _ rfl (.tmp 55) (.tmp 56) 24 rfl w7.heap.size 5 i0 (.int .u8 0) 1 1 Try.underlying24 hi0 hz0 hz1 hz2 rfl (by decide) _ 20 (u8s (hdr p m y)) rfl ho11 ad m cr (u8s (seg p (65535 : Int))) rfl GL.out ((HROW.out.below (GS.bel (by assumption))).cells ad rfl) (u8s_one _) HM0.out H63.out HBY.out (GS.bel (by assumption)).size _ rfl ?_; intro g cap w12 hown12 hgrow12 hat12 hlt12; have hgr := (Below.refl w7.heap.size w11).grown hgrow12 (GS.bel (by assumption)).size (fun k hk => (ho11.lt k hk).1)) | fail)
  rename_i hHeld
  have HB12 := Lib.hid (HB7.out.next (GS.bel (w := w) (p := p) (a := a) (n := n) (c := c) hHeld)).below
  rw [HBT.out] at hown12
  have HI12 := Lib.hid (own_row (l := bts p) hown12 (by rw [bts_len, HSL.out]) HFB.out)
  clear hHeld hown12 hgrow12 hat12 hlt12 hgr ho11 hb11 hb10 hi9 hb9 hS0 G1 G2 GSum ky HROW HB7 CF0 CFy
  go_wp2
  go_ret2
  exact ⟨_, _, by rw [HSL.out]; rfl, by rw [HSL.out]; exact HI12.out, HB12.out⟩

set_option maxRecDepth 100000 in
set_option maxHeartbeats 2000000 in
theorem rbB (p : Pk) (a : Option Addr) (n c : Nat) (h : Ok p) (ht : Typed p) (x : Int) (hx : rawSum p = x) (H0 : (x == 0) = true) (q : (p.proto == 17) = false) (w : World) (hI : In w a n c p.data) :
    Calls Try.prog 21 #[p.val a n c] w (RBuilt w p) := by
  obtain ⟨i0, hi0, hz0, hz1, hz2⟩ := info_parts info5
  obtain ⟨W, hW, hB⟩ := Box.start w p a n c
  have HW := Lib.hid hW
  have HB := Lib.hid hB
  have HI := Lib.hid hI
  have HT := Lib.hid ht
  have hsl := h.len
  have hs8 : 8 ≤ segLen p := by unfold segLen; split <;> omega
  have hln : n ≤ 1480 := by have := hI.len; unfold segLen at hsl; omega
  have HSG : Hid (x = segSum p) := Lib.hid (by unfold segSum; rw [if_neg (fun h => by rw [h.1] at q; cases q)]; exact hx.symm)
  have hx16 : w16 x := by rw [← hx]; exact rawSum_w16 ht.data
  have hk16 : w16 x := by rw [HSG.out]; exact segSum_w16 ht.data
  have CG := Lib.hid (fun W => (refGood_any p a n c hI.len (by omega) W).1 h)
  have CW0 := Lib.hid (fun W (hi : In W a n c p.data) => with_any p a n c h ht 0 (by unfold w16; omega) W hi)
  have CW1 := Lib.hid (fun W (hi : In W a n c p.data) => with_any p a n c h ht x hk16 W hi)
  have hip := ipSum_w16 p
  have CF0 := Lib.hid (fun m (hm : m ≤ 1480) W => front_any p a n c m hm h ht 0 (by unfold w16; omega) W)
  have CFy := Lib.hid (fun m (hm : m ≤ 1480) y (hy : w16 y) W => front_any p a n c m hm h ht y hy W)
  have hpr : 0 ≤ p.proto ∧ p.proto < 256 := by have := h.proto; omega
  have HPR := Lib.hid hpr
  obtain ⟨m, hm⟩ : ∃ m, m = segLen p := ⟨_, rfl⟩
  have HX : Hid (65535 - car (ws (pre p m ++ seg p 0)) = x) := Lib.hid (by rw [hm, ← hx]; rfl)
  have HX16 := Lib.hid hx16
  have hx0 : 0 ≤ x := hx16.1
  have hx1 : x < 65536 := hx16.2
  obtain ⟨y, hy⟩ : ∃ y, y = ipSum p := ⟨_, rfl⟩
  have HY : Hid (65535 - car (ws (hdr p m 0)) = y) := Lib.hid (by rw [hm, hy]; rfl)
  rw [← hy] at hip
  have HY16 := Lib.hid hip
  have hy0 : 0 ≤ y := hip.1
  have hy1 : y < 65536 := hip.2
  have ky : IntKind.i64.wrap y = y := IntWalk.i64_in _ (by omega)
  have KY := Lib.hid ky
  rw [← hm] at hsl hs8 CW0 CW1
  have HBT : Hid (u8s (hdr p m y) ++ u8s (seg p x) = u8s (bts p)) := Lib.hid (by rw [HSG.out, hm, hy, u8s_app]; rfl)
  have HSL : Hid (segLen p = m) := Lib.hid hm.symm
  have HFB := Lib.hid (fit_bts ht.data)
  clear hI h ht hx hW hB hm hy hx16 hip hpr hk16 ky
  go_enter Try.func21, Try.ntmps21
  go_wp2_with fail
  rw [HW.out]
  refine (CG.out W).mono ?_
  rintro e w1 ⟨rfl, hb⟩
  have HB1 := Lib.hid (HB.out.next hb)
  obtain ⟨e0, e1, e2, e3, e4, e5, e6, e7, e8, e9, e10, e11, e12⟩ := HB1.out.here
  clear hb HB HW CG
  go_wp2_with fail
  refine (CW0.out w1 (HI.out.below HB1.out.below)).mono ?_
  rintro e w2 ⟨ao, cp, rfl, hin, hb⟩
  have HB2 := Lib.hid (HB1.out.next hb)
  have HS2 := Lib.hid hin
  clear hb hin HB1 CW0 e0 e1 e2 e3 e4 e5 e6 e7 e8 e9 e10 e11 e12
  go_wp2_with fail
  -- ahead
  have hf0 := HB2.out.drw.fs
  have hszd : w.heap.size + 1 ≤ w2.drew.heap.size := HB2.out.here.lt
  have HZ2 : Hid (w.heap.size + 1 ≤ w2.heap.size) := Lib.hid HB2.out.here.lt
  have F1 : Hid (Calls Try.prog 39 #[.slice none 0 0, .int .u32 p.src] w2.drew (Put w2.heap.size w2.drew 4 (b4 p.src))) := Lib.hid (four_any p.src HT.out.src w2.heap.size 0 none 0 [] w2.drew (World.ownsRow_nil _ _ _ _) (Nat.le_refl _) (by omega))
  have F2 : Hid (∀ (X : World) (ao : Option Addr) (cc : Nat), X.ownsRow w2.heap.size 5 1 (.slice ao 4 cc) 4 (u8s (b4 p.src)) → Below w2.heap.size w2.drew X → Calls Try.prog 39 #[.slice ao 4 cc, .int .u32 p.dst] X (Put w2.heap.size X 8 (b4 p.src ++ b4 p.dst))) := Lib.hid (fun X ao cc ho hb => four_any p.dst HT.out.dst w2.heap.size 4 ao cc _ X ho hb.size (by omega))
  clear hszd
  go_region_held3 (fun wx => wx.cell? ⟨w.heap.size, 4, none⟩ = some (.int .u32 p.src) ∧ wx.cell? ⟨w.heap.size, 6, none⟩ = some (.int .u32 p.dst) ∧ Box w p a n c wx) (first | exact hf0 | exact keepF (by assumption) (Below.mono (by assumption) HZ2.out) | go_keep)
    (first | (go_at_call 39; (with_reducible refine F1.out.mono ?_); rintro e w3 ⟨a3, c3, rfl, ho3, hb3⟩) | (go_at_call 39; (with_reducible refine (F2.out _ _ _ (by assumption) (by assumption)).mono ?_); rintro e w4 ⟨a4, c4, rfl, ho4, hb4⟩))
  have HO4 := Lib.hid ho4
  have hb24 : Below w2.heap.size w2 w4 := ((Below.refl _ _).drew.trans hb3).trans hb4
  have HB24 := Lib.hid hb24
  have f3 := (HB2.out.next hb24).here.c3
  have hs4 := hb24.size
  rename_i hHeld
  clear hHeld ho3 hb3 ho4 hb4 hf0 F1 F2 HZ2 hb24
  go_wp2_with fail
  refine (two_any p.proto (by have := HPR.out; omega) w2.heap.size 8 a4 c4 _ w4 HO4.out hs4 (by omega)).mono ?_
  rintro e w5 ⟨a5, c5, rfl, ho5, hb5⟩
  have HO5 := Lib.hid ho5
  have hs5 : w2.heap.size ≤ w5.heap.size := Nat.le_trans hs4 hb5.size
  have HB25 := Lib.hid (HB24.out.trans hb5)
  clear ho5 f3 hb5 hs4 HO4 HB24
  go_wp2_with fail
  refine (two_any (m : Int) (by omega) w2.heap.size 10 a5 c5 _ w5 HO5.out hs5 (by omega)).mono ?_
  rintro e w6 ⟨a6, c6, rfl, ho6, hb6⟩
  have HB26 := Lib.hid (HB25.out.trans hb6)
  have e6 : b4 p.src ++ b4 p.dst ++ b2 p.proto ++ b2 (m : Int) = pre p m := by
    have := HPR.out
    unfold pre
    have e : b2 p.proto = [0, p.proto % 256] := by
      unfold b2
      rw [show p.proto / 256 % 256 = 0 by omega]
    rw [e]
    simp [List.append_assoc]
  rw [e6] at ho6
  have CS := Lib.hid (refSum2 (own_row ho6 (by rw [pre_len]) (fit_pre p m)) (HS2.out.below HB26.out) (by rw [pre_len, HS2.out.len]; omega) w6.heap.size rfl)
  rw [HX.out] at CS
  have hs6 := HB26.out.size
  clear ho6 e6 hb6 HO5 HB25 hs5
  go_wp2_with fail
  refine CS.out.mono ?_
  rintro e w8 ⟨rfl, hb8⟩
  have HB8 := Lib.hid (HB2.out.next ((HB26.out.alloc hs6 _).trans (hb8.mono (by simp; omega))))
  obtain ⟨e0, e1, e2, e3, e4, e5, e6, e7, e8, e9, e10, e11, e12⟩ := HB8.out.here
  clear hb8 CS HB26 hs6 HB2 HS2
  go_wp2_with fail
  refine (CW1.out w8 (HI.out.below HB8.out.below)).mono ?_
  rintro e w7 ⟨ar, cr, rfl, hin, hb⟩
  have HB7 := Lib.hid (HB8.out.next hb)
  obtain ⟨ad, rfl⟩ : ∃ ad, ar = some ad := by
    cases ar with
    | none => have := (hin.zero rfl).1; omega
    | some ad => exact ⟨ad, rfl⟩
  have HROW := Lib.hid hin
  clear hb hin HB8 CW1 e0 e1 e2 e3 e4 e5 e6 e7 e8 e9 e10 e11 e12
  -- the first header
  have hS0 := gs_of HB7.out (Below.refl w7.heap.size w7).drew
  have G1 : Hid (∀ W, GS w p a n c w7 W → Calls Try.prog 41 #[p.val a n c, .int .i64 m, .int .i64 0] W fun e w' => ∃ ao cp, e = .returned (.slice ao 20 cp) ∧ In w' ao 20 cp (hdr p m 0) ∧ Below W.heap.size W w') := Lib.hid (fun W _ => (CF0.out m hsl W).mono fun e w' ⟨ao, cp, he, ho, hb⟩ => ⟨ao, cp, he, own_row ho (hdr_len _ _ _) (fit_hdr _ _ _), hb⟩)
  have G2 : Hid (∀ W, GS w p a n c w7 W → Calls Try.prog 41 #[p.val a n c, .int .i64 m, .int .i64 y] W fun e w' => ∃ ao cp, e = .returned (.slice ao 20 cp) ∧ w'.ownsRow w7.heap.size 5 1 (.slice ao 20 cp) 20 (u8s (hdr p m y)) ∧ Below W.heap.size W w') := Lib.hid (fun W hg => (CFy.out m hsl y HY16.out W).mono fun e w' ⟨ao, cp, he, ho, hb⟩ => ⟨ao, cp, he, own_base ho (by have := (GS.bel hg).size; omega), hb⟩)
  have GSum : Hid (∀ W a1 c1, In W a1 20 c1 (hdr p m 0) → Calls Try.prog 32 #[.slice (some ⟨W.heap.size, 0, none⟩) 1 1] (W.alloc (.cells #[.slice a1 20 c1] 24)) fun e w' => e = .returned (.int .u16 y) ∧ Below (W.alloc (.cells #[.slice a1 20 c1] 24)).heap.size (W.alloc (.cells #[.slice a1 20 c1] 24)) w') := Lib.hid (fun W a1 c1 hi => by
    have := refSum1 hi (by rw [hdr_len]; decide) W.heap.size rfl
    rw [HY.out] at this
    exact this)
  have GL : Hid ((u8s (seg p x)).length = m * 1) := Lib.hid (by unfold u8s; rw [List.length_map, HROW.out.len, Nat.mul_one])
  have hm0 : 0 < m := by omega
  have h63 : 20 + m ≤ maxLen := by unfold maxLen; omega
  have hby : (20 + m) * 1 ≤ 140737488355328 := by omega
  have HM0 := Lib.hid hm0
  have H63 := Lib.hid h63
  have HBY := Lib.hid hby
  clear hm0 h63 hby
  go_wp2_with fail
  have ky := KY.out
  go_region_held3 (fun wx => wx.cell? ⟨w.heap.size, 0, none⟩ = some (.int .i64 p.tos) ∧ wx.cell? ⟨w.heap.size, 1, none⟩ = some (.int .i64 p.id) ∧ wx.cell? ⟨w.heap.size, 2, none⟩ = some (.int .i64 p.ttl) ∧ wx.cell? ⟨w.heap.size, 3, none⟩ = some (.int .i64 p.proto) ∧ wx.cell? ⟨w.heap.size, 4, none⟩ = some (.int .u32 p.src) ∧ wx.cell? ⟨w.heap.size, 5, none⟩ = some (.int .i64 p.sp) ∧ wx.cell? ⟨w.heap.size, 6, none⟩ = some (.int .u32 p.dst) ∧ wx.cell? ⟨w.heap.size, 7, none⟩ = some (.int .i64 p.dp) ∧ wx.cell? ⟨w.heap.size, 8, none⟩ = some (.int .u32 p.seq) ∧ wx.cell? ⟨w.heap.size, 9, none⟩ = some (.int .u32 p.ack) ∧ wx.cell? ⟨w.heap.size, 10, none⟩ = some (.int .i64 p.flags) ∧ wx.cell? ⟨w.heap.size, 11, none⟩ = some (.int .i64 p.win) ∧ wx.cell? ⟨w.heap.size, 12, none⟩ = some (.slice a n c) ∧ Below w7.heap.size w7 wx)
    (first | exact hS0 | exact keepG HB7.out (by assumption) (by assumption) | exact keepG HB7.out (by assumption) (bl_al (Below.refl _ _) _) | exact keepH HB7.out (by assumption) hgr | go_keep)
    (first | (go_at_call 41; (with_reducible refine (G1.out _ (by assumption)).mono ?_); rintro e w9 ⟨a9, c9, rfl, hi9, hb9⟩) | (go_at_call 32; (with_reducible refine (GSum.out _ _ _ (by assumption)).mono ?_); rintro e w10 ⟨rfl, hb10⟩) | (go_at_call 41; (with_reducible refine (G2.out _ (by assumption)).mono ?_); rintro e w11 ⟨a11, c11, rfl, ho11, hb11⟩) | (refine step_append_lies _ rfl (.tmp 55) (.tmp 56) 24 rfl w7.heap.size 5 i0 (.int .u8 0) 1 1 Try.underlying24 hi0 hz0 hz1 hz2 rfl (by decide) _ 20 (u8s (hdr p m y)) rfl ho11 ad m cr (u8s (seg p x)) rfl GL.out ((HROW.out.below (GS.bel (by assumption))).cells ad rfl) (u8s_one _) HM0.out H63.out HBY.out (GS.bel (by assumption)).size _ rfl ?_; intro g cap w12 hown12 hgrow12 hat12 hlt12; have hgr := (Below.refl w7.heap.size w11).grown hgrow12 (GS.bel (by assumption)).size (fun k hk => (ho11.lt k hk).1)) | fail)
  rename_i hHeld
  have HB12 := Lib.hid (HB7.out.next (GS.bel (w := w) (p := p) (a := a) (n := n) (c := c) hHeld)).below
  rw [HBT.out] at hown12
  have HI12 := Lib.hid (own_row (l := bts p) hown12 (by rw [bts_len, HSL.out]) HFB.out)
  clear hHeld hown12 hgrow12 hat12 hlt12 hgr ho11 hb11 hb10 hi9 hb9 hS0 G1 G2 GSum ky HROW HB7 CF0 CFy
  go_wp2
  go_ret2
  exact ⟨_, _, by rw [HSL.out]; rfl, by rw [HSL.out]; exact HI12.out, HB12.out⟩

set_option maxRecDepth 100000 in
set_option maxHeartbeats 2000000 in
theorem rbC (p : Pk) (a : Option Addr) (n c : Nat) (h : Ok p) (ht : Typed p) (x : Int) (hx : rawSum p = x) (H0 : (x == 0) = false) (w : World) (hI : In w a n c p.data) :
    Calls Try.prog 21 #[p.val a n c] w (RBuilt w p) := by
  obtain ⟨i0, hi0, hz0, hz1, hz2⟩ := info_parts info5
  obtain ⟨W, hW, hB⟩ := Box.start w p a n c
  have HW := Lib.hid hW
  have HB := Lib.hid hB
  have HI := Lib.hid hI
  have HT := Lib.hid ht
  have hsl := h.len
  have hs8 : 8 ≤ segLen p := by unfold segLen; split <;> omega
  have hln : n ≤ 1480 := by have := hI.len; unfold segLen at hsl; omega
  have HSG : Hid (x = segSum p) := Lib.hid (by unfold segSum; rw [if_neg (fun h => by rw [← hx, h.2] at H0; cases H0)]; exact hx.symm)
  have hx16 : w16 x := by rw [← hx]; exact rawSum_w16 ht.data
  have hk16 : w16 x := by rw [HSG.out]; exact segSum_w16 ht.data
  have CG := Lib.hid (fun W => (refGood_any p a n c hI.len (by omega) W).1 h)
  have CW0 := Lib.hid (fun W (hi : In W a n c p.data) => with_any p a n c h ht 0 (by unfold w16; omega) W hi)
  have CW1 := Lib.hid (fun W (hi : In W a n c p.data) => with_any p a n c h ht x hk16 W hi)
  have hip := ipSum_w16 p
  have CF0 := Lib.hid (fun m (hm : m ≤ 1480) W => front_any p a n c m hm h ht 0 (by unfold w16; omega) W)
  have CFy := Lib.hid (fun m (hm : m ≤ 1480) y (hy : w16 y) W => front_any p a n c m hm h ht y hy W)
  have hpr : 0 ≤ p.proto ∧ p.proto < 256 := by have := h.proto; omega
  have HPR := Lib.hid hpr
  obtain ⟨m, hm⟩ : ∃ m, m = segLen p := ⟨_, rfl⟩
  have HX : Hid (65535 - car (ws (pre p m ++ seg p 0)) = x) := Lib.hid (by rw [hm, ← hx]; rfl)
  have HX16 := Lib.hid hx16
  have hx0 : 0 ≤ x := hx16.1
  have hx1 : x < 65536 := hx16.2
  obtain ⟨y, hy⟩ : ∃ y, y = ipSum p := ⟨_, rfl⟩
  have HY : Hid (65535 - car (ws (hdr p m 0)) = y) := Lib.hid (by rw [hm, hy]; rfl)
  rw [← hy] at hip
  have HY16 := Lib.hid hip
  have hy0 : 0 ≤ y := hip.1
  have hy1 : y < 65536 := hip.2
  have ky : IntKind.i64.wrap y = y := IntWalk.i64_in _ (by omega)
  have KY := Lib.hid ky
  rw [← hm] at hsl hs8 CW0 CW1
  have HBT : Hid (u8s (hdr p m y) ++ u8s (seg p x) = u8s (bts p)) := Lib.hid (by rw [HSG.out, hm, hy, u8s_app]; rfl)
  have HSL : Hid (segLen p = m) := Lib.hid hm.symm
  have HFB := Lib.hid (fit_bts ht.data)
  clear hI h ht hx hW hB hm hy hx16 hip hpr hk16 ky
  go_enter Try.func21, Try.ntmps21
  go_wp2_with fail
  rw [HW.out]
  refine (CG.out W).mono ?_
  rintro e w1 ⟨rfl, hb⟩
  have HB1 := Lib.hid (HB.out.next hb)
  obtain ⟨e0, e1, e2, e3, e4, e5, e6, e7, e8, e9, e10, e11, e12⟩ := HB1.out.here
  clear hb HB HW CG
  go_wp2_with fail
  refine (CW0.out w1 (HI.out.below HB1.out.below)).mono ?_
  rintro e w2 ⟨ao, cp, rfl, hin, hb⟩
  have HB2 := Lib.hid (HB1.out.next hb)
  have HS2 := Lib.hid hin
  clear hb hin HB1 CW0 e0 e1 e2 e3 e4 e5 e6 e7 e8 e9 e10 e11 e12
  go_wp2_with fail
  -- ahead
  have hf0 := HB2.out.drw.fs
  have hszd : w.heap.size + 1 ≤ w2.drew.heap.size := HB2.out.here.lt
  have HZ2 : Hid (w.heap.size + 1 ≤ w2.heap.size) := Lib.hid HB2.out.here.lt
  have F1 : Hid (Calls Try.prog 39 #[.slice none 0 0, .int .u32 p.src] w2.drew (Put w2.heap.size w2.drew 4 (b4 p.src))) := Lib.hid (four_any p.src HT.out.src w2.heap.size 0 none 0 [] w2.drew (World.ownsRow_nil _ _ _ _) (Nat.le_refl _) (by omega))
  have F2 : Hid (∀ (X : World) (ao : Option Addr) (cc : Nat), X.ownsRow w2.heap.size 5 1 (.slice ao 4 cc) 4 (u8s (b4 p.src)) → Below w2.heap.size w2.drew X → Calls Try.prog 39 #[.slice ao 4 cc, .int .u32 p.dst] X (Put w2.heap.size X 8 (b4 p.src ++ b4 p.dst))) := Lib.hid (fun X ao cc ho hb => four_any p.dst HT.out.dst w2.heap.size 4 ao cc _ X ho hb.size (by omega))
  clear hszd
  go_region_held3 (fun wx => wx.cell? ⟨w.heap.size, 4, none⟩ = some (.int .u32 p.src) ∧ wx.cell? ⟨w.heap.size, 6, none⟩ = some (.int .u32 p.dst) ∧ Box w p a n c wx) (first | exact hf0 | exact keepF (by assumption) (Below.mono (by assumption) HZ2.out) | go_keep)
    (first | (go_at_call 39; (with_reducible refine F1.out.mono ?_); rintro e w3 ⟨a3, c3, rfl, ho3, hb3⟩) | (go_at_call 39; (with_reducible refine (F2.out _ _ _ (by assumption) (by assumption)).mono ?_); rintro e w4 ⟨a4, c4, rfl, ho4, hb4⟩))
  have HO4 := Lib.hid ho4
  have hb24 : Below w2.heap.size w2 w4 := ((Below.refl _ _).drew.trans hb3).trans hb4
  have HB24 := Lib.hid hb24
  have f3 := (HB2.out.next hb24).here.c3
  have hs4 := hb24.size
  rename_i hHeld
  clear hHeld ho3 hb3 ho4 hb4 hf0 F1 F2 HZ2 hb24
  go_wp2_with fail
  refine (two_any p.proto (by have := HPR.out; omega) w2.heap.size 8 a4 c4 _ w4 HO4.out hs4 (by omega)).mono ?_
  rintro e w5 ⟨a5, c5, rfl, ho5, hb5⟩
  have HO5 := Lib.hid ho5
  have hs5 : w2.heap.size ≤ w5.heap.size := Nat.le_trans hs4 hb5.size
  have HB25 := Lib.hid (HB24.out.trans hb5)
  clear ho5 f3 hb5 hs4 HO4 HB24
  go_wp2_with fail
  refine (two_any (m : Int) (by omega) w2.heap.size 10 a5 c5 _ w5 HO5.out hs5 (by omega)).mono ?_
  rintro e w6 ⟨a6, c6, rfl, ho6, hb6⟩
  have HB26 := Lib.hid (HB25.out.trans hb6)
  have e6 : b4 p.src ++ b4 p.dst ++ b2 p.proto ++ b2 (m : Int) = pre p m := by
    have := HPR.out
    unfold pre
    have e : b2 p.proto = [0, p.proto % 256] := by
      unfold b2
      rw [show p.proto / 256 % 256 = 0 by omega]
    rw [e]
    simp [List.append_assoc]
  rw [e6] at ho6
  have CS := Lib.hid (refSum2 (own_row ho6 (by rw [pre_len]) (fit_pre p m)) (HS2.out.below HB26.out) (by rw [pre_len, HS2.out.len]; omega) w6.heap.size rfl)
  rw [HX.out] at CS
  have hs6 := HB26.out.size
  clear ho6 e6 hb6 HO5 HB25 hs5
  go_wp2_with fail
  refine CS.out.mono ?_
  rintro e w8 ⟨rfl, hb8⟩
  have HB8 := Lib.hid (HB2.out.next ((HB26.out.alloc hs6 _).trans (hb8.mono (by simp; omega))))
  obtain ⟨e0, e1, e2, e3, e4, e5, e6, e7, e8, e9, e10, e11, e12⟩ := HB8.out.here
  clear hb8 CS HB26 hs6 HB2 HS2
  go_wp2_with fail
  refine (CW1.out w8 (HI.out.below HB8.out.below)).mono ?_
  rintro e w7 ⟨ar, cr, rfl, hin, hb⟩
  have HB7 := Lib.hid (HB8.out.next hb)
  obtain ⟨ad, rfl⟩ : ∃ ad, ar = some ad := by
    cases ar with
    | none => have := (hin.zero rfl).1; omega
    | some ad => exact ⟨ad, rfl⟩
  have HROW := Lib.hid hin
  clear hb hin HB8 CW1 e0 e1 e2 e3 e4 e5 e6 e7 e8 e9 e10 e11 e12
  -- the first header
  have hS0 := gs_of HB7.out (Below.refl w7.heap.size w7).drew
  have G1 : Hid (∀ W, GS w p a n c w7 W → Calls Try.prog 41 #[p.val a n c, .int .i64 m, .int .i64 0] W fun e w' => ∃ ao cp, e = .returned (.slice ao 20 cp) ∧ In w' ao 20 cp (hdr p m 0) ∧ Below W.heap.size W w') := Lib.hid (fun W _ => (CF0.out m hsl W).mono fun e w' ⟨ao, cp, he, ho, hb⟩ => ⟨ao, cp, he, own_row ho (hdr_len _ _ _) (fit_hdr _ _ _), hb⟩)
  have G2 : Hid (∀ W, GS w p a n c w7 W → Calls Try.prog 41 #[p.val a n c, .int .i64 m, .int .i64 y] W fun e w' => ∃ ao cp, e = .returned (.slice ao 20 cp) ∧ w'.ownsRow w7.heap.size 5 1 (.slice ao 20 cp) 20 (u8s (hdr p m y)) ∧ Below W.heap.size W w') := Lib.hid (fun W hg => (CFy.out m hsl y HY16.out W).mono fun e w' ⟨ao, cp, he, ho, hb⟩ => ⟨ao, cp, he, own_base ho (by have := (GS.bel hg).size; omega), hb⟩)
  have GSum : Hid (∀ W a1 c1, In W a1 20 c1 (hdr p m 0) → Calls Try.prog 32 #[.slice (some ⟨W.heap.size, 0, none⟩) 1 1] (W.alloc (.cells #[.slice a1 20 c1] 24)) fun e w' => e = .returned (.int .u16 y) ∧ Below (W.alloc (.cells #[.slice a1 20 c1] 24)).heap.size (W.alloc (.cells #[.slice a1 20 c1] 24)) w') := Lib.hid (fun W a1 c1 hi => by
    have := refSum1 hi (by rw [hdr_len]; decide) W.heap.size rfl
    rw [HY.out] at this
    exact this)
  have GL : Hid ((u8s (seg p x)).length = m * 1) := Lib.hid (by unfold u8s; rw [List.length_map, HROW.out.len, Nat.mul_one])
  have hm0 : 0 < m := by omega
  have h63 : 20 + m ≤ maxLen := by unfold maxLen; omega
  have hby : (20 + m) * 1 ≤ 140737488355328 := by omega
  have HM0 := Lib.hid hm0
  have H63 := Lib.hid h63
  have HBY := Lib.hid hby
  clear hm0 h63 hby
  go_wp2_with fail
  have ky := KY.out
  go_region_held3 (fun wx => wx.cell? ⟨w.heap.size, 0, none⟩ = some (.int .i64 p.tos) ∧ wx.cell? ⟨w.heap.size, 1, none⟩ = some (.int .i64 p.id) ∧ wx.cell? ⟨w.heap.size, 2, none⟩ = some (.int .i64 p.ttl) ∧ wx.cell? ⟨w.heap.size, 3, none⟩ = some (.int .i64 p.proto) ∧ wx.cell? ⟨w.heap.size, 4, none⟩ = some (.int .u32 p.src) ∧ wx.cell? ⟨w.heap.size, 5, none⟩ = some (.int .i64 p.sp) ∧ wx.cell? ⟨w.heap.size, 6, none⟩ = some (.int .u32 p.dst) ∧ wx.cell? ⟨w.heap.size, 7, none⟩ = some (.int .i64 p.dp) ∧ wx.cell? ⟨w.heap.size, 8, none⟩ = some (.int .u32 p.seq) ∧ wx.cell? ⟨w.heap.size, 9, none⟩ = some (.int .u32 p.ack) ∧ wx.cell? ⟨w.heap.size, 10, none⟩ = some (.int .i64 p.flags) ∧ wx.cell? ⟨w.heap.size, 11, none⟩ = some (.int .i64 p.win) ∧ wx.cell? ⟨w.heap.size, 12, none⟩ = some (.slice a n c) ∧ Below w7.heap.size w7 wx)
    (first | exact hS0 | exact keepG HB7.out (by assumption) (by assumption) | exact keepG HB7.out (by assumption) (bl_al (Below.refl _ _) _) | exact keepH HB7.out (by assumption) hgr | go_keep)
    (first | (go_at_call 41; (with_reducible refine (G1.out _ (by assumption)).mono ?_); rintro e w9 ⟨a9, c9, rfl, hi9, hb9⟩) | (go_at_call 32; (with_reducible refine (GSum.out _ _ _ (by assumption)).mono ?_); rintro e w10 ⟨rfl, hb10⟩) | (go_at_call 41; (with_reducible refine (G2.out _ (by assumption)).mono ?_); rintro e w11 ⟨a11, c11, rfl, ho11, hb11⟩) | (refine step_append_lies _ rfl (.tmp 55) (.tmp 56) 24 rfl w7.heap.size 5 i0 (.int .u8 0) 1 1 Try.underlying24 hi0 hz0 hz1 hz2 rfl (by decide) _ 20 (u8s (hdr p m y)) rfl ho11 ad m cr (u8s (seg p x)) rfl GL.out ((HROW.out.below (GS.bel (by assumption))).cells ad rfl) (u8s_one _) HM0.out H63.out HBY.out (GS.bel (by assumption)).size _ rfl ?_; intro g cap w12 hown12 hgrow12 hat12 hlt12; have hgr := (Below.refl w7.heap.size w11).grown hgrow12 (GS.bel (by assumption)).size (fun k hk => (ho11.lt k hk).1)) | fail)
  rename_i hHeld
  have HB12 := Lib.hid (HB7.out.next (GS.bel (w := w) (p := p) (a := a) (n := n) (c := c) hHeld)).below
  rw [HBT.out] at hown12
  have HI12 := Lib.hid (own_row (l := bts p) hown12 (by rw [bts_len, HSL.out]) HFB.out)
  clear hHeld hown12 hgrow12 hat12 hlt12 hgr ho11 hb11 hb10 hi9 hb9 hS0 G1 G2 GSum ky HROW HB7 CF0 CFy
  go_wp2
  go_ret2
  exact ⟨_, _, by rw [HSL.out]; rfl, by rw [HSL.out]; exact HI12.out, HB12.out⟩

theorem refBuild_ok (p : Pk) (a : Option Addr) (n c : Nat) (h : Ok p) (ht : Typed p) (w : World) (hI : In w a n c p.data) :
    Calls Try.prog 21 #[p.val a n c] w (RBuilt w p) := by
  cases H0 : (rawSum p == 0) with
  | false => exact rbC p a n c h ht _ rfl H0 w hI
  | true =>
    cases q : (p.proto == 17) with
    | true => exact rbA p a n c h ht _ rfl H0 q w hI
    | false => exact rbB p a n c h ht _ rfl H0 q w hI
end Go.Proofs.Ytfbmeoiaedlgoaa
