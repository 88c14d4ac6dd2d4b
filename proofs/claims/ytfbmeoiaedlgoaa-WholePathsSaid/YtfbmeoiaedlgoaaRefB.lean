/- Contracts of the document's with and front: a packet's segment and its first header, with a given sum. Conditions: the packet is in form, its numbers are of their types, its Data came in; the sum is of 16 bits. -/
import Derived.Test.YtfbmeoiaedlgoaaRefA
namespace Go.Proofs.Ytfbmeoiaedlgoaa
open Go Go.RowKit
set_option linter.unusedVariables false
set_option linter.unusedSimpArgs false

theorem own_row {w : World} {B n c : Nat} {ao : Option Addr} {l : List Int} (h : w.ownsRow B 5 1 (.slice ao n c) n (u8s l)) (hl : l.length = n) (hf : fit l) : In w ao n c l := by
  have hA := At.own (w := w) (B := B) (v := .slice ao n c) (l := l) (by rw [hl]; exact h)
  rcases h.2 with ⟨e, h0⟩ | ⟨g, cap, cur, e, _, _, h1, _⟩
  · simp only [Value.slice.injEq] at e
    obtain ⟨rfl, rfl, rfl⟩ := e
    exact ⟨hl, Nat.le_refl _, fun _ => rfl, hA, hf⟩
  · simp only [Value.slice.injEq] at e
    obtain ⟨rfl, _, rfl⟩ := e
    exact ⟨hl, h1, (fun e => by cases e), hA, hf⟩
theorem Box.next2 {w : World} {p : Pk} {a : Option Addr} {n c : Nat} {wx wy : World} (h : Box w p a n c wx) (hb : Below (w.heap.size + 1) wx wy) : Box w p a n c wy :=
  ⟨h.here.below hb (by omega), h.below.trans (hb.mono (by omega))⟩
abbrev FS (w : World) (p : Pk) (a : Option Addr) (n c : Nat) (wx : World) : Prop :=
  wx.cell? ⟨w.heap.size, 4, none⟩ = some (.int .u32 p.src) ∧ wx.cell? ⟨w.heap.size, 6, none⟩ = some (.int .u32 p.dst) ∧ Box w p a n c wx
theorem Box.fs {w : World} {p : Pk} {a : Option Addr} {n c : Nat} {wx : World} (h : Box w p a n c wx) : FS w p a n c wx := ⟨h.here.c4, h.here.c6, h⟩
theorem keepF {w : World} {p : Pk} {a : Option Addr} {n c : Nat} {w1 w2 : World} (h : FS w p a n c w1) (hb : Below (w.heap.size + 1) w1 w2) : FS w p a n c w2 := (h.2.2.next2 hb).fs
abbrev WS (w : World) (p : Pk) (a : Option Addr) (n c : Nat) (wx : World) : Prop :=
  wx.cell? ⟨w.heap.size, 5, none⟩ = some (.int .i64 p.sp) ∧ wx.cell? ⟨w.heap.size, 7, none⟩ = some (.int .i64 p.dp) ∧ Box w p a n c wx
theorem Box.ws {w : World} {p : Pk} {a : Option Addr} {n c : Nat} {wx : World} (h : Box w p a n c wx) : WS w p a n c wx := ⟨h.here.c5, h.here.c7, h⟩
theorem keepW {w : World} {p : Pk} {a : Option Addr} {n c : Nat} {w1 w2 : World} (h : WS w p a n c w1) (hb : Below (w.heap.size + 1) w1 w2) : WS w p a n c w2 := (h.2.2.next2 hb).ws
abbrev VS (w : World) (p : Pk) (a : Option Addr) (n c : Nat) (wx : World) : Prop :=
  wx.cell? ⟨w.heap.size, 8, none⟩ = some (.int .u32 p.seq) ∧ wx.cell? ⟨w.heap.size, 9, none⟩ = some (.int .u32 p.ack) ∧ Box w p a n c wx
theorem Box.vs {w : World} {p : Pk} {a : Option Addr} {n c : Nat} {wx : World} (h : Box w p a n c wx) : VS w p a n c wx := ⟨h.here.c8, h.here.c9, h⟩
theorem keepV {w : World} {p : Pk} {a : Option Addr} {n c : Nat} {w1 w2 : World} (h : VS w p a n c w1) (hb : Below (w.heap.size + 1) w1 w2) : VS w p a n c w2 := (h.2.2.next2 hb).vs
theorem Box.drw {w : World} {p : Pk} {a : Option Addr} {n c : Nat} {wx : World} (h : Box w p a n c wx) : Box w p a n c wx.drew := h.next (Below.refl _ _).drew

set_option maxRecDepth 100000 in
set_option maxHeartbeats 1000000 in
theorem withUDP (p : Pk) (a : Option Addr) (n c : Nat) (h : Ok p) (ht : Typed p) (hu : p.proto = 17) (k : Int) (hk : w16 k) (w : World) (hI : In w a n c p.data) :
    Calls Try.prog 38 #[p.val a n c, .int .i64 k] w fun e w' => ∃ ao cp, e = .returned (.slice ao (segLen p) cp) ∧ In w' ao (segLen p) cp (seg p k) ∧ Below w.heap.size w w' := by
  obtain ⟨i0, hi0, hz0, hz1, hz2⟩ := info_parts info5
  obtain ⟨W, hW, hB⟩ := Box.start w p a n c
  have HW := Lib.hid hW
  have HB := Lib.hid hB
  have HO := Lib.hid h
  have HT := Lib.hid ht
  have HI := Lib.hid hI
  have hl : n ≤ 1472 := by have := h.len; unfold segLen at this; rw [if_pos hu, hI.len] at this; omega
  have HK := Lib.hid hk
  have q17 : (p.proto == 17) = true := by simp [hu]
  have HU := Lib.hid hu
  have hs0 := hB.drw.ws
  have hsz : w.heap.size + 1 ≤ W.drew.heap.size := hB.here.lt
  have TN : Hid (Calls Try.prog 40 #[.slice none 0 0, .int .i64 p.sp] W.drew (Put (w.heap.size + 1) W.drew 2 (b2 p.sp))) := Lib.hid (two_any p.sp (by have := h.sp; omega) (w.heap.size + 1) 0 none 0 [] W.drew (World.ownsRow_nil _ _ _ _) hsz (by omega))
  have T2 : Hid (∀ (X : World) (ao : Option Addr) (cc : Nat), X.ownsRow (w.heap.size + 1) 5 1 (.slice ao 2 cc) 2 (u8s (b2 p.sp)) → Below (w.heap.size + 1) W.drew X → Calls Try.prog 40 #[.slice ao 2 cc, .int .i64 p.dp] X (Put (w.heap.size + 1) X 4 (b2 p.sp ++ b2 p.dp))) := Lib.hid (fun X ao cc ho hb => two_any p.dp (by have := h.dp; omega) (w.heap.size + 1) 2 ao cc _ X ho (Nat.le_trans hsz hb.size) (by omega))
  clear hW hB h ht hI hk hu
  go_enter Try.func38, Try.ntmps38
  go_wp2_with fail
  rw [HW.out]
  go_region_held3 (fun wx => wx.cell? ⟨w.heap.size, 5, none⟩ = some (.int .i64 p.sp) ∧ wx.cell? ⟨w.heap.size, 7, none⟩ = some (.int .i64 p.dp) ∧ Box w p a n c wx) (first | exact hs0 | exact keepW (by assumption) (by assumption) | go_keep)
    (first | (go_at_call 40; (with_reducible refine TN.out.mono ?_); rintro e w1 ⟨a1, c1, rfl, ho1, hb1⟩) | (go_at_call 40; (with_reducible refine (T2.out _ _ _ (by assumption) (by assumption)).mono ?_); rintro e w2 ⟨a2, c2, rfl, ho2, hb2⟩))
  rename_i hHeld
  have HB2 := Lib.hid hHeld.2.2
  have HO2 := Lib.hid ho2
  have hs2 : w.heap.size + 1 ≤ w2.heap.size := HB2.out.here.lt
  have f3 := HB2.out.here.c3
  have f12 := HB2.out.here.c12
  clear hHeld ho1 hb1 ho2 hb2 hs0 TN T2 hsz HW HB
  go_wp2_with fail
  refine (two_any (8 + (n : Int)) (by omega) (w.heap.size + 1) 4 a2 c2 _ w2 HO2.out hs2 (by omega)).mono ?_
  rintro e w3 ⟨a3, c3, rfl, ho3, hb3⟩
  have HB3 := Lib.hid (HB2.out.next2 hb3)
  have HO3 := Lib.hid ho3
  have hs3 : w.heap.size + 1 ≤ w3.heap.size := HB3.out.here.lt
  clear ho3 hb3 HB2 HO2 f3 f12 hs2
  go_wp2_with fail
  refine (two_any k (by have := HK.out; unfold w16 at this; omega) (w.heap.size + 1) 6 a3 c3 _ w3 HO3.out hs3 (by omega)).mono ?_
  rintro e wq ⟨aq, cq, rfl, hoq, hbq⟩
  have HBq := Lib.hid (HB3.out.next2 hbq)
  have HOq := Lib.hid hoq
  clear hoq hbq HB3 HO3 hs3
  have hs3 : w.heap.size + 1 ≤ wq.heap.size := HBq.out.here.lt
  have g12 := HBq.out.here.c12
  have HIq := Lib.hid (HI.out.below HBq.out.below)
  go_wp2_with (at_builtin; refine append_any rfl (.tmp 47) (.tmp 49) 24 rfl (w.heap.size + 1) 5 i0 (.int .u8 0) 1 1 Try.underlying24 hi0 hz0 hz1 hz2 rfl (by decide) _ 8 (u8s (b2 p.sp ++ b2 p.dp ++ b2 (8 + (n : Int)) ++ b2 k)) rfl HOq.out a n c (u8s p.data) rfl HIq.out.zero ?c1 HIq.out.cells (u8s_one _) ?c2 ?c3 ?c4 ?_)
  case c1 => unfold u8s; rw [List.length_map, HIq.out.len]; omega
  case c2 => unfold maxLen; omega
  case c3 => omega
  case c4 => exact hs3
  intro v5 w5 hown5 hg5
  have HB5 := Lib.hid (HBq.out.below.grown hg5 (by omega) (fun j hj => by have := (HOq.out.lt j hj).1; omega))
  rw [u8s_app] at hown5
  obtain ⟨a5, c5, rfl⟩ := own_form hown5
  have hsl : segLen p = 8 + n := by unfold segLen; rw [if_pos HU.out, HI.out.len]
  have HSL := Lib.hid hsl
  have hl5 : (b2 p.sp ++ b2 p.dp ++ b2 (8 + (n : Int)) ++ b2 k ++ p.data).length = 8 + n := by simp [b2, b4, HI.out.len]; omega
  have hseg : b2 p.sp ++ b2 p.dp ++ b2 (8 + (n : Int)) ++ b2 k ++ p.data = seg p k := by
    unfold seg
    rw [if_pos HU.out]
    unfold segU
    try rw [HI.out.len]
    simp [List.append_assoc]
  have hA5 := own_row (l := b2 p.sp ++ b2 p.dp ++ b2 (8 + (n : Int)) ++ b2 k ++ p.data) hown5 hl5 (by rw [hseg]; exact fit_seg HT.out.data k)
  rw [hseg] at hA5
  have HA5 := Lib.hid hA5
  clear hown5 hg5 hl5 hseg hA5 hsl hs3 g12
  go_wp2
  go_ret
  exact ⟨a5, c5, by rw [HSL.out]; rfl, by rw [HSL.out]; exact HA5.out, HB5.out⟩

set_option maxRecDepth 100000 in
set_option maxHeartbeats 1000000 in
theorem withTCP (p : Pk) (a : Option Addr) (n c : Nat) (h : Ok p) (ht : Typed p) (hu : p.proto = 6) (k : Int) (hk : w16 k) (w : World) (hI : In w a n c p.data) :
    Calls Try.prog 38 #[p.val a n c, .int .i64 k] w fun e w' => ∃ ao cp, e = .returned (.slice ao (segLen p) cp) ∧ In w' ao (segLen p) cp (seg p k) ∧ Below w.heap.size w w' := by
  obtain ⟨i0, hi0, hz0, hz1, hz2⟩ := info_parts info5
  obtain ⟨W, hW, hB⟩ := Box.start w p a n c
  have HW := Lib.hid hW
  have HB := Lib.hid hB
  have HO := Lib.hid h
  have HT := Lib.hid ht
  have HI := Lib.hid hI
  have hl : n ≤ 1460 := by have := h.len; unfold segLen at this; rw [if_neg (by omega), hI.len] at this; omega
  have HK := Lib.hid hk
  have q17 : (p.proto == 17) = false := by simp [hu]
  have HU := Lib.hid hu
  have hs0 := hB.drw.ws
  have hsz : w.heap.size + 1 ≤ W.drew.heap.size := hB.here.lt
  have TN : Hid (Calls Try.prog 40 #[.slice none 0 0, .int .i64 p.sp] W.drew (Put (w.heap.size + 1) W.drew 2 (b2 p.sp))) := Lib.hid (two_any p.sp (by have := h.sp; omega) (w.heap.size + 1) 0 none 0 [] W.drew (World.ownsRow_nil _ _ _ _) hsz (by omega))
  have T2 : Hid (∀ (X : World) (ao : Option Addr) (cc : Nat), X.ownsRow (w.heap.size + 1) 5 1 (.slice ao 2 cc) 2 (u8s (b2 p.sp)) → Below (w.heap.size + 1) W.drew X → Calls Try.prog 40 #[.slice ao 2 cc, .int .i64 p.dp] X (Put (w.heap.size + 1) X 4 (b2 p.sp ++ b2 p.dp))) := Lib.hid (fun X ao cc ho hb => two_any p.dp (by have := h.dp; omega) (w.heap.size + 1) 2 ao cc _ X ho (Nat.le_trans hsz hb.size) (by omega))
  clear hW hB h ht hI hk hu
  go_enter Try.func38, Try.ntmps38
  go_wp2_with fail
  rw [HW.out]
  go_region_held3 (fun wx => wx.cell? ⟨w.heap.size, 5, none⟩ = some (.int .i64 p.sp) ∧ wx.cell? ⟨w.heap.size, 7, none⟩ = some (.int .i64 p.dp) ∧ Box w p a n c wx) (first | exact hs0 | exact keepW (by assumption) (by assumption) | go_keep)
    (first | (go_at_call 40; (with_reducible refine TN.out.mono ?_); rintro e w1 ⟨a1, c1, rfl, ho1, hb1⟩) | (go_at_call 40; (with_reducible refine (T2.out _ _ _ (by assumption) (by assumption)).mono ?_); rintro e w2 ⟨a2, c2, rfl, ho2, hb2⟩))
  rename_i hHeld
  have HB2 := Lib.hid hHeld.2.2
  have HO2 := Lib.hid ho2
  have hs2 : w.heap.size + 1 ≤ w2.heap.size := HB2.out.here.lt
  have f3 := HB2.out.here.c3
  have f12 := HB2.out.here.c12
  clear hHeld ho1 hb1 ho2 hb2 hs0 TN T2 hsz HW HB
  have hv0 := HB2.out.drw.vs
  have hszd : w.heap.size + 1 ≤ w2.drew.heap.size := hs2
  have F1 : Hid (Calls Try.prog 39 #[.slice a2 4 c2, .int .u32 p.seq] w2.drew (Put (w.heap.size + 1) w2.drew 8 (b2 p.sp ++ b2 p.dp ++ b4 p.seq))) := Lib.hid (four_any p.seq HT.out.seq (w.heap.size + 1) 4 a2 c2 _ w2.drew HO2.out hszd (by omega))
  have F2 : Hid (∀ (X : World) (ao : Option Addr) (cc : Nat), X.ownsRow (w.heap.size + 1) 5 1 (.slice ao 8 cc) 8 (u8s (b2 p.sp ++ b2 p.dp ++ b4 p.seq)) → Below (w.heap.size + 1) w2.drew X → Calls Try.prog 39 #[.slice ao 8 cc, .int .u32 p.ack] X (Put (w.heap.size + 1) X 12 (b2 p.sp ++ b2 p.dp ++ b4 p.seq ++ b4 p.ack))) := Lib.hid (fun X ao cc ho hb => four_any p.ack HT.out.ack (w.heap.size + 1) 8 ao cc _ X ho (Nat.le_trans hszd hb.size) (by omega))
  go_wp2_with fail
  go_region_held3 (fun wx => wx.cell? ⟨w.heap.size, 8, none⟩ = some (.int .u32 p.seq) ∧ wx.cell? ⟨w.heap.size, 9, none⟩ = some (.int .u32 p.ack) ∧ Box w p a n c wx) (first | exact hv0 | exact keepV (by assumption) (by assumption) | go_keep)
    (first | (go_at_call 39; (with_reducible refine F1.out.mono ?_); rintro e w3 ⟨a3, c3, rfl, ho3, hb3⟩) | (go_at_call 39; (with_reducible refine (F2.out _ _ _ (by assumption) (by assumption)).mono ?_); rintro e w4 ⟨a4, c4, rfl, ho4, hb4⟩))
  rename_i hHeld
  have HB4 := Lib.hid hHeld.2.2
  have HO4 := Lib.hid ho4
  have hs4 : w.heap.size + 1 ≤ w4.heap.size := HB4.out.here.lt
  have f10 := HB4.out.here.c10
  have hfl := HO.out.flags
  have k1 : IntKind.u8.wrap p.flags = p.flags % 256 := IntKind.wrap_u8' _
  obtain ⟨y, hy⟩ : ∃ y, y = p.flags % 256 := ⟨_, rfl⟩
  rw [← hy] at k1
  have HY := Lib.hid hy
  clear hHeld ho3 hb3 ho4 hb4 hv0 F1 F2 hszd HB2 HO2 f3 f12 hs2 hy hfl
  go_wp2_with (first | (at_builtin; refine wpList_append_own _ rfl (.tmp 34) (.tmp 38) 24 rfl (w.heap.size + 1) 5 i0 (.int .u8 0) 1 1 Try.underlying24 hi0 hz0 hz1 hz2 rfl (by decide) _ 12 (u8s (b2 p.sp ++ b2 p.dp ++ b4 p.seq ++ b4 p.ack)) rfl (HO4.out.alloc _) ⟨w4.heap.size, 0, none⟩ 2 2 [.int .u8 80, .int .u8 y] rfl rfl (cell_two_new w4 _ _ _) ?c3 ?c4 ?c5 ?c6 ?_))
  case c3 => intro u hu; simp at hu; rcases hu with rfl | rfl <;> rfl
  case c4 => unfold maxLen; omega
  case c5 => omega
  case c6 => simp; omega
  intro v5 w5 hown5 hg5 _
  have hb5 : Below (w.heap.size + 1) w4 w5 := ((Below.refl (w.heap.size + 1) w4).alloc hs4 (.cells #[.int .u8 80, .int .u8 y] 5)).grown hg5 (by simp; omega) (fun j hj => (HO4.out.lt j hj).1)
  obtain ⟨a5, c5, rfl⟩ := own_form hown5
  rw [show ([Value.int .u8 80, Value.int .u8 y]) = u8s [80, y] from rfl, u8s_app] at hown5
  have HB5 := Lib.hid (HB4.out.next2 hb5)
  have HO5 := Lib.hid hown5
  have hs5 : w.heap.size + 1 ≤ w5.heap.size := HB5.out.here.lt
  have f11 := HB5.out.here.c11
  clear hown5 hg5 hb5 HB4 HO4 f10 k1 hs4
  go_wp2_with fail
  refine (two_any p.win (by have := HO.out.win; omega) (w.heap.size + 1) 14 a5 c5 _ w5 HO5.out hs5 (by omega)).mono ?_
  rintro e w6 ⟨a6, c6, rfl, ho6, hb6⟩
  have HB6 := Lib.hid (HB5.out.next2 hb6)
  have HO6 := Lib.hid ho6
  have hs6 : w.heap.size + 1 ≤ w6.heap.size := HB6.out.here.lt
  clear ho6 hb6 HB5 HO5 f11 hs5
  go_wp2_with fail
  refine (two_any k (by have := HK.out; unfold w16 at this; omega) (w.heap.size + 1) 16 a6 c6 _ w6 HO6.out hs6 (by omega)).mono ?_
  rintro e w7 ⟨a7, c7, rfl, ho7, hb7⟩
  have HB7 := Lib.hid (HB6.out.next2 hb7)
  have HO7 := Lib.hid ho7
  have hs7 : w.heap.size + 1 ≤ w7.heap.size := HB7.out.here.lt
  clear ho7 hb7 HB6 HO6 hs6
  go_wp2_with fail
  refine (two_any 0 (by omega) (w.heap.size + 1) 18 a7 c7 _ w7 HO7.out hs7 (by omega)).mono ?_
  rintro e wq ⟨aq, cq, rfl, hoq, hbq⟩
  have HBq := Lib.hid (HB7.out.next2 hbq)
  have e0 : b2 0 = [0, 0] := rfl
  rw [e0, HY.out] at hoq
  have HOq := Lib.hid hoq
  clear hoq hbq HB7 HO7 hs7 e0
  have hs3 : w.heap.size + 1 ≤ wq.heap.size := HBq.out.here.lt
  have g12 := HBq.out.here.c12
  have HIq := Lib.hid (HI.out.below HBq.out.below)
  go_wp2_with (at_builtin; refine append_any rfl (.tmp 47) (.tmp 49) 24 rfl (w.heap.size + 1) 5 i0 (.int .u8 0) 1 1 Try.underlying24 hi0 hz0 hz1 hz2 rfl (by decide) _ 20 (u8s (b2 p.sp ++ b2 p.dp ++ b4 p.seq ++ b4 p.ack ++ [80, p.flags % 256] ++ b2 p.win ++ b2 k ++ [0, 0])) rfl HOq.out a n c (u8s p.data) rfl HIq.out.zero ?c1 HIq.out.cells (u8s_one _) ?c2 ?c3 ?c4 ?_)
  case c1 => unfold u8s; rw [List.length_map, HIq.out.len]; omega
  case c2 => unfold maxLen; omega
  case c3 => omega
  case c4 => exact hs3
  intro v5 w5 hown5 hg5
  have HB5 := Lib.hid (HBq.out.below.grown hg5 (by omega) (fun j hj => by have := (HOq.out.lt j hj).1; omega))
  rw [u8s_app] at hown5
  obtain ⟨a5, c5, rfl⟩ := own_form hown5
  have hsl : segLen p = 20 + n := by unfold segLen; rw [if_neg (by have := HU.out; omega), HI.out.len]
  have HSL := Lib.hid hsl
  have hl5 : (b2 p.sp ++ b2 p.dp ++ b4 p.seq ++ b4 p.ack ++ [80, p.flags % 256] ++ b2 p.win ++ b2 k ++ [0, 0] ++ p.data).length = 20 + n := by simp [b2, b4, HI.out.len]; omega
  have hseg : b2 p.sp ++ b2 p.dp ++ b4 p.seq ++ b4 p.ack ++ [80, p.flags % 256] ++ b2 p.win ++ b2 k ++ [0, 0] ++ p.data = seg p k := by
    unfold seg
    rw [if_neg (by have := HU.out; omega)]
    unfold segT
    try rw [HI.out.len]
    simp [List.append_assoc]
  have hA5 := own_row (l := b2 p.sp ++ b2 p.dp ++ b4 p.seq ++ b4 p.ack ++ [80, p.flags % 256] ++ b2 p.win ++ b2 k ++ [0, 0] ++ p.data) hown5 hl5 (by rw [hseg]; exact fit_seg HT.out.data k)
  rw [hseg] at hA5
  have HA5 := Lib.hid hA5
  clear hown5 hg5 hl5 hseg hA5 hsl hs3 g12
  go_wp2
  go_ret
  exact ⟨a5, c5, by rw [HSL.out]; rfl, by rw [HSL.out]; exact HA5.out, HB5.out⟩

theorem with_any (p : Pk) (a : Option Addr) (n c : Nat) (h : Ok p) (ht : Typed p) (k : Int) (hk : w16 k) (w : World) (hI : In w a n c p.data) :
    Calls Try.prog 38 #[p.val a n c, .int .i64 k] w fun e w' => ∃ ao cp, e = .returned (.slice ao (segLen p) cp) ∧ In w' ao (segLen p) cp (seg p k) ∧ Below w.heap.size w w' := by
  rcases h.proto with hp | hp
  · exact withTCP p a n c h ht hp k hk w hI
  · exact withUDP p a n c h ht hp k hk w hI
end Go.Proofs.Ytfbmeoiaedlgoaa
