/- Contract of PacketBuilds: true. Conditions: the Data came in, the packet's numbers are of their types, rows of at most 2^47 - 4096 bytes. -/
import Derived.Test.YtfgajgdbojapcaaAliA
import Derived.Test.YtfgajgdbojapcaaRefJ
namespace Go.Proofs.Ytfgajgdbojapcaa
open Go Go.RowKit
set_option linter.unusedVariables false
set_option linter.unusedSimpArgs false

/-- A packet's box, a second packet whose Data is a marked copy. -/
structure Bd (w : World) (q g : Nat) (p : Pk) (a : Option Addr) (n c : Nat) (wx : World) : Prop where
  box : Box w p a n c wx
  pk : PkAt wx q p (some ⟨g, 0, none⟩) n (n + 2)
  marks : Marked wx g n p.data
theorem Bd.next {w : World} {q g : Nat} {p : Pk} {a : Option Addr} {n c : Nat} {wx wy : World} (h : Bd w q g p a n c wx) (hb : Below wx.heap.size wx wy) : Bd w q g p a n c wy :=
  ⟨h.box.next hb, h.pk.below hb h.pk.lt, h.marks.below hb⟩
theorem Marked.in {w : World} {g n : Nat} {l : List Int} (h : Marked w g n l) (hn : l.length = n) (hf : fit l) : In w (some ⟨g, 0, none⟩) n (n + 2) l :=
  ⟨hn, by omega, (fun e => by cases e), h.at hn, hf⟩
theorem own_marks {w : World} {B g n : Nat} {l : List Int} (h : Own w B g (n + 2) (n + 2) (l ++ [165, 90])) (hn : l.length = n) (hf : fit l) : In w (some ⟨g, 0, none⟩) n (n + 2) l :=
  ⟨hn, by omega, (fun e => by cases e), (h.marked hn).at hn, hf⟩
theorem Marked.set {w : World} {g n : Nat} {l : List Int} (h : Marked w g n l) (p : Addr) (hp : p.block ≠ g) (v : Value) : Marked (w.setCell p v) g n l :=
  ⟨fun j hj => (World.cell?_setCell_other _ _ _ _ (fun e => hp (congrArg Addr.block e))).trans (h.1 j hj), (World.cell?_setCell_other _ _ _ _ (fun e => hp (congrArg Addr.block e))).trans h.2.1, (World.cell?_setCell_other _ _ _ _ (fun e => hp (congrArg Addr.block e))).trans h.2.2⟩

set_option maxRecDepth 100000 in
set_option maxHeartbeats 2000000 in
theorem builds_yes (p : Pk) (a : Option Addr) (n c : Nat) (w : World) (hI : In w a n c p.data) (ht : Typed p) (hn : n ≤ 140737488351232) (hok : Ok p) :
    Calls Try.prog 3 #[p.val a n c] w fun e w' => e = .returned (.bool true) ∧ Below w.heap.size w w' := by
  obtain ⟨W, hW, hB⟩ := Box.start w p a n c
  have HW := Lib.hid hW
  have HB := Lib.hid hB
  have HI := Lib.hid hI
  have HT := Lib.hid ht
  have HOK := Lib.hid hok
  clear hW hB hI ht hok
  go_enter Try.func3, Try.ntmps3
  go_wp2_with fail
  rw [HW.out]
  refine (alive_any W).mono ?_
  rintro e w1 ⟨rfl, hb⟩
  have HB1 := Lib.hid (HB.out.next hb)
  obtain ⟨e0, e1, e2, e3, e4, e5, e6, e7, e8, e9, e10, e11, e12⟩ := HB1.out.here
  have hlt1 := HB1.out.here.lt
  clear hb HB HW
  go_wp2_with fail
  refine (copy_any p.data a n c _ (HI.out.below (bl_al HB1.out.below (p.obj a n c))) hn).mono ?_
  rintro e w2 ⟨g, rfl, hown, hb⟩
  have hq0 : w2.heap[w1.heap.size]? = some (.cells (p.cs a n c) 28 (0, 0)) := (hb.block _ (by simp)).trans (heap_alloc_new _ _)
  have hgq : w1.heap.size + 1 ≤ g := by have := hown.2.2; simp at this; omega
  have hbl : Below w1.heap.size w1 w2 := (bl_al (Below.refl _ _) _).trans (hb.mono (by simp))
  have hmk := hown.marked HI.out.len
  have HB2 := Lib.hid (HB1.out.next hbl)
  obtain ⟨q, hq⟩ : ∃ q, q = w1.heap.size := ⟨_, rfl⟩
  rw [← hq] at hq0 hgq
  rw [← hq]
  have hqw : w1.heap.size ≤ q := by omega
  have HBL := Lib.hid hbl
  have HQW := Lib.hid hqw
  have HQ0 := Lib.hid hq0
  have HMK := Lib.hid hmk
  have HGQ := Lib.hid hgq
  clear hown hb hq hq0 hgq hbl hqw hmk hlt1 e0 e1 e2 e3 e4 e5 e6 e7 e8 e9 e10 e11 e12
  obtain ⟨x0, x1, x2, x3, x4, x5, x6, x7, x8, x9, x10, x11, x12⟩ := PkAt.of HQ0.out
  have xf := fun o => frozen_of_row w2 q o _ _ HQ0.out
  go_wp2_with fail
  obtain ⟨w3, hw3⟩ : ∃ w3, w3 = w2.setCell ⟨q, 12, none⟩ (.slice (some ⟨g, 0, none⟩) n (n + 2)) := ⟨_, rfl⟩
  rw [← hw3]
  have hD : Bd w q g p a n c w3 := by
    refine ⟨HB1.out.next (by rw [hw3]; exact HBL.out.setCell (p := ⟨q, 12, none⟩) HQW.out _), ?_, ?_⟩
    · rw [hw3]
      exact PkAt.of (heap_setCell_same w2 q 12 _ _ _ HQ0.out)
    · rw [hw3]
      exact HMK.out.set _ (by have := HGQ.out; show q ≠ g; omega) _
  have HD := Lib.hid hD
  clear hw3 hD HMK HGQ HQ0 HQW HBL HB1 HB2 xf x0 x1 x2 x3 x4 x5 x6 x7 x8 x9 x10 x11 x12
  refine (build_ok p (some ⟨g, 0, none⟩) n (n + 2) HOK.out HT.out w3 (HD.out.marks.in HI.out.len HT.out.data)).mono ?_
  rintro e w4 ⟨g4, c4, rfl, hown, hb⟩
  have HD4 := Lib.hid (HD.out.next hb)
  have HR4 := Lib.hid (own_in hown.1 (by rw [bts_len]) (fit_bts HT.out.data))
  obtain ⟨e0, e1, e2, e3, e4, e5, e6, e7, e8, e9, e10, e11, e12⟩ := HD4.out.box.here
  clear hown hb HD
  go_wp2_with fail
  refine (refBuild_ok p a n c HOK.out HT.out w4 (HI.out.below HD4.out.box.below)).mono ?_
  rintro e w5 ⟨a5, c5, rfl, hin, hb⟩
  have HD5 := Lib.hid (HD4.out.next hb)
  have sA := str_of (HR4.out.below hb).here (by rw [bts_len])
  have sB := str_of hin.here (by rw [bts_len])
  obtain ⟨s, hs⟩ : ∃ s, s = strOfNums (bts p) := ⟨_, rfl⟩
  obtain ⟨N, hN⟩ : ∃ N, N = 20 + segLen p := ⟨_, rfl⟩
  rw [← hs, ← hN] at sA sB
  rw [← hN]
  have sq : (s.toList == s.toList) = true := by simp
  have CK := Lib.hid (fun W => check_ok p (some ⟨g, 0, none⟩) n (n + 2) HI.out.len HOK.out W)
  have CP := Lib.hid (fun W (hb : Below w5.heap.size w5 W) => kept_any p.data a n c g W (HI.out.below (HD5.out.next hb).box.below) (HD5.out.next hb).marks hn)
  clear e0 e1 e2 e3 e4 e5 e6 e7 e8 e9 e10 e11 e12
  obtain ⟨f0, f1, f2, f3, f4, f5, f6, f7, f8, f9, f10, f11, f12⟩ := HD5.out.box.here
  obtain ⟨e0, e1, e2, e3, e4, e5, e6, e7, e8, e9, e10, e11, e12⟩ := HD5.out.pk
  clear hs hN hin hb HD4 HR4
  go_wp2_with (go_at_call 19; refine (num_nil _).mono ?_; rintro e w' ⟨rfl, rfl⟩)
  refine (CK.out _).mono ?_
  rintro e w6 ⟨rfl, hb⟩
  have HD6 := Lib.hid (HD5.out.next hb)
  have HB6 := Lib.hid hb
  clear hb e0 e1 e2 e3 e4 e5 e6 e7 e8 e9 e10 e11 e12 f0 f1 f2 f3 f4 f5 f6 f7 f8 f9 f10 f11 f12
  obtain ⟨f0, f1, f2, f3, f4, f5, f6, f7, f8, f9, f10, f11, f12⟩ := HD6.out.box.here
  obtain ⟨e0, e1, e2, e3, e4, e5, e6, e7, e8, e9, e10, e11, e12⟩ := HD6.out.pk
  go_wp2_with (first | (go_at_call 19; refine (num_nil _).mono ?_; rintro e w' ⟨rfl, rfl⟩) | (go_at_call 21; refine (CP.out w6 HB6.out).mono ?_; rintro e w7 ⟨rfl, hb⟩; have HB7 := Lib.hid (bl_tr HD6.out.box.below hb); clear hb))
  go_ret
  exact ⟨rfl, HB7.out⟩

set_option maxRecDepth 100000 in
set_option maxHeartbeats 2000000 in
theorem builds_no (p : Pk) (a : Option Addr) (n c : Nat) (w : World) (hI : In w a n c p.data) (ht : Typed p) (hn : n ≤ 140737488351232) (hok : ¬ Ok p) :
    Calls Try.prog 3 #[p.val a n c] w fun e w' => e = .returned (.bool true) ∧ Below w.heap.size w w' := by
  obtain ⟨W, hW, hB⟩ := Box.start w p a n c
  have HW := Lib.hid hW
  have HB := Lib.hid hB
  have HI := Lib.hid hI
  have HT := Lib.hid ht
  have HOK := Lib.hid hok
  clear hW hB hI ht hok
  go_enter Try.func3, Try.ntmps3
  go_wp2_with fail
  rw [HW.out]
  refine (alive_any W).mono ?_
  rintro e w1 ⟨rfl, hb⟩
  have HB1 := Lib.hid (HB.out.next hb)
  obtain ⟨e0, e1, e2, e3, e4, e5, e6, e7, e8, e9, e10, e11, e12⟩ := HB1.out.here
  have hlt1 := HB1.out.here.lt
  clear hb HB HW
  go_wp2_with fail
  refine (copy_any p.data a n c _ (HI.out.below (bl_al HB1.out.below (p.obj a n c))) hn).mono ?_
  rintro e w2 ⟨g, rfl, hown, hb⟩
  have hq0 : w2.heap[w1.heap.size]? = some (.cells (p.cs a n c) 28 (0, 0)) := (hb.block _ (by simp)).trans (heap_alloc_new _ _)
  have hgq : w1.heap.size + 1 ≤ g := by have := hown.2.2; simp at this; omega
  have hbl : Below w1.heap.size w1 w2 := (bl_al (Below.refl _ _) _).trans (hb.mono (by simp))
  have hmk := hown.marked HI.out.len
  have HB2 := Lib.hid (HB1.out.next hbl)
  obtain ⟨q, hq⟩ : ∃ q, q = w1.heap.size := ⟨_, rfl⟩
  rw [← hq] at hq0 hgq
  rw [← hq]
  have hqw : w1.heap.size ≤ q := by omega
  have HBL := Lib.hid hbl
  have HQW := Lib.hid hqw
  have HQ0 := Lib.hid hq0
  have HMK := Lib.hid hmk
  have HGQ := Lib.hid hgq
  clear hown hb hq hq0 hgq hbl hqw hmk hlt1 e0 e1 e2 e3 e4 e5 e6 e7 e8 e9 e10 e11 e12
  obtain ⟨x0, x1, x2, x3, x4, x5, x6, x7, x8, x9, x10, x11, x12⟩ := PkAt.of HQ0.out
  have xf := fun o => frozen_of_row w2 q o _ _ HQ0.out
  go_wp2_with fail
  obtain ⟨w3, hw3⟩ : ∃ w3, w3 = w2.setCell ⟨q, 12, none⟩ (.slice (some ⟨g, 0, none⟩) n (n + 2)) := ⟨_, rfl⟩
  rw [← hw3]
  have hD : Bd w q g p a n c w3 := by
    refine ⟨HB1.out.next (by rw [hw3]; exact HBL.out.setCell (p := ⟨q, 12, none⟩) HQW.out _), ?_, ?_⟩
    · rw [hw3]
      exact PkAt.of (heap_setCell_same w2 q 12 _ _ _ HQ0.out)
    · rw [hw3]
      exact HMK.out.set _ (by have := HGQ.out; show q ≠ g; omega) _
  have HD := Lib.hid hD
  clear hw3 hD HMK HGQ HQ0 HQW HBL HB1 HB2 xf x0 x1 x2 x3 x4 x5 x6 x7 x8 x9 x10 x11 x12
  refine (build_no p (some ⟨g, 0, none⟩) n (n + 2) HI.out.len (by omega) HOK.out w3).mono ?_
  rintro e w4 ⟨rfl, hb⟩
  have HD4 := Lib.hid (HD.out.next hb)
  obtain ⟨e0, e1, e2, e3, e4, e5, e6, e7, e8, e9, e10, e11, e12⟩ := HD4.out.box.here
  clear hb HD
  go_wp2_with fail
  refine (refBuild_no p a n c HI.out.len (by omega) HOK.out w4).mono ?_
  rintro e w5 ⟨rfl, hb⟩
  have HD5 := Lib.hid (HD4.out.next hb)
  have sA := str_of (At.nil w5 none 0) rfl
  obtain ⟨s, hs⟩ : ∃ s, s = strOfNums [] := ⟨_, rfl⟩
  rw [← hs] at sA
  have sq : (s.toList == s.toList) = true := by simp
  have CK := Lib.hid (fun W => check_no p (some ⟨g, 0, none⟩) n (n + 2) HI.out.len (by omega) HOK.out W)
  have CP := Lib.hid (fun W (hb : Below w5.heap.size w5 W) => kept_any p.data a n c g W (HI.out.below (HD5.out.next hb).box.below) (HD5.out.next hb).marks hn)
  clear e0 e1 e2 e3 e4 e5 e6 e7 e8 e9 e10 e11 e12
  obtain ⟨f0, f1, f2, f3, f4, f5, f6, f7, f8, f9, f10, f11, f12⟩ := HD5.out.box.here
  obtain ⟨e0, e1, e2, e3, e4, e5, e6, e7, e8, e9, e10, e11, e12⟩ := HD5.out.pk
  clear hs hb HD4
  go_wp2_with (go_at_call 19; refine (num_nine _).mono ?_; rintro e w' ⟨rfl, rfl⟩)
  refine (CK.out _).mono ?_
  rintro e w6 ⟨rfl, hb⟩
  have HD6 := Lib.hid (HD5.out.next hb)
  have HB6 := Lib.hid hb
  clear hb e0 e1 e2 e3 e4 e5 e6 e7 e8 e9 e10 e11 e12 f0 f1 f2 f3 f4 f5 f6 f7 f8 f9 f10 f11 f12
  obtain ⟨f0, f1, f2, f3, f4, f5, f6, f7, f8, f9, f10, f11, f12⟩ := HD6.out.box.here
  obtain ⟨e0, e1, e2, e3, e4, e5, e6, e7, e8, e9, e10, e11, e12⟩ := HD6.out.pk
  go_wp2_with (first | (go_at_call 19; refine (num_nine _).mono ?_; rintro e w' ⟨rfl, rfl⟩) | (go_at_call 21; refine (CP.out w6 HB6.out).mono ?_; rintro e w7 ⟨rfl, hb⟩; have HB7 := Lib.hid (bl_tr HD6.out.box.below hb); clear hb))
  go_ret
  exact ⟨rfl, HB7.out⟩

theorem builds_any (p : Pk) (a : Option Addr) (n c : Nat) (w : World) (hI : In w a n c p.data) (ht : Typed p) (hn : n ≤ 140737488351232) :
    Calls Try.prog 3 #[p.val a n c] w fun e w' => e = .returned (.bool true) ∧ Below w.heap.size w w' := by
  by_cases hok : Ok p
  · exact builds_yes p a n c w hI ht hn hok
  · exact builds_no p a n c w hI ht hn hok
end Go.Proofs.Ytfgajgdbojapcaa
