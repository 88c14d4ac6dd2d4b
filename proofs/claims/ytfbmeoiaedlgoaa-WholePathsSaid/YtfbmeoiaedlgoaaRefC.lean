/- Contract of the document's front: a packet's first header, with a given sum. Conditions: the packet is in form, its numbers are of their types, its Data came in; the sum is of 16 bits. -/
import Derived.Test.YtfbmeoiaedlgoaaRefB
namespace Go.Proofs.Ytfbmeoiaedlgoaa
open Go Go.RowKit
set_option linter.unusedVariables false
set_option linter.unusedSimpArgs false

abbrev IS (w : World) (p : Pk) (a : Option Addr) (n c : Nat) (wx : World) : Prop :=
  wx.cell? ⟨w.heap.size, 1, none⟩ = some (.int .i64 p.id) ∧ Box w p a n c wx
theorem keepI {w : World} {p : Pk} {a : Option Addr} {n c : Nat} {w1 w2 : World} (h : IS w p a n c w1) (hb : Below (w.heap.size + 1) w1 w2) : IS w p a n c w2 := ⟨(h.2.next2 hb).here.c1, h.2.next2 hb⟩
set_option maxRecDepth 100000 in
set_option maxHeartbeats 1000000 in
theorem front_any (p : Pk) (a : Option Addr) (n c m : Nat) (hm : m ≤ 1480) (h : Ok p) (ht : Typed p) (k : Int) (hk : w16 k) (w : World) :
    Calls Try.prog 41 #[p.val a n c, .int .i64 m, .int .i64 k] w fun e w' => ∃ ao cp, e = .returned (.slice ao 20 cp) ∧ w'.ownsRow (w.heap.size + 1) 5 1 (.slice ao 20 cp) 20 (u8s (hdr p m k)) ∧ Below w.heap.size w w' := by
  obtain ⟨i0, hi0, hz0, hz1, hz2⟩ := info_parts info5
  obtain ⟨W0, hW0, hB0⟩ := Box.start w p a n c
  have f0 := hB0.here.c0
  have kt : IntKind.u8.wrap p.tos = p.tos % 256 := IntKind.wrap_u8' _
  obtain ⟨yt, hyt⟩ : ∃ y, y = p.tos % 256 := ⟨_, rfl⟩
  rw [← hyt] at kt
  obtain ⟨W, hW⟩ : ∃ W, W0.alloc (.cells #[.int .u8 69, .int .u8 yt] 5) = W := ⟨_, rfl⟩
  have hB : Box w p a n c W := by rw [← hW]; exact hB0.next (bl_al (Below.refl _ _) _)
  have hz : W0.heap.size = w.heap.size + 1 := by rw [← hW0]; simp
  have ho0 : W.ownsRow (w.heap.size + 1) 5 1 (.slice (some ⟨w.heap.size + 1, 0, none⟩) 2 2) 2 (u8s [69, yt]) := by
    rw [← hW, ← hz]
    exact World.ownsRow_lit W0 #[.int .u8 69, .int .u8 yt] 2 (Nat.le_refl _) (by decide) rfl
  have HW0 := Lib.hid hW0
  have HW := Lib.hid hW
  have HB := Lib.hid hB
  have HO0 := Lib.hid ho0
  have HO := Lib.hid h
  have HT := Lib.hid ht
  have HK := Lib.hid hk
  have HYT := Lib.hid hyt
  have HZ := Lib.hid hz
  have hi0' : IS w p a n c W.drew := ⟨hB.drw.here.c1, hB.drw⟩
  have hsz : w.heap.size + 1 ≤ W.drew.heap.size := hB.here.lt
  have T1 : Hid (Calls Try.prog 40 #[.slice (some ⟨w.heap.size + 1, 0, none⟩) 2 2, .int .i64 (20 + (m : Int))] W.drew (Put (w.heap.size + 1) W.drew 4 ([69, yt] ++ b2 (20 + (m : Int))))) := Lib.hid (two_any _ (by omega) (w.heap.size + 1) 2 _ 2 _ W.drew ho0 hsz (by omega))
  have T2 : Hid (∀ (X : World) (ao : Option Addr) (cc : Nat), X.ownsRow (w.heap.size + 1) 5 1 (.slice ao 4 cc) 4 (u8s ([69, yt] ++ b2 (20 + (m : Int)))) → Below (w.heap.size + 1) W.drew X → Calls Try.prog 40 #[.slice ao 4 cc, .int .i64 p.id] X (Put (w.heap.size + 1) X 6 ([69, yt] ++ b2 (20 + (m : Int)) ++ b2 p.id))) := Lib.hid (fun X ao cc ho hb => two_any p.id (by have := h.id; omega) (w.heap.size + 1) 4 ao cc _ X ho (Nat.le_trans hsz hb.size) (by omega))
  have T3 : Hid (∀ (X : World) (ao : Option Addr) (cc : Nat), X.ownsRow (w.heap.size + 1) 5 1 (.slice ao 6 cc) 6 (u8s ([69, yt] ++ b2 (20 + (m : Int)) ++ b2 p.id)) → IS w p a n c X → Calls Try.prog 40 #[.slice ao 6 cc, .int .i64 16384] X (Put (w.heap.size + 1) X 8 ([69, yt] ++ b2 (20 + (m : Int)) ++ b2 p.id ++ b2 16384))) := Lib.hid (fun X ao cc ho hs => two_any 16384 (by omega) (w.heap.size + 1) 6 ao cc _ X ho hs.2.here.lt (by omega))
  have t20 : IntKind.i64.wrap (20 + (m : Int)) = 20 + (m : Int) := IntWalk.i64_in _ (by omega)
  clear hW0 hB0 hyt hW hB hz ho0 h ht hk
  go_enter Try.func41, Try.ntmps41
  go_wp2_with fail
  rw [HW0.out]
  rw [HW.out]
  go_region_held3 (fun wx => wx.cell? ⟨w.heap.size, 1, none⟩ = some (.int .i64 p.id) ∧ Box w p a n c wx) (first | exact hi0' | exact keepI (by assumption) (by assumption) | go_keep)
    (first | (go_at_call 40; (with_reducible refine T1.out.mono ?_); rintro e w1 ⟨a1, c1, rfl, ho1, hb1⟩) | (go_at_call 40; (with_reducible refine (T2.out _ _ _ (by assumption) (by assumption)).mono ?_); rintro e w2 ⟨a2, c2, rfl, ho2, hb2⟩) | (go_at_call 40; (with_reducible refine (T3.out _ _ _ (by assumption) (by assumption)).mono ?_); rintro e w3 ⟨a3, c3, rfl, ho3, hb3⟩))
  rename_i hHeld
  have HB3 := Lib.hid hHeld.2
  have HO3 := Lib.hid ho3
  have hs3 : w.heap.size + 1 ≤ w3.heap.size := HB3.out.here.lt
  have f2 := HB3.out.here.c2
  have f3 := HB3.out.here.c3
  have kl : IntKind.u8.wrap p.ttl = p.ttl % 256 := IntKind.wrap_u8' _
  have kp : IntKind.u8.wrap p.proto = p.proto % 256 := IntKind.wrap_u8' _
  obtain ⟨yl, hyl⟩ : ∃ y, y = p.ttl % 256 := ⟨_, rfl⟩
  obtain ⟨yp, hyp⟩ : ∃ y, y = p.proto % 256 := ⟨_, rfl⟩
  rw [← hyl] at kl
  rw [← hyp] at kp
  have HYL := Lib.hid hyl
  have HYP := Lib.hid hyp
  clear hHeld ho1 hb1 ho2 hb2 ho3 hb3 hi0' T1 T2 T3 hsz HB HO0 HW HW0 f0 kt t20 hyl hyp
  go_wp2_with (first | (at_builtin; refine wpList_append_own _ rfl (.tmp 20) (.tmp 28) 24 rfl (w.heap.size + 1) 5 i0 (.int .u8 0) 1 1 Try.underlying24 hi0 hz0 hz1 hz2 rfl (by decide) _ 8 (u8s ([69, yt] ++ b2 (20 + (m : Int)) ++ b2 p.id ++ b2 16384)) rfl (HO3.out.alloc _) ⟨w3.heap.size, 0, none⟩ 2 2 [.int .u8 yl, .int .u8 yp] rfl rfl (cell_two_new w3 _ _ _) ?c3 ?c4 ?c5 ?c6 ?_))
  case c3 => intro u hu; simp at hu; rcases hu with rfl | rfl <;> rfl
  case c4 => unfold maxLen; omega
  case c5 => omega
  case c6 => simp; omega
  intro v4 w4 hown4 hg4 _
  have hb4 : Below (w.heap.size + 1) w3 w4 := ((Below.refl (w.heap.size + 1) w3).alloc hs3 (.cells #[.int .u8 yl, .int .u8 yp] 5)).grown hg4 (by simp; omega) (fun j hj => (HO3.out.lt j hj).1)
  obtain ⟨a4, c4, rfl⟩ := own_form hown4
  rw [show ([Value.int .u8 yl, Value.int .u8 yp]) = u8s [yl, yp] from rfl, u8s_app] at hown4
  have HB4 := Lib.hid (HB3.out.next2 hb4)
  have HO4 := Lib.hid hown4
  have hs4 : w.heap.size + 1 ≤ w4.heap.size := HB4.out.here.lt
  clear hown4 hg4 hb4 HB3 HO3 f2 f3 kl kp hs3
  go_wp2_with fail
  refine (two_any k (by have := HK.out; unfold w16 at this; omega) (w.heap.size + 1) 10 a4 c4 _ w4 HO4.out hs4 (by omega)).mono ?_
  rintro e w5 ⟨a5, c5, rfl, ho5, hb5⟩
  have HB5 := Lib.hid (HB4.out.next2 hb5)
  have HO5 := Lib.hid ho5
  have hf0 := HB5.out.drw.fs
  have hszd : w.heap.size + 1 ≤ w5.drew.heap.size := HB5.out.here.lt
  have F1 : Hid (Calls Try.prog 39 #[.slice a5 12 c5, .int .u32 p.src] w5.drew (Put (w.heap.size + 1) w5.drew 16 ([69, yt] ++ b2 (20 + (m : Int)) ++ b2 p.id ++ b2 16384 ++ [yl, yp] ++ b2 k ++ b4 p.src))) := Lib.hid (four_any p.src HT.out.src (w.heap.size + 1) 12 a5 c5 _ w5.drew ho5 hszd (by omega))
  have F2 : Hid (∀ (X : World) (ao : Option Addr) (cc : Nat), X.ownsRow (w.heap.size + 1) 5 1 (.slice ao 16 cc) 16 (u8s ([69, yt] ++ b2 (20 + (m : Int)) ++ b2 p.id ++ b2 16384 ++ [yl, yp] ++ b2 k ++ b4 p.src)) → Below (w.heap.size + 1) w5.drew X → Calls Try.prog 39 #[.slice ao 16 cc, .int .u32 p.dst] X (Put (w.heap.size + 1) X 20 ([69, yt] ++ b2 (20 + (m : Int)) ++ b2 p.id ++ b2 16384 ++ [yl, yp] ++ b2 k ++ b4 p.src ++ b4 p.dst))) := Lib.hid (fun X ao cc ho hb => four_any p.dst HT.out.dst (w.heap.size + 1) 16 ao cc _ X ho (Nat.le_trans hszd hb.size) (by omega))
  clear ho5 hb5 HB4 HO4 hs4
  go_wp2_with fail
  go_region_held3 (fun wx => wx.cell? ⟨w.heap.size, 4, none⟩ = some (.int .u32 p.src) ∧ wx.cell? ⟨w.heap.size, 6, none⟩ = some (.int .u32 p.dst) ∧ Box w p a n c wx) (first | exact hf0 | exact keepF (by assumption) (by assumption) | go_keep)
    (first | (go_at_call 39; (with_reducible refine F1.out.mono ?_); rintro e w6 ⟨a6, c6, rfl, ho6, hb6⟩) | (go_at_call 39; (with_reducible refine (F2.out _ _ _ (by assumption) (by assumption)).mono ?_); rintro e w7 ⟨a7, c7, rfl, ho7, hb7⟩))
  rename_i hHeld
  have HB7 := Lib.hid hHeld.2.2.below
  have e7 : [69, yt] ++ b2 (20 + (m : Int)) ++ b2 p.id ++ b2 16384 ++ [yl, yp] ++ b2 k ++ b4 p.src ++ b4 p.dst = hdr p m k := by
    rw [HYT.out, HYL.out, HYP.out]
    simp [hdr, List.append_assoc, b2]
  rw [e7] at ho7
  have HO7 := Lib.hid ho7
  clear hHeld ho6 hb6 ho7 hb7 hf0 F1 F2 hszd e7
  go_wp2
  go_ret
  exact ⟨a7, c7, rfl, HO7.out, HB7.out⟩
end Go.Proofs.Ytfbmeoiaedlgoaa
