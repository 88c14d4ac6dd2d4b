/- Contract of towpathlaw03.alive: it returns true. No conditions. -/
import Derived.Test.YtfgajgdbojapcaaParA
import Derived.Test.YtfgajgdbojapcaaSameA
namespace Go.Proofs.Ytfgajgdbojapcaa
open Go Go.RowKit
set_option linter.unusedVariables false
set_option linter.unusedSimpArgs false

theorem own_in {w : World} {B n c : Nat} {ao : Option Addr} {l : List Int} (h : w.ownsRow B 5 1 (.slice ao n c) n (u8s l)) (hl : l.length = n) (hf : fit l) : In w ao n c l := by
  have hA := At.own (w := w) (B := B) (v := .slice ao n c) (l := l) (by rw [hl]; exact h)
  rcases h.2 with ⟨e, h0⟩ | ⟨g, cap, cur, e, _, _, h1, _⟩
  · simp only [Value.slice.injEq] at e
    obtain ⟨rfl, rfl, rfl⟩ := e
    exact ⟨hl, Nat.le_refl _, fun _ => rfl, hA, hf⟩
  · simp only [Value.slice.injEq] at e
    obtain ⟨rfl, _, rfl⟩ := e
    exact ⟨hl, h1, (fun e => by cases e), hA, hf⟩
def ex : Pk := ⟨0, 0, 64, 17, 16909060, 1, 84281096, 2, 0, 0, 0, 0, []⟩
theorem ex_ok : Ok ex := ⟨by decide, by decide, by decide, by decide, by decide, by decide, by decide, by decide, by decide, by decide⟩
theorem ex_typed : Typed ex := ⟨by decide, by decide, by decide, by decide, by intro b hb; cases hb⟩
theorem example_any (p : Pk) (hp : p = ex) (w : World) : Calls Try.prog 40 #[] w fun e w' => e = .returned (p.val none 0 0) ∧ Below w.heap.size w w' := by
  subst hp
  go_enter Try.func40, Try.ntmps40
  go_wp2
  exact bodyPost_ret (v := ex.val none 0 0) (by simp [results, Try.results40, go_sem, ex]) rfl ⟨rfl, bl_al (Below.refl _ _) _⟩
theorem in_nil (w : World) : In w none 0 0 [] := ⟨rfl, Nat.le_refl _, fun _ => rfl, At.nil _ _ _, by intro b hb; cases hb⟩
/-- What the last statement holds. -/
structure Al (w : World) (q g : Nat) (p : Pk) (ao : Option Addr) (k c2 cap : Nat) (l : List Int) (wx : World) : Prop where
  pk : PkAt wx q p ao k c2
  row : In wx (some ⟨g, 0, none⟩) 28 cap l
  data : In wx ao k c2 p.data
  below : Below w.heap.size w wx
theorem Al.next {w : World} {q g : Nat} {p : Pk} {ao : Option Addr} {k c2 cap : Nat} {l : List Int} {wx wy : World} (h : Al w q g p ao k c2 cap l wx) (hb : Below wx.heap.size wx wy) : Al w q g p ao k c2 cap l wy :=
  ⟨h.pk.below hb h.pk.lt, h.row.below hb, h.data.below hb, bl_tr h.below hb⟩
theorem Al.drew {w : World} {q g : Nat} {p : Pk} {ao : Option Addr} {k c2 cap : Nat} {l : List Int} {wx : World} (h : Al w q g p ao k c2 cap l wx) : Al w q g p ao k c2 cap l wx.drew := h.next (Below.refl _ _).drew
abbrev AlS (w : World) (q g : Nat) (p : Pk) (ao : Option Addr) (k c2 cap : Nat) (l : List Int) (wx : World) : Prop :=
  wx.cell? ⟨q, 0, none⟩ = some (.int .i64 p.tos) ∧ wx.cell? ⟨q, 1, none⟩ = some (.int .i64 p.id) ∧ wx.cell? ⟨q, 2, none⟩ = some (.int .i64 p.ttl) ∧ wx.cell? ⟨q, 3, none⟩ = some (.int .i64 p.proto) ∧ wx.cell? ⟨q, 4, none⟩ = some (.int .u32 p.src) ∧ wx.cell? ⟨q, 5, none⟩ = some (.int .i64 p.sp) ∧ wx.cell? ⟨q, 6, none⟩ = some (.int .u32 p.dst) ∧ wx.cell? ⟨q, 7, none⟩ = some (.int .i64 p.dp) ∧ wx.cell? ⟨q, 8, none⟩ = some (.int .u32 p.seq) ∧ wx.cell? ⟨q, 9, none⟩ = some (.int .u32 p.ack) ∧ wx.cell? ⟨q, 10, none⟩ = some (.int .i64 p.flags) ∧ wx.cell? ⟨q, 11, none⟩ = some (.int .i64 p.win) ∧ wx.cell? ⟨q, 12, none⟩ = some (.slice ao k c2) ∧ wx.cell? ⟨g, 0, none⟩ = some (.int .u8 69) ∧ wx.cell? ⟨g, 3, none⟩ = some (.int .u8 28) ∧ wx.cell? ⟨g, 9, none⟩ = some (.int .u8 17) ∧ Al w q g p ao k c2 cap l wx
theorem Al.s {w : World} {q g : Nat} {p : Pk} {ao : Option Addr} {k c2 cap : Nat} {l : List Int} {wx : World} (h : Al w q g p ao k c2 cap l wx) (hl : l = bts ex) : AlS w q g p ao k c2 cap l wx := by
  subst hl
  have c0 := in_cell h.row 0 (by omega)
  have c3 := in_cell h.row 3 (by omega)
  have c9 := in_cell h.row 9 (by omega)
  exact ⟨h.pk.c0, h.pk.c1, h.pk.c2, h.pk.c3, h.pk.c4, h.pk.c5, h.pk.c6, h.pk.c7, h.pk.c8, h.pk.c9, h.pk.c10, h.pk.c11, h.pk.c12, c0, c3, c9, h⟩
theorem keepA {w : World} {q g : Nat} {p : Pk} {ao : Option Addr} {k c2 cap : Nat} {l : List Int} {w1 w2 : World} (hl : l = bts ex) (h : AlS w q g p ao k c2 cap l w1) (hb : Below w1.heap.size w1 w2) : AlS w q g p ao k c2 cap l w2 :=
  (h.2.2.2.2.2.2.2.2.2.2.2.2.2.2.2.2.next hb).s hl

set_option maxRecDepth 100000 in
set_option maxHeartbeats 1000000 in
theorem alive_any (w : World) : Calls Try.prog 15 #[] w fun e w' => e = .returned (.bool true) ∧ Below w.heap.size w w' := by
  obtain ⟨p, hp⟩ : ∃ p, p = ex := ⟨_, rfl⟩
  have hok : Ok p := by rw [hp]; exact ex_ok
  have hty : Typed p := by rw [hp]; exact ex_typed
  have hdat : p.data = [] := by rw [hp]; rfl
  have h28 : 20 + segLen p = 28 := by rw [hp]; decide
  have CE := Lib.hid (fun w => example_any p hp w)
  have CB := Lib.hid (fun w => build_ok p none 0 0 hok hty w (by rw [hdat]; exact in_nil w))
  rw [h28] at CB
  have hbl : (bts p).length = 28 := by rw [bts_len, h28]
  have hfb := fit_bts hty.data
  have his := (Is.of hok hty (b := bts p) rfl).1
  have hdec := (Is.of hok hty (b := bts p) rfl).2
  have CP := Lib.hid (fun (W : World) (c : Nat) (g : Nat) (h : In W (some ⟨g, 0, none⟩) 28 c (bts p)) => parse_yes (bts p) (some ⟨g, 0, none⟩) 28 c W h (by decide) his)
  rw [hdec] at CP
  have HBL := Lib.hid hbl
  have HFB := Lib.hid hfb
  have HPE := Lib.hid hp
  have HTY := Lib.hid hty
  clear hok hty hdat h28 hbl hfb his hdec hp
  go_enter Try.func15, Try.ntmps15
  go_wp2_with fail
  refine (CE.out w).mono ?_
  rintro e w1 ⟨rfl, hb1⟩
  have HB1 := Lib.hid hb1
  clear hb1
  go_wp2_with fail
  refine (CB.out w1).mono ?_
  rintro e w2 ⟨g, cap, rfl, hown, hb2⟩
  have HB2 := Lib.hid (bl_tr HB1.out hb2)
  have HR2 := Lib.hid (own_in hown.1 HBL.out HFB.out)
  clear hown hb2 HB1
  go_wp2_with fail
  refine (CP.out w2 cap g HR2.out).mono ?_
  rintro e w3 ⟨ao, k, c2, rfl, hk, hown, hb3⟩
  have HD3 := Lib.hid (own_in hown hk.symm HTY.out.data)
  have HR3 := Lib.hid (HR2.out.below hb3)
  have HB3 := Lib.hid (bl_tr HB2.out hb3)
  have HAl : Hid (Al w w3.heap.size g p ao k c2 cap (bts p) (w3.alloc (p.obj ao k c2))) := Lib.hid ⟨PkAt.new _ _ _ _ _, HR3.out.below (bl_al (Below.refl _ _) _), HD3.out.below (bl_al (Below.refl _ _) _), bl_al HB3.out _⟩
  clear hown hb3 hk HD3 HR3 HB3 HR2 HB2 CP CB
  go_wp2_with fail
  obtain ⟨q, hq⟩ : ∃ q, q = w3.heap.size := ⟨_, rfl⟩
  obtain ⟨X, hX⟩ : ∃ X, X = w3.alloc (p.obj ao k c2) := ⟨_, rfl⟩
  rw [← hX, ← hq] at HAl
  rw [← hX, ← hq]
  clear hX hq
  have HLE : Hid (bts p = bts ex) := Lib.hid (by rw [HPE.out])
  have hS0 := HAl.out.drew.s HLE.out
  have CS := Lib.hid (fun (W : World) (h : AlS w q g p ao k c2 cap (bts p) W) => same_any p p ao none k c2 0 0 W h.2.2.2.2.2.2.2.2.2.2.2.2.2.2.2.2.data (by rw [HPE.out]; exact in_nil W))
  rw [sameP_self] at CS
  go_region_held3 (fun wx => wx.cell? ⟨q, 0, none⟩ = some (.int .i64 p.tos) ∧ wx.cell? ⟨q, 1, none⟩ = some (.int .i64 p.id) ∧ wx.cell? ⟨q, 2, none⟩ = some (.int .i64 p.ttl) ∧ wx.cell? ⟨q, 3, none⟩ = some (.int .i64 p.proto) ∧ wx.cell? ⟨q, 4, none⟩ = some (.int .u32 p.src) ∧ wx.cell? ⟨q, 5, none⟩ = some (.int .i64 p.sp) ∧ wx.cell? ⟨q, 6, none⟩ = some (.int .u32 p.dst) ∧ wx.cell? ⟨q, 7, none⟩ = some (.int .i64 p.dp) ∧ wx.cell? ⟨q, 8, none⟩ = some (.int .u32 p.seq) ∧ wx.cell? ⟨q, 9, none⟩ = some (.int .u32 p.ack) ∧ wx.cell? ⟨q, 10, none⟩ = some (.int .i64 p.flags) ∧ wx.cell? ⟨q, 11, none⟩ = some (.int .i64 p.win) ∧ wx.cell? ⟨q, 12, none⟩ = some (.slice ao k c2) ∧ wx.cell? ⟨g, 0, none⟩ = some (.int .u8 69) ∧ wx.cell? ⟨g, 3, none⟩ = some (.int .u8 28) ∧ wx.cell? ⟨g, 9, none⟩ = some (.int .u8 17) ∧ Al w q g p ao k c2 cap (bts p) wx) (first | exact hS0 | exact keepA HLE.out (by assumption) (by assumption) | go_keep)
    (first | (go_at_call 40; with_reducible refine (CE.out _).mono ?_; rintro e w' ⟨rfl, hb'⟩) | (go_at_call 27; with_reducible refine (CS.out _ (by assumption)).mono ?_; rintro e w' ⟨rfl, hb'⟩))
  rename_i hHeld
  have HF := Lib.hid hHeld.2.2.2.2.2.2.2.2.2.2.2.2.2.2.2.2.below
  clear hHeld
  go_wp2
  go_ret
  exact ⟨rfl, HF.out⟩
end Go.Proofs.Ytfgajgdbojapcaa
