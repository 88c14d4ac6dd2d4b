/- Contracts of packet's buildUDP and buildTCP: what rows they make. Conditions: the packet is in form, its numbers are of their types, its Data came in. -/
import Derived.Test.YtfbmeoiaedlgoaaBlA
namespace Go.Proofs.Ytfbmeoiaedlgoaa
open Go Go.RowKit
set_option linter.unusedVariables false
set_option linter.unusedSimpArgs false

theorem Wr.far {b : Nat} {w w2 : World} {ao : Option Addr} {c : Nat} {l : List Int} (hC : w.heap[b]? = some (.cells #[.slice ao l.length c] 90 (0, 0))) (hO : w.ownsRow (b + 1) 5 1 (.slice ao l.length c) l.length (u8s l))
    (hg : w.grownBy w2 (Value.slice ao l.length c).ownBlock) : w2.heap[b]? = some (.cells #[.slice ao l.length c] 90 (0, 0)) := by
  rw [hg.block b (lt_of_block hC) (fun e => by have := (hO.lt b e.symm).1; omega)]
  exact hC
theorem Wr.appended {b : Nat} {w w2 : World} {ao : Option Addr} {c : Nat} {l d : List Int} (hC : w.heap[b]? = some (.cells #[.slice ao l.length c] 90 (0, 0))) (hO : w.ownsRow (b + 1) 5 1 (.slice ao l.length c) l.length (u8s l))
    (hg : w.grownBy w2 (Value.slice ao l.length c).ownBlock) {a2 : Option Addr} {c2 m : Nat} (hm : l.length + d.length = m) (h2 : w2.ownsRow (b + 1) 5 1 (.slice a2 m c2) m (u8s l ++ u8s d)) :
    Wr b (w2.setCell ⟨b, 0, none⟩ (.slice a2 m c2)) (l ++ d) ∧ Below b w (w2.setCell ⟨b, 0, none⟩ (.slice a2 m c2)) := by
  subst hm
  have h3 := Wr.far hC hO hg
  have hs := lt_of_block hC
  refine ⟨⟨a2, c2, ?_, ?_⟩, ?_⟩
  · rw [List.length_append]
    exact one_setCell h3
  · rw [List.length_append, ← u8s_app]
    exact ownsRow_setCell_below h2 (Nat.lt_succ_self b) _
  · exact ((Below.refl b w).grown hg (by omega) (fun k hk => by have := (hO.lt k hk).1; omega)).setCell (p := ⟨b, 0, none⟩) (Nat.le_refl _) _

/-- What the drawn statement holds beside its cells. -/
structure Tb (w w5 wx : World) : Prop where
  below : Below (w.heap.size + 1 + 1) w5 wx
  size : w.heap.size + 1 + 1 ≤ wx.heap.size
theorem keepT {w w5 w1 w2 : World} {p : Pk} {v : Value} (h : w1.cell? ⟨w.heap.size, 3, none⟩ = some (.int .i64 p.proto) ∧ w1.cell? ⟨w.heap.size, 4, none⟩ = some (.int .u32 p.src) ∧ w1.cell? ⟨w.heap.size, 5, none⟩ = some (.int .i64 p.sp) ∧ w1.cell? ⟨w.heap.size, 6, none⟩ = some (.int .u32 p.dst) ∧ w1.cell? ⟨w.heap.size, 7, none⟩ = some (.int .i64 p.dp) ∧ w1.cell? ⟨w.heap.size + 1, 0, none⟩ = some v ∧ Tb w w5 w1) (hb : Below (w.heap.size + 1 + 1) w1 w2) :
    w2.cell? ⟨w.heap.size, 3, none⟩ = some (.int .i64 p.proto) ∧ w2.cell? ⟨w.heap.size, 4, none⟩ = some (.int .u32 p.src) ∧ w2.cell? ⟨w.heap.size, 5, none⟩ = some (.int .i64 p.sp) ∧ w2.cell? ⟨w.heap.size, 6, none⟩ = some (.int .u32 p.dst) ∧ w2.cell? ⟨w.heap.size, 7, none⟩ = some (.int .i64 p.dp) ∧ w2.cell? ⟨w.heap.size + 1, 0, none⟩ = some v ∧ Tb w w5 w2 := by
  obtain ⟨a, b, c, d, e, f, g⟩ := h
  have hc := fun (k o : Nat) (hk : k < w.heap.size + 1 + 1) => hb.cell (p := ⟨k, o, none⟩) hk
  exact ⟨(hc _ _ (by omega)).trans a, (hc _ _ (by omega)).trans b, (hc _ _ (by omega)).trans c, (hc _ _ (by omega)).trans d, (hc _ _ (by omega)).trans e, (hc _ _ (by omega)).trans f, ⟨g.below.trans hb, Nat.le_trans g.size hb.size⟩⟩
theorem keepU {w w5 w1 w2 : World} {p : Pk} {v : Value} (h : w1.cell? ⟨w.heap.size, 3, none⟩ = some (.int .i64 p.proto) ∧ w1.cell? ⟨w.heap.size, 4, none⟩ = some (.int .u32 p.src) ∧ w1.cell? ⟨w.heap.size, 5, none⟩ = some (.int .i64 p.sp) ∧ w1.cell? ⟨w.heap.size, 6, none⟩ = some (.int .u32 p.dst) ∧ w1.cell? ⟨w.heap.size, 7, none⟩ = some (.int .i64 p.dp) ∧ w1.cell? ⟨w.heap.size + 1, 0, none⟩ = some v ∧ Tb w w5 w1) (hb : Below w1.heap.size w1 w2) :
    w2.cell? ⟨w.heap.size, 3, none⟩ = some (.int .i64 p.proto) ∧ w2.cell? ⟨w.heap.size, 4, none⟩ = some (.int .u32 p.src) ∧ w2.cell? ⟨w.heap.size, 5, none⟩ = some (.int .i64 p.sp) ∧ w2.cell? ⟨w.heap.size, 6, none⟩ = some (.int .u32 p.dst) ∧ w2.cell? ⟨w.heap.size, 7, none⟩ = some (.int .i64 p.dp) ∧ w2.cell? ⟨w.heap.size + 1, 0, none⟩ = some v ∧ Tb w w5 w2 := keepT h (hb.mono h.2.2.2.2.2.2.size)

theorem Wb.later {w : World} {p : Pk} {a : Option Addr} {n c : Nat} {l : List Int} {wx wy : World} (h : Wb w p a n c l wx) (hb : Below wx.heap.size wx wy) : Wb w p a n c l wy :=
  ⟨h.box.below hb h.box.lt, h.wr.below hb, bl_tr h.below hb⟩

set_option maxRecDepth 100000 in
set_option maxHeartbeats 1000000 in
theorem buildUDP_any (p : Pk) (a : Option Addr) (n c : Nat) (h : Ok p) (ht : Typed p) (hu : p.proto = 17) (w : World) (hI : In w a n c p.data) :
    Calls Try.prog 55 #[p.val a n c] w fun e w' => ∃ ao cp, e = .returned (.slice ao (segLen p) cp) ∧ At w' (.slice ao (segLen p) cp) (seg p (segSum p)) ∧ Below w.heap.size w w' := by
  obtain ⟨i0, hi0, hz0, hz1, hz2⟩ := info_parts info5
  obtain ⟨W, hW, hz, hB⟩ := Wb.start w p a n c
  have HW := Lib.hid hW
  have HZ := Lib.hid hz
  have HB := Lib.hid hB
  have HO := Lib.hid h
  have HT := Lib.hid ht
  have HI := Lib.hid hI
  have hsl : segLen p = 8 + n := by unfold segLen; rw [if_pos hu, hI.len]
  have hl := h.len
  rw [hsl] at hl
  rw [hsl]
  have HSL := Lib.hid hsl
  have HU := Lib.hid hu
  have f5 := hB.box.c5
  have f7 := hB.box.c7
  have f12 := hB.box.c12
  clear hW hB h ht hz hI hsl hu f5 f7 f12
  go_enter Try.func55, Try.ntmps55
  go_wp2_with fail
  rw [HW.out]
  refine (put_any (w.heap.size + 1) 2 4 [p.sp, p.dp, 8 + (n : Int), 0] [] _ rfl rfl (by decide) (by decide) (all4 (by have := HO.out.sp; omega) (by have := HO.out.dp; omega) (by omega) (by omega)) (by simp) W HB.out.wr _ HZ.out.symm).mono ?_
  rintro e w1 ⟨rfl, hw1, hb1, hsz1⟩
  have HB1 := Lib.hid (HB.out.next hw1 hb1)
  have f12 := HB1.out.box.c12
  obtain ⟨l0, hl0⟩ : ∃ l0, l0 = [] ++ [p.sp, p.dp, 8 + (n : Int), 0].flatMap (be 2) := ⟨_, rfl⟩
  rw [← hl0] at hw1 HB1
  have HL0 := Lib.hid hl0
  have hlen : l0.length = 8 := by rw [hl0, fl4]; rfl
  obtain ⟨ao, cp, hC, hO⟩ := hw1
  have hv := cell_of_one hC
  have HC := Lib.hid hC
  have HOw := Lib.hid hO
  have HIN := Lib.hid (HI.out.below HB1.out.below)
  rw [hlen] at hv
  have HLEN := Lib.hid hlen
  have hs1 := lt_of_block hC
  have HOw8 := Lib.hid (show w1.ownsRow (w.heap.size + 1 + 1) 5 1 (.slice ao 8 cp) 8 (u8s l0) by have := hO; rw [hlen] at this; exact this)
  clear hb1 HB HW HZ hl0 hC hO hlen hsz1
  go_wp2_with (at_builtin; refine append_any2 rfl (.tmp 17) (.tmp 19) 90 24 rfl (w.heap.size + 1 + 1) 5 5 i0 (.int .u8 0) 1 1 Try.underlying90 Try.underlying24 hi0 hz0 hz1 hz2 rfl (by decide) ao 8 cp (u8s l0) rfl HOw8.out a n c (u8s p.data) rfl HIN.out.zero ?c1 HIN.out.cells (u8s_one p.data) ?c2 ?c3 ?c4 ?_)
  case c1 => unfold u8s; rw [List.length_map, HIN.out.len]; omega
  case c2 => unfold maxLen; omega
  case c3 => omega
  case c4 => omega
  intro v2 w2 hown2 hg2 _
  obtain ⟨a2, c2, rfl⟩ := own_form hown2
  rw [← HLEN.out] at hg2
  have hC2 := Wr.far HC.out HOw.out hg2
  have hap := Wr.appended HC.out HOw.out hg2 (d := p.data) (m := 8 + n) (by rw [HLEN.out, HIN.out.len]) hown2
  rw [HLEN.out] at hC2
  have hv2 := cell_of_one hC2
  have hf2 := free_of_one hC2
  obtain ⟨hw3, hb3⟩ := hap
  have HB3 := Lib.hid (HB1.out.next hw3 hb3)
  clear hC2 hw3 hb3 hg2 hown2 HB1 HOw HOw8 HC hs1 hv f12
  go_wp2_with fail
  obtain ⟨w3, hw3⟩ : ∃ w3, w3 = w2.setCell ⟨w.heap.size + 1, 0, none⟩ (.slice a2 (8 + n) c2) := ⟨_, rfl⟩
  rw [← hw3] at HB3
  rw [← hw3]
  obtain ⟨L, hL⟩ : ∃ L, L = l0 ++ p.data := ⟨_, rfl⟩
  rw [← hL] at HB3
  obtain ⟨m, hm⟩ : ∃ m, m = 8 + n := ⟨_, rfl⟩
  have hLm : L.length = m := by rw [hL, List.length_append, HLEN.out, HIN.out.len, hm]
  have hLs : L = segU p 0 := by
    rw [hL, HL0.out, fl4, be2, be2, be2, be2, ← HIN.out.len]
    simp [segU, List.append_assoc]
  have hm0 : m = segLen p := by rw [hm, HSL.out]
  have hml : m < 65536 := by omega
  obtain ⟨ao3, cp3, hv3, ho3⟩ := HB3.out.wr.own
  rw [hLm] at hv3 ho3
  have hA3 : At w3 (.slice ao3 m cp3) L := At.own (l := L) (v := .slice ao3 m cp3) (by rw [hLm]; exact ho3)
  have hseg : seg p 0 = L := by unfold seg; rw [if_pos HU.out, hLs]
  have hraw : 65535 - car (ws (pre p m ++ L)) = rawSum p := by unfold rawSum; rw [← hm0, hseg]
  have hLf : fit L := by rw [hLs]; exact fit_segU HT.out.data 0
  have hlt3 := HB3.out.wr.lt
  have CA := Lib.hid (fun W => ahead_any p m (by have := HO.out.proto; omega) HT.out.src HT.out.dst hml W)
  have CS := Lib.hid (fun (W : World) (ax : Option Addr) (cx : Nat) (hx : At W (.slice ax 12 cx) (pre p m)) (hb : Below w3.drew.heap.size w3.drew W) => sum2 hx ((At.below (w := w3.drew) hA3 hb)) (fit_pre p m) hLf (by rw [pre_len, hLm]; omega) W.heap.size rfl)
  rw [hraw] at CS
  obtain ⟨k, hk⟩ : ∃ k, k = rawSum p := ⟨_, rfl⟩
  rw [← hk] at CS
  have hk16 : w16 k := by rw [hk]; exact rawSum_w16 HT.out.data
  have HK := Lib.hid hk
  have HLm := Lib.hid hLm
  have HLs := Lib.hid hLs
  have HM := Lib.hid hm
  have hS0 : Tb w w3 w3.drew := ⟨(Below.refl _ _).drew, by show w.heap.size + 1 + 1 ≤ w3.heap.size; omega⟩
  obtain ⟨e3, e4, e5, e6, e7⟩ : w3.cell? ⟨w.heap.size, 3, none⟩ = some (.int .i64 p.proto) ∧ w3.cell? ⟨w.heap.size, 4, none⟩ = some (.int .u32 p.src) ∧ w3.cell? ⟨w.heap.size, 5, none⟩ = some (.int .i64 p.sp) ∧ w3.cell? ⟨w.heap.size, 6, none⟩ = some (.int .u32 p.dst) ∧ w3.cell? ⟨w.heap.size, 7, none⟩ = some (.int .i64 p.dp) := ⟨HB3.out.box.c3, HB3.out.box.c4, HB3.out.box.c5, HB3.out.box.c6, HB3.out.box.c7⟩
  clear hw3 hL hLm hLs hm0 hml ho3 hA3 hseg hraw hLf hk hm hv2 hf2
  go_region_held3 (fun wx => wx.cell? ⟨w.heap.size, 3, none⟩ = some (.int .i64 p.proto) ∧ wx.cell? ⟨w.heap.size, 4, none⟩ = some (.int .u32 p.src) ∧ wx.cell? ⟨w.heap.size, 5, none⟩ = some (.int .i64 p.sp) ∧ wx.cell? ⟨w.heap.size, 6, none⟩ = some (.int .u32 p.dst) ∧ wx.cell? ⟨w.heap.size, 7, none⟩ = some (.int .i64 p.dp) ∧ wx.cell? ⟨w.heap.size + 1, 0, none⟩ = some (.slice ao3 m cp3) ∧ Tb w w3 wx) (first | exact ⟨e3, e4, e5, e6, e7, hv3, hS0⟩ | exact keepU (by assumption) (by assumption) | exact keepU (by assumption) (bl_al (Below.refl _ _) _) | assumption | go_keep)
    (first | (go_at_call 68; with_reducible refine (CA.out _).mono ?_; rintro e w' ⟨ax, cx, rfl, hx, hb'⟩) | (go_at_call 45; with_reducible refine (CS.out _ _ _ (by assumption) (by assumption)).mono ?_; rintro e w' ⟨rfl, rfl⟩))
  have HB4 := Lib.hid (HB3.out.later (((Below.refl w3.heap.size w3).drew.trans hb').alloc (by have := hb'.size; exact this) (.cells #[.slice ax 12 cx, .slice ao3 m cp3] 24)))
  rename_i hHeld
  have hv4 := hHeld.2.2.2.2.2.1
  obtain ⟨x4, hx4⟩ : ∃ X, X = w'.alloc (.cells #[.slice ax 12 cx, .slice ao3 m cp3] 24) := ⟨_, rfl⟩
  rw [← hx4] at HB4 hv4
  rw [← hx4]
  clear hHeld hx4 hx hb' CS CA HB3 hv3 hlt3 hS0 e3 e4 e5 e6 e7
  obtain ⟨k2, hk2⟩ : ∃ k2, k2 = segSum p := ⟨_, rfl⟩
  have hk216 : w16 k2 := by rw [hk2]; exact segSum_w16 HT.out.data
  have CT := Lib.hid (HB4.out.wr.sat (I := 3) hk216 (by rw [HLm.out]; have := HM.out; omega) (by rw [HLm.out]; have := HM.out; omega) ao3 cp3 (by rw [HLm.out]; exact hv4) 6 rfl)
  rw [HLm.out] at CT
  have HK2 : Hid (k2 = if k = 0 then 65535 else k) := Lib.hid (by
    rw [hk2, HK.out]
    unfold segSum
    by_cases h0 : rawSum p = 0
    · rw [if_pos ⟨HU.out, h0⟩, if_pos h0]
    · rw [if_neg (fun h => h0 h.2), if_neg h0])
  have HE : Hid (setw L 3 (k2 / 256 % 256) (k2 % 256) = seg p (segSum p)) := Lib.hid (by
    rw [HLs.out, segU_set, hk2]
    unfold seg
    rw [if_pos HU.out])
  clear hk216 hk2
  have hmn : (8 : Nat) + n = m := HM.out.symm
  rw [hmn]
  by_cases h0 : k = 0
  · rw [h0, if_pos rfl] at HK2
    obtain rfl : k2 = 65535 := HK2.out
    subst h0
    clear HK2
    go_wp2_with fail
    refine CT.out.mono ?_
    rintro e x5 ⟨rfl, hw5, hb5⟩
    rw [HE.out] at hw5
    have HB5 := Lib.hid (HB4.out.below.trans (hb5.mono (by omega)))
    obtain ⟨a5, c5, hv5, ho5⟩ := hw5.own
    have hA5 := Lib.hid (At.own ho5)
    rw [seg_len] at hv5 hA5
    rw [show segLen p = m by rw [HSL.out, HM.out]] at hv5 hA5
    clear hw5 hb5 ho5 CT HB4 hv4 HE
    go_wp2
    go_ret
    exact ⟨a5, c5, by rw [hmn]; rfl, by rw [hmn]; exact hA5.out, HB5.out⟩
  · rw [if_neg h0] at HK2
    obtain rfl : k2 = k := HK2.out
    have q0 : (k2 == 0) = false := by simp [h0]
    clear HK2 h0
    go_wp2_with fail
    refine CT.out.mono ?_
    rintro e x5 ⟨rfl, hw5, hb5⟩
    rw [HE.out] at hw5
    have HB5 := Lib.hid (HB4.out.below.trans (hb5.mono (by omega)))
    obtain ⟨a5, c5, hv5, ho5⟩ := hw5.own
    have hA5 := Lib.hid (At.own ho5)
    rw [seg_len] at hv5 hA5
    rw [show segLen p = m by rw [HSL.out, HM.out]] at hv5 hA5
    clear hw5 hb5 ho5 CT HB4 hv4 HE
    go_wp2
    go_ret
    exact ⟨a5, c5, by rw [hmn]; rfl, by rw [hmn]; exact hA5.out, HB5.out⟩
end Go.Proofs.Ytfbmeoiaedlgoaa
