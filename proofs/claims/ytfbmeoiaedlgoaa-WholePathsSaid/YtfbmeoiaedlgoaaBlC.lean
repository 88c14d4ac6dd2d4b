/- Contract of packet's buildTCP: what row it makes. Conditions: the packet is in form, its numbers are of their types, its Data came in. -/
import Derived.Test.YtfbmeoiaedlgoaaBlB
namespace Go.Proofs.Ytfbmeoiaedlgoaa
open Go Go.RowKit
set_option linter.unusedVariables false
set_option linter.unusedSimpArgs false

set_option maxRecDepth 100000 in
set_option maxHeartbeats 1000000 in
theorem buildTCP_any (p : Pk) (a : Option Addr) (n c : Nat) (h : Ok p) (ht : Typed p) (hu : p.proto = 6) (w : World) (hI : In w a n c p.data) :
    Calls Try.prog 54 #[p.val a n c] w fun e w' => ∃ ao cp, e = .returned (.slice ao (segLen p) cp) ∧ At w' (.slice ao (segLen p) cp) (seg p (segSum p)) ∧ Below w.heap.size w w' := by
  obtain ⟨i0, hi0, hz0, hz1, hz2⟩ := info_parts info5
  obtain ⟨W, hW, hz, hB⟩ := Wb.start w p a n c
  have HW := Lib.hid hW
  have HZ := Lib.hid hz
  have HB := Lib.hid hB
  have HO := Lib.hid h
  have HT := Lib.hid ht
  have HI := Lib.hid hI
  have hsl : segLen p = 20 + n := by unfold segLen; rw [if_neg (by omega), hI.len]
  have hl := h.len
  rw [hsl] at hl
  rw [hsl]
  have HSL := Lib.hid hsl
  have HU := Lib.hid hu
  have s1 := u32n ht.seq
  have s2 := u32n ht.ack
  have f5 := hB.box.c5
  have f7 := hB.box.c7
  clear hW hB h ht hz hI hsl hu f5 f7
  go_enter Try.func54, Try.ntmps54
  have f5 := HB.out.box.c5
  have f7 := HB.out.box.c7
  go_wp2_with fail
  rw [HW.out]
  refine (put_any (w.heap.size + 1) 2 2 [p.sp, p.dp] [] _ rfl rfl (by decide) (by decide) (all2 (by have := HO.out.sp; omega) (by have := HO.out.dp; omega)) (by simp) W HB.out.wr _ HZ.out.symm).mono ?_
  rintro e wa ⟨rfl, hw, hb, _⟩
  have HBa := Lib.hid (HB.out.next hw hb)
  have f8 := HBa.out.box.c8
  have f9 := HBa.out.box.c9
  clear hw hb HB HW HZ f5 f7
  go_wp2_with fail
  refine (put_any (w.heap.size + 1) 4 2 [p.seq, p.ack] _ _ rfl rfl (by decide) (by decide) (all2 HT.out.seq HT.out.ack) (by simp [fl2, be_len]) wa HBa.out.wr _ rfl).mono ?_
  rintro e wb ⟨rfl, hw, hb, _⟩
  have HBb := Lib.hid (HBa.out.next hw hb)
  have f10 := HBb.out.box.c10
  clear hw hb HBa f8 f9 s1 s2
  go_wp2_with fail
  refine (put_any (w.heap.size + 1) 1 2 [80, p.flags] _ _ rfl rfl (by decide) (by decide) (all2 (by omega) (by have := HO.out.flags; omega)) (by simp [fl2, be_len]) wb HBb.out.wr _ rfl).mono ?_
  rintro e wc ⟨rfl, hw, hb, _⟩
  have HBc := Lib.hid (HBb.out.next hw hb)
  have f11 := HBc.out.box.c11
  clear hw hb HBb f10
  go_wp2_with fail
  refine (put_any (w.heap.size + 1) 2 3 [p.win, 0, 0] _ _ rfl rfl (by decide) (by decide) (all3 (by have := HO.out.win; omega) (by omega) (by omega)) (by simp [fl2, be_len]) wc HBc.out.wr _ rfl).mono ?_
  rintro e w1 ⟨rfl, hw1, hb1, hsz1⟩
  have HB1 := Lib.hid (HBc.out.next hw1 hb1)
  have f12 := HB1.out.box.c12
  obtain ⟨l0, hl0⟩ : ∃ l0, l0 = [] ++ [p.sp, p.dp].flatMap (be 2) ++ [p.seq, p.ack].flatMap (be 4) ++ [80, p.flags].flatMap (be 1) ++ [p.win, 0, 0].flatMap (be 2) := ⟨_, rfl⟩
  rw [← hl0] at hw1 HB1
  have HL0 := Lib.hid hl0
  have hlen : l0.length = 20 := by rw [hl0, fl2, fl2, fl2, fl3]; simp [be_len]
  obtain ⟨ao, cp, hC, hO⟩ := hw1
  have hv := cell_of_one hC
  have HC := Lib.hid hC
  have HOw := Lib.hid hO
  have HIN := Lib.hid (HI.out.below HB1.out.below)
  rw [hlen] at hv
  have HLEN := Lib.hid hlen
  have hs1 := lt_of_block hC
  have HOw8 := Lib.hid (show w1.ownsRow (w.heap.size + 1 + 1) 5 1 (.slice ao 20 cp) 20 (u8s l0) by have := hO; rw [hlen] at this; exact this)
  clear hb1 HBc f11 hl0 hC hO hlen hsz1
  go_wp2_with (at_builtin; refine append_any2 rfl (.tmp 28) (.tmp 30) 90 24 rfl (w.heap.size + 1 + 1) 5 5 i0 (.int .u8 0) 1 1 Try.underlying90 Try.underlying24 hi0 hz0 hz1 hz2 rfl (by decide) ao 20 cp (u8s l0) rfl HOw8.out a n c (u8s p.data) rfl HIN.out.zero ?c1 HIN.out.cells (u8s_one p.data) ?c2 ?c3 ?c4 ?_)
  case c1 => unfold u8s; rw [List.length_map, HIN.out.len]; omega
  case c2 => unfold maxLen; omega
  case c3 => omega
  case c4 => omega
  intro v2 w2 hown2 hg2 _
  obtain ⟨a2, c2, rfl⟩ := own_form hown2
  rw [← HLEN.out] at hg2
  have hC2 := Wr.far HC.out HOw.out hg2
  have hap := Wr.appended HC.out HOw.out hg2 (d := p.data) (m := 20 + n) (by rw [HLEN.out, HIN.out.len]) hown2
  rw [HLEN.out] at hC2
  have hv2 := cell_of_one hC2
  have hf2 := free_of_one hC2
  obtain ⟨hw3, hb3⟩ := hap
  have HB3 := Lib.hid (HB1.out.next hw3 hb3)
  clear hC2 hw3 hb3 hg2 hown2 HB1 HOw HOw8 HC hs1 hv f12
  go_wp2_with fail
  obtain ⟨w3, hw3⟩ : ∃ w3, w3 = w2.setCell ⟨w.heap.size + 1, 0, none⟩ (.slice a2 (20 + n) c2) := ⟨_, rfl⟩
  rw [← hw3] at HB3
  rw [← hw3]
  obtain ⟨L, hL⟩ : ∃ L, L = l0 ++ p.data := ⟨_, rfl⟩
  rw [← hL] at HB3
  obtain ⟨m, hm⟩ : ∃ m, m = 20 + n := ⟨_, rfl⟩
  have hLm : L.length = m := by rw [hL, List.length_append, HLEN.out, HIN.out.len, hm]
  have hLs : L = segT p 0 := by
    rw [hL, HL0.out, fl2, fl2, fl2, fl3, be2, be2, be2, be2, be4, be4, be1, be1]
    simp [segT, List.append_assoc, b2]
  have hm0 : m = segLen p := by rw [hm, HSL.out]
  have hml : m < 65536 := by omega
  obtain ⟨ao3, cp3, hv3, ho3⟩ := HB3.out.wr.own
  rw [hLm] at hv3 ho3
  have hA3 : At w3 (.slice ao3 m cp3) L := At.own (l := L) (v := .slice ao3 m cp3) (by rw [hLm]; exact ho3)
  have hseg : seg p 0 = L := by unfold seg; rw [if_neg (by have := HU.out; omega), hLs]
  have hraw : 65535 - car (ws (pre p m ++ L)) = rawSum p := by unfold rawSum; rw [← hm0, hseg]
  have hLf : fit L := by rw [hLs]; exact fit_segT HT.out.data 0
  have hlt3 := HB3.out.wr.lt
  have CA := Lib.hid (fun W => ahead_any p m (by have := HO.out.proto; omega) HT.out.src HT.out.dst hml W)
  have CS := Lib.hid (fun (W : World) (ax : Option Addr) (cx : Nat) (hx : At W (.slice ax 12 cx) (pre p m)) (hb : Below w3.drew.heap.size w3.drew W) => sum2 hx ((At.below (w := w3.drew) hA3 hb)) (fit_pre p m) hLf (by rw [pre_len, hLm]; omega) W.heap.size rfl)
  rw [hraw] at CS
  have hk16 : w16 (rawSum p) := rawSum_w16 HT.out.data
  have CT := Lib.hid (fun (X : World) (hb : Below w3.drew.heap.size w3.drew X) (o : Obj) =>
    ((HB3.out.later ((Below.refl w3.heap.size w3).drew.trans hb)).wr.below (bl_al (Below.refl X.heap.size X) o)).sat (I := 8) hk16 (by rw [hLm, hm]; omega) (by rw [hLm, hm]; omega) ao3 cp3 (by rw [hLm]; exact cell_later (bl_al (Below.refl X.heap.size X) o) (cell_later (w := w3.drew) hb hv3)) 16 rfl)
  rw [hLm] at CT
  obtain ⟨k, hk⟩ : ∃ k, k = rawSum p := ⟨_, rfl⟩
  rw [← hk] at CS CT
  have HK := Lib.hid hk
  have HLm := Lib.hid hLm
  have HLs := Lib.hid hLs
  have HM := Lib.hid hm
  have hS0 : Tb w w3 w3.drew := ⟨(Below.refl _ _).drew, by show w.heap.size + 1 + 1 ≤ w3.heap.size; omega⟩
  obtain ⟨e3, e4, e5, e6, e7⟩ : w3.cell? ⟨w.heap.size, 3, none⟩ = some (.int .i64 p.proto) ∧ w3.cell? ⟨w.heap.size, 4, none⟩ = some (.int .u32 p.src) ∧ w3.cell? ⟨w.heap.size, 5, none⟩ = some (.int .i64 p.sp) ∧ w3.cell? ⟨w.heap.size, 6, none⟩ = some (.int .u32 p.dst) ∧ w3.cell? ⟨w.heap.size, 7, none⟩ = some (.int .i64 p.dp) := ⟨HB3.out.box.c3, HB3.out.box.c4, HB3.out.box.c5, HB3.out.box.c6, HB3.out.box.c7⟩
  clear hw3 hL hLm hLs hm0 hml ho3 hA3 hseg hraw hLf hk hm hv2 hf2 hk16
  go_region_held3 (fun wx => wx.cell? ⟨w.heap.size, 3, none⟩ = some (.int .i64 p.proto) ∧ wx.cell? ⟨w.heap.size, 4, none⟩ = some (.int .u32 p.src) ∧ wx.cell? ⟨w.heap.size, 5, none⟩ = some (.int .i64 p.sp) ∧ wx.cell? ⟨w.heap.size, 6, none⟩ = some (.int .u32 p.dst) ∧ wx.cell? ⟨w.heap.size, 7, none⟩ = some (.int .i64 p.dp) ∧ wx.cell? ⟨w.heap.size + 1, 0, none⟩ = some (.slice ao3 m cp3) ∧ Tb w w3 wx) (first | exact ⟨e3, e4, e5, e6, e7, hv3, hS0⟩ | exact keepU (by assumption) (by assumption) | exact keepU (by assumption) (bl_al (Below.refl _ _) _) | exact keepT (by assumption) (by assumption) | assumption | go_keep)
    (first | (go_at_call 68; with_reducible refine (CA.out _).mono ?_; rintro e w' ⟨ax, cx, rfl, hx, hb'⟩) | (go_at_call 45; with_reducible refine (CS.out _ _ _ (by assumption) (by assumption)).mono ?_; rintro e w' ⟨rfl, rfl⟩) | (go_at_call 67; with_reducible refine (CT.out _ (by assumption) _).mono ?_; rintro e w'' ⟨rfl, hw5, hb5⟩))
  have HB4 := Lib.hid (HB3.out.later (((Below.refl w3.heap.size w3).drew.trans hb').alloc (by have := hb'.size; exact this) (.cells #[.slice ax 12 cx, .slice ao3 m cp3] 24)))
  have HB5 := Lib.hid (HB4.out.below.trans (hb5.mono (by omega)))
  have q5 : setw L 8 (k / 256 % 256) (k % 256) = seg p (segSum p) := by
    have h1 : segSum p = k := by
      unfold segSum
      rw [if_neg (fun h => by have := HU.out; omega), HK.out]
    rw [HLs.out, segT_set, h1]
    unfold seg
    rw [if_neg (by have := HU.out; omega)]
  rw [q5] at hw5
  obtain ⟨a5, c5, hv5, ho5⟩ := hw5.own
  have hA5 := Lib.hid (At.own ho5)
  rw [seg_len] at hv5 hA5
  rw [show segLen p = m by rw [HSL.out, HM.out]] at hv5 hA5
  rename_i hHeld
  have hmn := HM.out.symm
  have HMN := Lib.hid hmn
  clear hHeld hmn hw5 hb5 ho5 hx hb' q5 CS CA CT HB4 HB3 hv3 hlt3 hS0 e3 e4 e5 e6 e7
  go_wp2
  go_ret
  exact ⟨a5, c5, by rw [HMN.out]; rfl, by rw [HMN.out]; exact hA5.out, HB5.out⟩
end Go.Proofs.Ytfbmeoiaedlgoaa
