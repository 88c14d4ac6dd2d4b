/- Contract of RewriteBack: true. Conditions: the row came in, of at most 2^62 bytes; the addresses are of 32 bits. -/
import Derived.Test.YtfgajgdbojapcaaLikes
import Derived.Test.YtfgajgdbojapcaaOpen4
namespace Go.Proofs.Ytfgajgdbojapcaa
open Go Go.RowKit
set_option linter.unusedVariables false
set_option linter.unusedSimpArgs false

theorem same99 (w : World) : (binOp .eql 32 (errno 9) (.iface 52 (.int .i64 9))).run Try.prog w = .ok (.bool true) w := by kernel_rfl
theorem srcY {p : Pk} (h : Ok p) (t : Typed p) {A P : Int} (hA : 0 ≤ A ∧ A < 4294967296) (hP : portOk P) (a : Option Addr) (n c : Nat) (w : World) (hI : In w a n c (bts p)) : Calls Try.prog 30 #[.slice a n c, .int .u32 A, .int .i64 P] w (Rwn w (bts (reS p A P)) .nilIface) := by
  have hs := Is.of h t (b := bts p) rfl
  exact source_t (.inl ⟨hs.1, hP, by rw [hs.2], rfl, rfl⟩) hA a n c w hI (by have := hs.1.size; have := hI.len; omega)
theorem dstY {p : Pk} (h : Ok p) (t : Typed p) {A P : Int} (hA : 0 ≤ A ∧ A < 4294967296) (hP : portOk P) (a : Option Addr) (n c : Nat) (w : World) (hI : In w a n c (bts p)) : Calls Try.prog 31 #[.slice a n c, .int .u32 A, .int .i64 P] w (Rwn w (bts (reD p A P)) .nilIface) := by
  have hs := Is.of h t (b := bts p) rfl
  exact dest_t (.inl ⟨hs.1, hP, by rw [hs.2], rfl, rfl⟩) hA a n c w hI (by have := hs.1.size; have := hI.len; omega)
theorem bothY {p g : Pk} (h : Ok p) (t : Typed p) (hf : FlowOk g) (hp : g.proto = p.proto) (h1 : 0 ≤ g.src ∧ g.src < 4294967296) (h2 : 0 ≤ g.dst ∧ g.dst < 4294967296) (a : Option Addr) (n c : Nat) (w : World) (hI : In w a n c (bts p)) : Calls Try.prog 32 #[.slice a n c, g.flow] w (Rwn w (bts (p.re g)) .nilIface) := by
  have hs := Is.of h t (b := bts p) rfl
  exact both_t (.inl ⟨hs.1, ⟨hf, by rw [hs.2]; exact hp⟩, by rw [hs.2], rfl, rfl⟩) h1 h2 a n c w hI (by have := hs.1.size; have := hI.len; omega)
theorem like_reS {p : Pk} (h : Ok p) (t : Typed p) {A P : Int} (hA : 0 ≤ A ∧ A < 4294967296) (hP : portOk P) : LikeIs (bts p) (bts (reS p A P)) true ∧ LikeIs (bts (reS p A P)) (bts p) true := by
  have h1 := Is.of h t (b := bts p) rfl
  have h2 := Is.of (reS_ok h hP) (reS_typed (P := P) t hA) (b := bts (reS p A P)) rfl
  constructor
  · refine ⟨fun _ => ⟨h1.1, h2.1, by rw [h1.2, h2.2]; rfl, ?_⟩, fun _ => rfl⟩
    rw [h1.2, h2.2]
    exact sameP_self (reS p A P)
  · refine ⟨fun _ => ⟨h2.1, h1.1, by rw [h1.2, h2.2]; rfl, ?_⟩, fun _ => rfl⟩
    rw [h1.2, h2.2]
    exact sameP_self p

set_option maxRecDepth 100000 in
set_option maxHeartbeats 1000000 in
theorem back_no (a : Option Addr) (n c : Nat) (l : List Int) (A P : Int) (g : Pk) (w : World) (hI : In w a n c l) (hn : n ≤ 4611686018427387904) (hi : ¬ Is l) :
    Calls Try.prog 11 #[xval a n c A P g] w fun e w' => e = .returned (.bool true) ∧ Below w.heap.size w w' := by
  obtain ⟨W, hW, hX⟩ := XBox.start w a n c A P g
  have HW := Lib.hid hW
  have HX := Lib.hid hX
  have HI := Lib.hid hI
  have hS : Says l zeroP (errno 2) 2 false := .inr ⟨hi, rfl, rfl, rfl, rfl⟩
  have C := Lib.hid (fun W (h : In W a n c l) => refParse_t hS a n c W h hn)
  have D := Lib.hid (fun W (h : In W a n c l) => like_any a a n c n c l l W h h hn hn false ⟨fun e => (by cases e), fun e => absurd e.1 hi⟩)
  clear hI hn hi hW hX hS
  go_enter Try.func11, Try.ntmps11
  go_wp2_with fail
  rw [HW.out]
  refine (alive4_any W).mono ?_
  rintro e w1 ⟨rfl, hb⟩
  have HX1 := Lib.hid (HX.out.next hb)
  have HI1 := Lib.hid (HI.out.below HX1.out.below)
  obtain ⟨x0, x1, x2, x3, x4, x5, x6, x7⟩ := HX1.out.here
  clear hb HX HW
  go_wp2_with fail
  refine (C.out w1 HI1.out).mono ?_
  rintro e w2 ⟨ao, k, cp, rfl, hk, hown, hb⟩
  have HB2 := Lib.hid (bl_al (bl_tr HX1.out.below hb) (zeroP.obj ao k cp))
  have HI2 := Lib.hid (HI.out.below HB2.out)
  clear hb hk hown x0 x1 x2 x3 x4 x5 x6 x7
  go_wp2_with fail
  refine (D.out _ HI2.out).mono ?_
  rintro e w3 ⟨rfl, hb⟩
  have HB3 := Lib.hid (bl_tr HB2.out hb)
  clear hb
  go_wp2
  go_ret
  exact ⟨rfl, HB3.out⟩
/-- The box of the Rewritten and the packet's. -/
structure Bk (w : World) (a : Option Addr) (n c : Nat) (A P : Int) (g : Pk) (q : Nat) (p : Pk) (ao : Option Addr) (k cp : Nat) (wx : World) : Prop where
  box : XBox w a n c A P g wx
  pk : PkAt wx q p ao k cp
theorem Bk.next {w : World} {a : Option Addr} {n c : Nat} {A P : Int} {g : Pk} {q : Nat} {p : Pk} {ao : Option Addr} {k cp : Nat} {wx wy : World} (h : Bk w a n c A P g q p ao k cp wx) (hb : Below wx.heap.size wx wy) : Bk w a n c A P g q p ao k cp wy := ⟨h.box.next hb, h.pk.below hb h.pk.lt⟩

set_option maxRecDepth 100000 in
set_option maxHeartbeats 1000000 in
theorem back_port (a : Option Addr) (n c : Nat) (l : List Int) (A P : Int) (g : Pk) (w : World) (hI : In w a n c l) (hA : 0 ≤ A ∧ A < 4294967296) (hn : n ≤ 4611686018427387904) (hi : Is l) (hP : ¬ portOk P) :
    Calls Try.prog 11 #[xval a n c A P g] w fun e w' => e = .returned (.bool true) ∧ Below w.heap.size w w' := by
  obtain ⟨W, hW, hX⟩ := XBox.start w a n c A P g
  have HW := Lib.hid hW
  have HX := Lib.hid hX
  have HI := Lib.hid hI
  have hS : Says l (dec l) .nilIface 0 true := .inl ⟨hi, rfl, rfl, rfl, rfl⟩
  have C := Lib.hid (fun W (h : In W a n c l) => refParse_t hS a n c W h hn)
  have D := Lib.hid (fun W (h : In W a n c l) => source_t (A := A) (P := P) (l := l) (.inr (.inl ⟨hi, hP, rfl, rfl, rfl⟩)) hA a n c W h hn)
  have s9 := same99
  obtain ⟨p, hp⟩ : ∃ p, p = dec l := ⟨_, rfl⟩
  rw [← hp] at C
  have hc : P < 0 ∨ (0 ≤ P ∧ 65535 < P) := by unfold portOk at hP; omega
  clear hI hA hn hi hW hX hS hp hP
  rcases hc with h1 | ⟨h0, h1⟩
  all_goals
    go_enter Try.func11, Try.ntmps11
    go_wp2_with fail
    rw [HW.out]
    refine (alive4_any W).mono ?_
    rintro e w1 ⟨rfl, hb⟩
    have HX1 := Lib.hid (HX.out.next hb)
    have HI1 := Lib.hid (HI.out.below HX1.out.below)
    obtain ⟨x0, x1, x2, x3, x4, x5, x6, x7⟩ := HX1.out.here
    clear hb HX HW
    go_wp2_with fail
    refine (C.out w1 HI1.out).mono ?_
    rintro e w2 ⟨ao, k, cp, rfl, hk, hown, hb⟩
    obtain ⟨X, hX⟩ : ∃ X, X = w2.alloc (p.obj ao k cp) := ⟨_, rfl⟩
    have HX2 : Hid (XBox w a n c A P g X) := Lib.hid (by rw [hX]; exact (HX1.out.next hb).next (bl_al (Below.refl _ _) _))
    have HI2 := Lib.hid (HI.out.below HX2.out.below)
    have HXE := Lib.hid hX
    clear hb hk hown hX x0 x1 x2 x3 x4 x5 x6 x7
    go_upto_region 5 with fail
    rw [← HXE.out]
    obtain ⟨x0, x1, x2, x3, x4, x5, x6, x7⟩ := HX2.out.here
    go_wp2_with fail
    refine (D.out X HI2.out).mono ?_
    rintro e w3 ⟨ao, k, cp, rfl, hk, hown, hb⟩
    have HX3 := Lib.hid (HX2.out.next hb)
    clear hb hk hown x0 x1 x2 x3 x4 x5 x6 x7
    obtain ⟨x0, x1, x2, x3, x4, x5, x6, x7⟩ := HX3.out.here
    go_wp2
    go_ret
    exact ⟨rfl, HX3.out.below⟩

set_option maxRecDepth 100000 in
set_option maxHeartbeats 2000000 in
theorem back_yes (a : Option Addr) (n c : Nat) (l : List Int) (A P : Int) (g : Pk) (w : World) (hI : In w a n c l) (hA : 0 ≤ A ∧ A < 4294967296) (hn : n ≤ 4611686018427387904) (hi : Is l) (hP : portOk P) :
    Calls Try.prog 11 #[xval a n c A P g] w fun e w' => e = .returned (.bool true) ∧ Below w.heap.size w w' := by
  obtain ⟨W, hW, hX⟩ := XBox.start w a n c A P g
  have HW := Lib.hid hW
  have HX := Lib.hid hX
  have hS : Says l (dec l) .nilIface 0 true := .inl ⟨hi, rfl, rfl, rfl, rfl⟩
  have C := Lib.hid (fun W (h : In W a n c l) => refParse_t hS a n c W h hn)
  have t := dec_typed hI.fit
  have el := hi.2
  obtain ⟨p, hp⟩ : ∃ p, p = dec l := ⟨_, rfl⟩
  have ok : Ok p := by rw [hp]; exact hi.1
  rw [← hp] at C t el
  rw [← el] at hI C
  have hps : portOk p.sp := ok.sp
  have HI := Lib.hid hI
  have hln : n = 20 + segLen p := by rw [← hI.len, bts_len]
  have okS : Ok (reS p A P) := reS_ok ok hP
  have tyS : Typed (reS p A P) := reS_typed t hA
  have okD : Ok (reD p p.src p.sp) := reD_ok ok hps
  have tyD : Typed (reD p p.src p.sp) := reD_typed t t.src
  have eS : reS (reS p A P) p.src p.sp = p := rfl
  have eD : reD (reS p A P) p.src p.sp = p.re ⟨0, 0, 0, p.proto, A, P, p.src, p.sp, 0, 0, 0, 0, []⟩ := rfl
  have eT : reS (reD p p.src p.sp) A P = p.re ⟨0, 0, 0, p.proto, A, P, p.src, p.sp, 0, 0, 0, 0, []⟩ := rfl
  have C1 := Lib.hid (fun W (h : In W a n c (bts p)) => srcY ok t hA hP a n c W h)
  have C2 := Lib.hid (fun W (x : Option Addr) (k d : Nat) (h : In W x k d (bts (reS p A P))) => srcY okS tyS t.src hps x k d W h)
  have lk := like_reS ok t hA hP
  have L1 := Lib.hid (fun W (x : Option Addr) (k d : Nat) (h1 : In W a n c (bts p)) (h2 : In W x k d (bts (reS p A P))) => like_any a x n c k d _ _ W h1 h2 hn (by have := h2.len; rw [bts_len] at this; have := okS.len; omega) true lk.1)
  have L2 := Lib.hid (fun W (x : Option Addr) (k d : Nat) (h1 : In W a n c (bts p)) (h2 : In W x k d (bts (reS p A P))) => like_any x a k d n c _ _ W h2 h1 (by have := h2.len; rw [bts_len] at this; have := okS.len; omega) hn true lk.2)
  have C3 := Lib.hid (fun W (x : Option Addr) (k d : Nat) (h : In W x k d (bts (reS p A P))) => dstY okS tyS t.src hps x k d W h)
  have C4 := Lib.hid (fun W (h : In W a n c (bts p)) => dstY ok t t.src hps a n c W h)
  have C5 := Lib.hid (fun W (x : Option Addr) (k d : Nat) (h : In W x k d (bts (reD p p.src p.sp))) => srcY okD tyD hA hP x k d W h)
  have C6 := Lib.hid (fun W (h : In W a n c (bts p)) => bothY (g := ⟨0, 0, 0, p.proto, A, P, p.src, p.sp, 0, 0, 0, 0, []⟩) ok t ⟨ok.proto, hP, hps⟩ rfl hA t.src a n c W h)
  rw [eS] at C2
  rw [eD] at C3
  rw [eT] at C5
  have FS := Lib.hid (fit_bts tyS.data)
  have FD := Lib.hid (fit_bts tyD.data)
  have FP := Lib.hid (fit_bts t.data)
  have FW := Lib.hid (fit_bts (re_typed (f := ⟨0, 0, 0, p.proto, A, P, p.src, p.sp, 0, 0, 0, 0, []⟩) t hA t.src).data)
  obtain ⟨bS, hbS⟩ : ∃ b, b = bts (reS p A P) := ⟨_, rfl⟩
  obtain ⟨bD, hbD⟩ : ∃ b, b = bts (reD p p.src p.sp) := ⟨_, rfl⟩
  obtain ⟨bP, hbP⟩ : ∃ b, b = bts p := ⟨_, rfl⟩
  obtain ⟨bW, hbW⟩ : ∃ b, b = bts (p.re ⟨0, 0, 0, p.proto, A, P, p.src, p.sp, 0, 0, 0, 0, []⟩) := ⟨_, rfl⟩
  rw [← hbS] at C1 C2 L1 L2 C3 FS
  rw [← hbD] at C4 C5 FD
  rw [← hbP] at C C1 C2 L1 L2 C4 C6 FP HI
  rw [← hbW] at C3 C5 C6 FW
  clear hI hA hn hi hW hX hS hp hP t el ok hps hln okS tyS okD tyD eS eD eT lk hbS hbD hbP hbW
  go_enter Try.func11, Try.ntmps11
  go_wp2_with fail
  rw [HW.out]
  refine (alive4_any W).mono ?_
  rintro e w1 ⟨rfl, hb⟩
  have HX1 := Lib.hid (HX.out.next hb)
  have HI1 := Lib.hid (HI.out.below HX1.out.below)
  obtain ⟨x0, x1, x2, x3, x4, x5, x6, x7⟩ := HX1.out.here
  clear hb HX HW
  go_wp2_with fail
  refine (C.out w1 HI1.out).mono ?_
  rintro e w2 ⟨ao, k, cp, rfl, hk, hown, hb⟩
  obtain ⟨q, hq⟩ : ∃ q, q = w2.heap.size := ⟨_, rfl⟩
  obtain ⟨X, hX⟩ : ∃ X, X = w2.alloc (p.obj ao k cp) := ⟨_, rfl⟩
  have HX2 : Hid (Bk w a n c A P g q p ao k cp X) := Lib.hid ⟨by rw [hX]; exact (HX1.out.next hb).next (bl_al (Below.refl _ _) _), by rw [hX, hq]; exact PkAt.new _ _ _ _ _⟩
  have HI2 := Lib.hid (HI.out.below HX2.out.box.below)
  have HXE := Lib.hid hX
  have HQE := Lib.hid hq
  clear hb hk hown hX hq x0 x1 x2 x3 x4 x5 x6 x7 HX1 HI1 C
  go_upto_region 5 with fail
  rw [← HXE.out, ← HQE.out]
  clear HXE HQE
  obtain ⟨x0, x1, x2, x3, x4, x5, x6, x7⟩ := HX2.out.box.here
  go_wp2_with fail
  refine (C1.out X HI2.out).mono ?_
  rintro e w3 ⟨a3, k3, c3, rfl, hk, hown, hb⟩
  have HX3 := Lib.hid (HX2.out.next hb)
  have HI3 := Lib.hid (HI.out.below HX3.out.box.below)
  have HS3 := Lib.hid (own_row hown hk.symm FS.out)
  clear hb hk hown x0 x1 x2 x3 x4 x5 x6 x7 HX2 HI2 C1
  obtain ⟨y0, y1, y2, y3, y4, y5, y6, y7, y8, y9, y10, y11, y12⟩ := HX3.out.pk
  go_wp2_with fail
  refine (C2.out w3 a3 k3 c3 HS3.out).mono ?_
  rintro e w4 ⟨a4, k4, c4, rfl, hk, hown, hb⟩
  have HX4 := Lib.hid (HX3.out.next hb)
  have HI4 := Lib.hid (HI.out.below HX4.out.box.below)
  have HS4 := Lib.hid (HS3.out.below hb)
  have hd4 := own_row hown hk.symm FP.out
  have sA := str_of hd4.here hd4.len
  have sB := str_of HI4.out.here HI4.out.len
  obtain ⟨s, hs⟩ : ∃ s, s = strOfNums bP := ⟨_, rfl⟩
  rw [← hs] at sA sB
  have sn : (s.toList != s.toList) = false := by simp
  clear hb hk hown hd4 hs y0 y1 y2 y3 y4 y5 y6 y7 y8 y9 y10 y11 y12 HX3 HI3 HS3 C2
  go_wp2_with fail
  refine (L1.out w4 a3 k3 c3 HI4.out HS4.out).mono ?_
  rintro e w5 ⟨rfl, hb⟩
  have HX5 := Lib.hid (HX4.out.next hb)
  have HI5 := Lib.hid (HI.out.below HX5.out.box.below)
  have HS5 := Lib.hid (HS4.out.below hb)
  clear hb HX4 HI4 HS4 sA sB sn
  go_wp2_with fail
  refine (L2.out w5 a3 k3 c3 HI5.out HS5.out).mono ?_
  rintro e w6 ⟨rfl, hb⟩
  have HX6 := Lib.hid (HX5.out.next hb)
  have HI6 := Lib.hid (HI.out.below HX6.out.box.below)
  have HS6 := Lib.hid (HS5.out.below hb)
  clear hb HX5 HI5 HS5
  obtain ⟨y0, y1, y2, y3, y4, y5, y6, y7, y8, y9, y10, y11, y12⟩ := HX6.out.pk
  go_wp2_with fail
  refine (C3.out w6 a3 k3 c3 HS6.out).mono ?_
  rintro e w7 ⟨a7, k7, c7, rfl, hk, hown, hb⟩
  have HX7 := Lib.hid (HX6.out.next hb)
  have HI7 := Lib.hid (HI.out.below HX7.out.box.below)
  have HR7 := Lib.hid (own_row hown hk.symm FW.out)
  clear hb hk hown y0 y1 y2 y3 y4 y5 y6 y7 y8 y9 y10 y11 y12 HX6 HI6 HS6
  obtain ⟨y0, y1, y2, y3, y4, y5, y6, y7, y8, y9, y10, y11, y12⟩ := HX7.out.pk
  go_wp2_with fail
  refine (C4.out w7 HI7.out).mono ?_
  rintro e w8 ⟨a8, k8, c8, rfl, hk, hown, hb⟩
  have HX8 := Lib.hid (HX7.out.next hb)
  have HI8 := Lib.hid (HI.out.below HX8.out.box.below)
  have HR8 := Lib.hid (HR7.out.below hb)
  have HD8 := Lib.hid (own_row hown hk.symm FD.out)
  clear hb hk hown y0 y1 y2 y3 y4 y5 y6 y7 y8 y9 y10 y11 y12 HX7 HI7 HR7
  obtain ⟨x0, x1, x2, x3, x4, x5, x6, x7⟩ := HX8.out.box.here
  go_wp2_with fail
  refine (C5.out w8 a8 k8 c8 HD8.out).mono ?_
  rintro e w9 ⟨a9, k9, c9, rfl, hk, hown, hb⟩
  have HX9 := Lib.hid (HX8.out.next hb)
  have HI9 := Lib.hid (HI.out.below HX9.out.box.below)
  have HR9 := Lib.hid (HR8.out.below hb)
  have HT9 := Lib.hid (own_row hown hk.symm FW.out)
  clear hb hk hown x0 x1 x2 x3 x4 x5 x6 x7 HX8 HI8 HR8 HD8
  obtain ⟨x0, x1, x2, x3, x4, x5, x6, x7⟩ := HX9.out.box.here
  obtain ⟨y0, y1, y2, y3, y4, y5, y6, y7, y8, y9, y10, y11, y12⟩ := HX9.out.pk
  go_wp2_with fail
  refine (C6.out w9 HI9.out).mono ?_
  rintro e w10 ⟨a10, k10, c10, rfl, hk, hown, hb⟩
  have HX10 := Lib.hid (HX9.out.next hb)
  have hr := HR9.out.below hb
  have ht := HT9.out.below hb
  have hu := own_row hown hk.symm FW.out
  have sA := str_of hr.here hr.len
  have sB := str_of ht.here ht.len
  have sC := str_of hu.here hu.len
  obtain ⟨s, hs⟩ : ∃ s, s = strOfNums bW := ⟨_, rfl⟩
  rw [← hs] at sA sB sC
  have sn : (s.toList == s.toList) = true := by simp
  clear hb hk hown hr ht hu hs x0 x1 x2 x3 x4 x5 x6 x7 y0 y1 y2 y3 y4 y5 y6 y7 y8 y9 y10 y11 y12 HX9 HI9 HR9 HT9
  go_wp2
  go_ret
  exact ⟨rfl, HX10.out.box.below⟩
theorem backR_any (a : Option Addr) (n c : Nat) (l : List Int) (A P : Int) (g : Pk) (w : World) (hI : In w a n c l) (hA : 0 ≤ A ∧ A < 4294967296) (hn : n ≤ 4611686018427387904) :
    Calls Try.prog 11 #[xval a n c A P g] w fun e w' => e = .returned (.bool true) ∧ Below w.heap.size w w' := by
  by_cases hi : Is l
  · by_cases hP : portOk P
    · exact back_yes a n c l A P g w hI hA hn hi hP
    · exact back_port a n c l A P g w hI hA hn hi hP
  · exact back_no a n c l A P g w hI hn hi
end Go.Proofs.Ytfgajgdbojapcaa
