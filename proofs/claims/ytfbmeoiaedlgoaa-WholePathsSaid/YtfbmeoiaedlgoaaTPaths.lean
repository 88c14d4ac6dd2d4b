/- Contract of WholePaths: true. Conditions: the Data came in, the numbers are of their types. -/
import Derived.Test.YtfbmeoiaedlgoaaTPathB
import Derived.Test.YtfbmeoiaedlgoaaOpen5
namespace Go.Proofs.Ytfbmeoiaedlgoaa
open Go Go.RowKit
set_option linter.unusedVariables false
set_option linter.unusedSimpArgs false


/-- A flow in memory. -/
structure FvAt (w : World) (b : Nat) (pr s sp d dp : Int) : Prop where
  c0 : w.cell? ⟨b, 0, none⟩ = some (.int .i64 pr)
  c1 : w.cell? ⟨b, 1, none⟩ = some (.int .u32 s)
  c2 : w.cell? ⟨b, 2, none⟩ = some (.int .i64 sp)
  c3 : w.cell? ⟨b, 3, none⟩ = some (.int .u32 d)
  c4 : w.cell? ⟨b, 4, none⟩ = some (.int .i64 dp)
theorem FvAt.new (w : World) (pr s sp d dp : Int) : FvAt (w.alloc (fo pr s sp d dp)) w.heap.size pr s sp d dp := by
  constructor <;> simp [go_sem]
theorem FvAt.later {w w' : World} {b : Nat} {pr s sp d dp : Int} (h : FvAt w b pr s sp d dp) (hb : Below w.heap.size w w') : FvAt w' b pr s sp d dp :=
  ⟨cell_later hb h.c0, cell_later hb h.c1, cell_later hb h.c2, cell_later hb h.c3, cell_later hb h.c4⟩
abbrev FSt (wr : World) (b0 q : Nat) (p : Pk) (pr s sp d dp : Int) (wx : World) : Prop :=
  wx.cell? ⟨b0, 3, none⟩ = some (.int .i64 p.proto) ∧ wx.cell? ⟨b0, 4, none⟩ = some (.int .u32 p.src) ∧ wx.cell? ⟨b0, 5, none⟩ = some (.int .i64 p.sp) ∧ wx.cell? ⟨b0, 6, none⟩ = some (.int .u32 p.dst) ∧ wx.cell? ⟨b0, 7, none⟩ = some (.int .i64 p.dp) ∧ wx.cell? ⟨q, 0, none⟩ = some (.int .i64 pr) ∧ wx.cell? ⟨q, 1, none⟩ = some (.int .u32 s) ∧ wx.cell? ⟨q, 2, none⟩ = some (.int .i64 sp) ∧ wx.cell? ⟨q, 3, none⟩ = some (.int .u32 d) ∧ wx.cell? ⟨q, 4, none⟩ = some (.int .i64 dp) ∧ Below wr.heap.size wr wx
theorem fst_of {w wr wx : World} {q : Nat} {p : Pk} {pr s sp d fp : Int} {a : Option Addr} {n c : Nat} {V vp D dp A B : Int} (hQ : QBox w p a n c V vp D dp A B wr) (hF : FvAt wr q pr s sp d fp) (hb : Below wr.heap.size wr wx) : FSt wr w.heap.size q p pr s sp d fp wx := by
  have h1 := hQ.here.below hb hQ.here.lt
  have h2 := hF.later hb
  exact ⟨h1.c3, h1.c4, h1.c5, h1.c6, h1.c7, h2.c0, h2.c1, h2.c2, h2.c3, h2.c4, hb⟩
theorem fst_keep {w wr wx wy : World} {q : Nat} {p : Pk} {pr s sp d fp : Int} {a : Option Addr} {n c : Nat} {V vp D dp A B : Int} (hQ : QBox w p a n c V vp D dp A B wr) (hF : FvAt wr q pr s sp d fp) (h : FSt wr w.heap.size q p pr s sp d fp wx) (hb : Below wx.heap.size wx wy) : FSt wr w.heap.size q p pr s sp d fp wy := fst_of hQ hF (bl_tr h.2.2.2.2.2.2.2.2.2.2 hb)
theorem FSt.bel {wr wx : World} {b0 q : Nat} {p : Pk} {pr s sp d dp : Int} (h : FSt wr b0 q p pr s sp d dp wx) : Below wr.heap.size wr wx := h.2.2.2.2.2.2.2.2.2.2

set_option maxRecDepth 100000 in
set_option maxHeartbeats 2000000 in
theorem paths_main (p : Pk) (a : Option Addr) (n c : Nat) (V vp D dp A B : Int) (w : World) (hI : In w a n c p.data) (ht : Typed p) (hV : 0 ≤ V ∧ V < 4294967296) (hD : 0 ≤ D ∧ D < 4294967296) (hA : 0 ≤ A ∧ A < 4294967296) (hB : 0 ≤ B ∧ B < 4294967296) (hn : n ≤ 4611686018427387904) (hok : Ok p) (hle : segLen p ≤ 1460) (hvp : portOk vp) (hdp : portOk dp) :
    Calls Try.prog 8 #[pathval p a n c V vp D dp A B] w fun e w' => e = .returned (.bool true) ∧ Below w.heap.size w w' := by
  obtain ⟨W, hW, hX⟩ := QBox.start w p a n c V vp D dp A B
  have HW := Lib.hid hW
  have HX := Lib.hid hX
  have HI := Lib.hid hI
  have CB := Lib.hid (fun W (h : In W a n c p.data) => refBuild_ok p a n c hok ht W h)
  unfold RBuilt at CB
  have hs8 : 8 ≤ segLen p := by unfold segLen; split <;> omega
  have hl0 := bts_len p
  have hf0 := fit_bts ht.data
  -- the packets on the way
  have ok1 : Ok (reS p V vp) := reS_ok hok hvp
  have ty1 : Typed (reS p V vp) := reS_typed ht hV
  have ok2 : Ok (reD (reS p V vp) D dp) := reD_ok ok1 hdp
  have ty2 : Typed (reD (reS p V vp) D dp) := reD_typed ty1 hD
  have hfo : FlowOk (rv (reD (reS p V vp) D dp)) := ⟨hok.proto, hdp, hvp⟩
  have ok3 : Ok (p.re (rv (reD (reS p V vp) D dp))) := re_ok hok hfo
  have ty3 : Typed (p.re (rv (reD (reS p V vp) D dp))) := re_typed ht hD hV
  have ok4 := reS_ok (A := p.dst) ok3 hok.dp
  have ty4 := reS_typed (P := p.dp) ty3 ht.dst
  have ok5 := reD_ok (A := p.src) ok4 hok.sp
  have ty5 := reD_typed (P := p.sp) ty4 ht.src
  have l1 : (bts (reS p V vp)).length = 20 + segLen p := bts_len (reS p V vp)
  have l2 : (bts (reD (reS p V vp) D dp)).length = 20 + segLen p := bts_len (reD (reS p V vp) D dp)
  have l3 : (bts (p.re (rv (reD (reS p V vp) D dp)))).length = 20 + segLen p := bts_len (p.re (rv (reD (reS p V vp) D dp)))
  have l4 : (bts (reS (p.re (rv (reD (reS p V vp) D dp))) p.dst p.dp)).length = 20 + segLen p := bts_len (reS (p.re (rv (reD (reS p V vp) D dp))) p.dst p.dp)
  have l5 : (bts (reD (reS (p.re (rv (reD (reS p V vp) D dp))) p.dst p.dp) p.src p.sp)).length = 20 + segLen p := bts_len (reD (reS (p.re (rv (reD (reS p V vp) D dp))) p.dst p.dp) p.src p.sp)
  obtain ⟨N, hN⟩ : ∃ N, N = 20 + segLen p := ⟨_, rfl⟩
  rw [← hN] at CB hl0 l1 l2 l3 l4 l5
  have hN80 : N ≤ 1480 := by omega
  have is1 := (Is.of ok1 ty1 (b := bts (reS p V vp)) rfl)
  have is2 := (Is.of ok2 ty2 (b := bts (reD (reS p V vp) D dp)) rfl)
  have is5 := (Is.of ok5 ty5 (b := bts (reD (reS (p.re (rv (reD (reS p V vp) D dp))) p.dst p.dp) p.src p.sp)) rfl)
  have CS := Lib.hid (fun (W : World) (x : Option Addr) (k : Nat) (h : In W x N k (bts p)) => srcY hok ht hV hvp x N k W h)
  have CW := Lib.hid (fun (W : World) (x : Option Addr) (k : Nat) (h : In W x N k (bts (reS p V vp))) => wrap_t (.inl ⟨is1.1, by omega, rfl, rfl, rfl⟩) hA hB x N k W h (by omega))
  have hw : IsW (wrp A B (bts (reS p V vp))) := IsW.of hA hB is1.1 (by omega)
  have hwl : (wrp A B (bts (reS p V vp))).length = 20 + N := by rw [wrp_len, l1]
  have hfw : fit (wrp A B (bts (reS p V vp))) := fit_wrp (fit_bts ty1.data)
  obtain ⟨M, hM⟩ : ∃ M, M = 20 + N := ⟨_, rfl⟩
  rw [← hM] at hwl
  have CU := Lib.hid (fun (W : World) (x : Option Addr) (k : Nat) (h : In W x M k (wrp A B (bts (reS p V vp)))) => unwrap_t (l := wrp A B (bts (reS p V vp))) (S := A) (D := B) (R := bts (reS p V vp)) (.inl ⟨hw, (wrp_src _ _ hA).symm, (wrp_dst _ _ hB).symm, rfl, rfl, rfl, rfl⟩) x M k W h (by omega))
  have CP1 := Lib.hid (fun (W : World) (x : Option Addr) (k : Nat) (h : In W x M k (wrp A B (bts (reS p V vp)))) => packetOf_any (bb := false) (by simp; exact hw.not) x M k W h (by omega))
  have CD := Lib.hid (fun (W : World) (x : Option Addr) (k : Nat) (h : In W x N k (bts (reS p V vp))) => dstY ok1 ty1 hD hdp x N k W h)
  have CP2 := Lib.hid (fun (W : World) (x : Option Addr) (k : Nat) (h : In W x N k (bts (reD (reS p V vp) D dp))) => packetOf_any (bb := true) (by simp; exact is2.1) x N k W h (by omega))
  have CL := Lib.hid (fun (W : World) (x y : Option Addr) (k j : Nat) (h : In W x N k (bts p)) (h' : In W y N j (bts (reD (reS p V vp) D dp))) => like_any x y N k N j (bts p) (bts (reD (reS p V vp) D dp)) W h h' (by omega) (by omega) true (like_re hok ht ok2 ty2 rfl rfl))
  have CF2 : Hid (∀ (W : World) (x : Option Addr) (k : Nat), In W x N k (bts (reD (reS p V vp) D dp)) → Calls Try.prog 19 #[.slice x N k] W fun e w' => e = .returned (.tuple #[fv p.proto V vp D dp, .bool true]) ∧ Below W.heap.size W w') := Lib.hid (fun W x k h => flow_t (.inl ⟨is2.1, is2.2.symm, rfl, rfl, rfl⟩) x N k W h (by omega))
  have CR : Hid (∀ (W : World), Calls Try.prog 28 #[fv p.proto V vp D dp] W fun e w' => e = .returned (fv p.proto D dp V vp) ∧ Below W.heap.size W w') := Lib.hid (fun W => reverse_any p.proto V vp D dp W)
  have CO : Hid (∀ (W : World) (x : Option Addr) (k : Nat), In W x N k (bts p) → Calls Try.prog 27 #[.slice x N k, fv p.proto D dp V vp] W (Rwn W (bts (p.re (rv (reD (reS p V vp) D dp)))) .nilIface)) := Lib.hid (fun W x k h => bothY hok ht hfo rfl hD hV x N k W h)
  have CS4 := Lib.hid (fun (W : World) (x : Option Addr) (k : Nat) (h : In W x N k (bts (p.re (rv (reD (reS p V vp) D dp))))) => srcY ok3 ty3 ht.dst hok.dp x N k W h)
  have CD5 := Lib.hid (fun (W : World) (x : Option Addr) (k : Nat) (h : In W x N k (bts (reS (p.re (rv (reD (reS p V vp) D dp))) p.dst p.dp))) => dstY ok4 ty4 ht.src hok.sp x N k W h)
  have CF5 : Hid (∀ (W : World) (x : Option Addr) (k : Nat), In W x N k (bts (reD (reS (p.re (rv (reD (reS p V vp) D dp))) p.dst p.dp) p.src p.sp)) → Calls Try.prog 19 #[.slice x N k] W fun e w' => e = .returned (.tuple #[fv p.proto p.dst p.dp p.src p.sp, .bool true]) ∧ Below W.heap.size W w') := Lib.hid (fun W x k h => flow_t (.inl ⟨is5.1, is5.2.symm, rfl, rfl, rfl⟩) x N k W h (by omega))
  have CR5 : Hid (∀ (W : World), Calls Try.prog 28 #[fv p.proto p.src p.sp p.dst p.dp] W fun e w' => e = .returned (fv p.proto p.dst p.dp p.src p.sp) ∧ Below W.heap.size W w') := Lib.hid (fun W => reverse_any p.proto p.src p.sp p.dst p.dp W)
  have CL5 := Lib.hid (fun (W : World) (x y : Option Addr) (k j : Nat) (h : In W x N k (bts (reD (reS (p.re (rv (reD (reS p V vp) D dp))) p.dst p.dp) p.src p.sp))) (h' : In W y N j (bts p)) => like_any x y N k N j (bts (reD (reS (p.re (rv (reD (reS p V vp) D dp))) p.dst p.dp) p.src p.sp)) (bts p) W h h' (by omega) (by omega) true (like_re ok5 ty5 hok ht rfl rfl))
  have f1 := fit_bts ty1.data
  have f2 := fit_bts ty2.data
  have f3 := fit_bts ty3.data
  have f4 := fit_bts ty4.data
  have f5 := fit_bts ty5.data
  have q1 : ¬ ((1480 : Int) < (N : Int)) := by omega
  have q2 : ¬ (vp < 0) := by have := hvp.1; omega
  have q3 : ¬ (65535 < vp) := by have := hvp.2; omega
  have q4 : ¬ (dp < 0) := by have := hdp.1; omega
  have q5 : ¬ (65535 < dp) := by have := hdp.2; omega
  have tB : (B != B) = false := by simp
  clear hN hM is1 is2 is5 hs8
  obtain ⟨r5, hr5⟩ : ∃ r, r = bts (reD (reS (p.re (rv (reD (reS p V vp) D dp))) p.dst p.dp) p.src p.sp) := ⟨_, rfl⟩
  rw [← hr5] at CD5 CF5 CL5 l5 f5
  obtain ⟨r4, hr4⟩ : ∃ r, r = bts (reS (p.re (rv (reD (reS p V vp) D dp))) p.dst p.dp) := ⟨_, rfl⟩
  rw [← hr4] at CD5 CS4 l4 f4
  obtain ⟨r3, hr3⟩ : ∃ r, r = bts (p.re (rv (reD (reS p V vp) D dp))) := ⟨_, rfl⟩
  rw [← hr3] at CS4 CO l3 f3
  obtain ⟨r2, hr2⟩ : ∃ r, r = bts (reD (reS p V vp) D dp) := ⟨_, rfl⟩
  rw [← hr2] at CD CP2 CL CF2 l2 f2
  obtain ⟨rw1, hrw⟩ : ∃ r, r = wrp A B (bts (reS p V vp)) := ⟨_, rfl⟩
  rw [← hrw] at CW CU CP1 hwl hfw
  obtain ⟨r1, hr1⟩ : ∃ r, r = bts (reS p V vp) := ⟨_, rfl⟩
  rw [← hr1] at CS CW CU CD l1 f1
  obtain ⟨r0, hr0⟩ : ∃ r, r = bts p := ⟨_, rfl⟩
  rw [← hr0] at CB CS CL CO CL5 hl0 hf0
  have L1 := Lib.hid l1
  have L2 := Lib.hid l2
  have L3 := Lib.hid l3
  have L4 := Lib.hid l4
  have L5 := Lib.hid l5
  have LW := Lib.hid hwl
  have F1 := Lib.hid f1
  have F2 := Lib.hid f2
  have F3 := Lib.hid f3
  have F4 := Lib.hid f4
  have F5 := Lib.hid f5
  have FW := Lib.hid hfw
  clear hW hX hI ht hV hD hA hB hok hle hvp hdp hn ok1 ty1 ok2 ty2 hfo ok3 ty3 ok4 ty4 ok5 ty5 l1 l2 l3 l4 l5 hwl f1 f2 f3 f4 f5 hfw hr0 hr1 hr2 hr3 hr4 hr5 hrw hl0 hf0 hw hN80
  go_enter Try.func8, Try.ntmps8
  go_wp2_with fail
  rw [HW.out]
  refine (pathsT_any W).mono ?_
  rintro e w1 ⟨rfl, hb⟩
  have HX1 := Lib.hid (HX.out.next hb)
  obtain ⟨e0, e1, e2, e3, e4, e5, e6, e7, e8, e9, e10, e11, e12, e13, e14, e15, e16, e17, e18⟩ := HX1.out.here
  clear hb HX HW
  go_wp2_with fail
  refine (CB.out w1 (HI.out.below HX1.out.below)).mono ?_
  rintro e w2 ⟨a0, c0, rfl, hin, hb⟩
  have HX2 := Lib.hid (HX1.out.next hb)
  have HP := Lib.hid hin
  clear hb hin HX1 CB HI e0 e1 e2 e3 e4 e5 e6 e7 e8 e9 e10 e11 e12 e13 e14 e15 e16 e17 e18
  obtain ⟨e0, e1, e2, e3, e4, e5, e6, e7, e8, e9, e10, e11, e12, e13, e14, e15, e16, e17, e18⟩ := HX2.out.here
  go_wp2_with fail
  refine (CS.out w2 a0 c0 HP.out).mono ?_
  rintro e w3 ⟨a1, k1, c1, rfl, hk, hown, hb⟩
  obtain rfl : N = k1 := by rw [hk]; exact L1.out.symm
  have HX3 := Lib.hid (HX2.out.next hb)
  have HP3 := Lib.hid (HP.out.below hb)
  have HQ3 := Lib.hid (own_in hown L1.out F1.out)
  clear hb hk hown HX2 HP CS q1 q2 q3 q4 q5 e0 e1 e2 e3 e4 e5 e6 e7 e8 e9 e10 e11 e12 e13 e14 e15 e16 e17 e18
  obtain ⟨e0, e1, e2, e3, e4, e5, e6, e7, e8, e9, e10, e11, e12, e13, e14, e15, e16, e17, e18⟩ := HX3.out.here
  go_wp2_with fail
  refine (CW.out w3 a1 c1 HQ3.out).mono ?_
  rintro e w4 ⟨a2, k2, c2, rfl, hk, hown, hb⟩
  obtain rfl : M = k2 := by rw [hk]; exact LW.out.symm
  have HX4 := Lib.hid (HX3.out.next hb)
  have HP4 := Lib.hid (HP3.out.below hb)
  have HR4 := Lib.hid (own_in hown LW.out FW.out)
  clear hb hk hown HX3 HP3 HQ3 CW e0 e1 e2 e3 e4 e5 e6 e7 e8 e9 e10 e11 e12 e13 e14 e15 e16 e17 e18
  go_wp2_with fail
  refine (CP1.out w4 a2 c2 HR4.out).mono ?_
  rintro e w5 ⟨rfl, hb⟩
  have HX5 := Lib.hid (HX4.out.next hb)
  have HP5 := Lib.hid (HP4.out.below hb)
  have HR5 := Lib.hid (HR4.out.below hb)
  clear hb HX4 HP4 HR4 CP1
  go_wp2_with fail
  refine (CU.out w5 a2 c2 HR5.out).mono ?_
  rintro e w6 ⟨a3, k3, c3, rfl, hk, hown, hb⟩
  obtain rfl : N = k3 := by rw [hk]; exact L1.out.symm
  have HX6 := Lib.hid (HX5.out.next hb)
  have HP6 := Lib.hid (HP5.out.below hb)
  have HQ6 := Lib.hid (own_in hown L1.out F1.out)
  clear hb hk hown HX5 HP5 HR5 CU
  obtain ⟨e0, e1, e2, e3, e4, e5, e6, e7, e8, e9, e10, e11, e12, e13, e14, e15, e16, e17, e18⟩ := HX6.out.here
  go_wp2_with fail
  refine (CD.out w6 a3 c3 HQ6.out).mono ?_
  rintro e w7 ⟨a4, k4, c4, rfl, hk, hown, hb⟩
  obtain rfl : N = k4 := by rw [hk]; exact L2.out.symm
  have HX7 := Lib.hid (HX6.out.next hb)
  have HP7 := Lib.hid (HP6.out.below hb)
  have HT7 := Lib.hid (own_in hown L2.out F2.out)
  clear hb hk hown HX6 HP6 HQ6 CD e0 e1 e2 e3 e4 e5 e6 e7 e8 e9 e10 e11 e12 e13 e14 e15 e16 e17 e18
  go_wp2_with fail
  refine (CP2.out w7 a4 c4 HT7.out).mono ?_
  rintro e w8 ⟨rfl, hb⟩
  have HX8 := Lib.hid (HX7.out.next hb)
  have HP8 := Lib.hid (HP7.out.below hb)
  have HT8 := Lib.hid (HT7.out.below hb)
  clear hb HX7 HP7 HT7 CP2
  go_wp2_with fail
  refine (CL.out w8 a0 a4 c0 c4 HP8.out HT8.out).mono ?_
  rintro e w9 ⟨rfl, hb⟩
  have HX9 := Lib.hid (HX8.out.next hb)
  have HP9 := Lib.hid (HP8.out.below hb)
  have HT9 := Lib.hid (HT8.out.below hb)
  clear hb HX8 HP8 HT8 CL
  go_wp2_with fail
  refine (CF2.out w9 a4 c4 HT9.out).mono ?_
  rintro e w10 ⟨rfl, hb⟩
  have HXA := Lib.hid (HX9.out.next (bl_al hb (fo p.proto V vp D dp)))
  have HPA := Lib.hid (HP9.out.below (bl_al hb (fo p.proto V vp D dp)))
  have HFA := Lib.hid (FvAt.new w10 p.proto V vp D dp)
  obtain ⟨X, hX⟩ : ∃ X, X = w10.alloc (fo p.proto V vp D dp) := ⟨_, rfl⟩
  obtain ⟨x, hx⟩ : ∃ x, x = w10.heap.size := ⟨_, rfl⟩
  rw [← hX] at HXA HPA HFA
  rw [← hx] at HFA
  have HX := Lib.hid hX
  have Hx := Lib.hid hx
  clear hb HX9 HP9 HT9 CF2 hX hx
  go_upto_region 19 with fail
  rw [← HX.out, ← Hx.out]
  clear HX Hx
  obtain ⟨e0, e1, e2, e3, e4, e5, e6, e7, e8, e9, e10, e11, e12, e13, e14, e15, e16, e17, e18⟩ := HXA.out.here
  have HXB := Lib.hid (HXA.out.next (bl_al (Below.refl _ _) (fo p.proto V vp D dp)))
  have HPB := Lib.hid (HPA.out.below (bl_al (Below.refl _ _) (fo p.proto V vp D dp)))
  have HFB := Lib.hid (HFA.out.later (bl_al (Below.refl _ _) (fo p.proto V vp D dp)))
  have HGB := Lib.hid (FvAt.new X p.proto V vp D dp)
  obtain ⟨Y, hY⟩ : ∃ Y, Y = X.alloc (fo p.proto V vp D dp) := ⟨_, rfl⟩
  obtain ⟨y, hy⟩ : ∃ y, y = X.heap.size := ⟨_, rfl⟩
  rw [← hY] at HXB HPB HFB HGB
  rw [← hy] at HGB
  have HY := Lib.hid hY
  have Hy := Lib.hid hy
  clear hY hy HXA HPA HFA
  go_upto_region 20 with fail
  rw [← HY.out, ← Hy.out]
  clear HY Hy e0 e1 e2 e3 e4 e5 e6 e7 e8 e9 e10 e11 e12 e13 e14 e15 e16 e17 e18
  obtain ⟨f0, f1, f2, f3, f4⟩ := HFB.out
  obtain ⟨g0, g1, g2, g3, g4⟩ := HGB.out
  have nq := fv_neq p.proto V vp D dp
  go_wp2_with fail
  refine (CR.out Y).mono ?_
  rintro e w11 ⟨rfl, hb⟩
  have HX11 := Lib.hid (HXB.out.next hb)
  have HP11 := Lib.hid (HPB.out.below hb)
  clear hb HXB HPB HFB HGB f0 f1 f2 f3 f4 g0 g1 g2 g3 g4 nq CR
  go_wp2_with fail
  refine (CO.out w11 a0 c0 HP11.out).mono ?_
  rintro e w12 ⟨a5, k5, c5, rfl, hk, hown, hb⟩
  obtain rfl : N = k5 := by rw [hk]; exact L3.out.symm
  have HX12 := Lib.hid (HX11.out.next hb)
  have HP12 := Lib.hid (HP11.out.below hb)
  have HQ12 := Lib.hid (own_in hown L3.out F3.out)
  clear hb hk hown HX11 HP11 CO
  obtain ⟨e0, e1, e2, e3, e4, e5, e6, e7, e8, e9, e10, e11, e12, e13, e14, e15, e16, e17, e18⟩ := HX12.out.here
  go_wp2_with fail
  refine (CS4.out w12 a5 c5 HQ12.out).mono ?_
  rintro e w13 ⟨a6, k6, c6, rfl, hk, hown, hb⟩
  obtain rfl : N = k6 := by rw [hk]; exact L4.out.symm
  have HX13 := Lib.hid (HX12.out.next hb)
  have HP13 := Lib.hid (HP12.out.below hb)
  have HQ13 := Lib.hid (own_in hown L4.out F4.out)
  clear hb hk hown HX12 HP12 HQ12 CS4 e0 e1 e2 e3 e4 e5 e6 e7 e8 e9 e10 e11 e12 e13 e14 e15 e16 e17 e18
  obtain ⟨e0, e1, e2, e3, e4, e5, e6, e7, e8, e9, e10, e11, e12, e13, e14, e15, e16, e17, e18⟩ := HX13.out.here
  go_wp2_with fail
  refine (CD5.out w13 a6 c6 HQ13.out).mono ?_
  rintro e w14 ⟨a7, k7, c7, rfl, hk, hown, hb⟩
  obtain rfl : N = k7 := by rw [hk]; exact L5.out.symm
  have HX14 := Lib.hid (HX13.out.next hb)
  have HP14 := Lib.hid (HP13.out.below hb)
  have HQ14 := Lib.hid (own_in hown L5.out F5.out)
  clear hb hk hown HX13 HP13 HQ13 CD5 e0 e1 e2 e3 e4 e5 e6 e7 e8 e9 e10 e11 e12 e13 e14 e15 e16 e17 e18
  go_wp2_with fail
  refine (CF5.out w14 a7 c7 HQ14.out).mono ?_
  rintro e w15 ⟨rfl, hb⟩
  have hbz := bl_al hb (fo p.proto p.dst p.dp p.src p.sp)
  have HXZ := Lib.hid (HX14.out.next hbz)
  have HPZ := Lib.hid (HP14.out.below hbz)
  have HQZ := Lib.hid (HQ14.out.below hbz)
  have HFZ := Lib.hid (FvAt.new w15 p.proto p.dst p.dp p.src p.sp)
  obtain ⟨Z, hZ⟩ : ∃ Z, Z = w15.alloc (fo p.proto p.dst p.dp p.src p.sp) := ⟨_, rfl⟩
  obtain ⟨z, hz⟩ : ∃ z, z = w15.heap.size := ⟨_, rfl⟩
  rw [← hZ] at HXZ HPZ HQZ HFZ
  rw [← hz] at HFZ
  have HZ := Lib.hid hZ
  have Hz := Lib.hid hz
  clear hb hbz hZ hz HX14 HP14 HQ14 CF5
  go_upto_region 32 with fail
  rw [← HZ.out, ← Hz.out]
  clear HZ Hz
  have eq := fv_eql p.proto p.dst p.dp p.src p.sp
  have hS0 : FSt Z w.heap.size z p p.proto p.dst p.dp p.src p.sp Z.drew := fst_of HXZ.out HFZ.out (Below.refl _ _).drew
  have CL6 := Lib.hid (fun (U : World) (h : FSt Z w.heap.size z p p.proto p.dst p.dp p.src p.sp U) => CL5.out U a7 a0 c7 c0 (HQZ.out.below (FSt.bel h)) (HPZ.out.below (FSt.bel h)))
  have CR6 := CR5
  clear CR5 CL5
  go_region_held3 (fun wx => wx.cell? ⟨w.heap.size, 3, none⟩ = some (.int .i64 p.proto) ∧ wx.cell? ⟨w.heap.size, 4, none⟩ = some (.int .u32 p.src) ∧ wx.cell? ⟨w.heap.size, 5, none⟩ = some (.int .i64 p.sp) ∧ wx.cell? ⟨w.heap.size, 6, none⟩ = some (.int .u32 p.dst) ∧ wx.cell? ⟨w.heap.size, 7, none⟩ = some (.int .i64 p.dp) ∧ wx.cell? ⟨z, 0, none⟩ = some (.int .i64 p.proto) ∧ wx.cell? ⟨z, 1, none⟩ = some (.int .u32 p.dst) ∧ wx.cell? ⟨z, 2, none⟩ = some (.int .i64 p.dp) ∧ wx.cell? ⟨z, 3, none⟩ = some (.int .u32 p.src) ∧ wx.cell? ⟨z, 4, none⟩ = some (.int .i64 p.sp) ∧ Below Z.heap.size Z wx) (first | (with_reducible exact hS0) | (with_reducible exact fst_keep HXZ.out HFZ.out (by assumption) (by assumption)) | (with_reducible assumption) | fail)
    (first | (go_at_call 28; (with_reducible refine (CR6.out _).mono ?_); rintro e w' ⟨rfl, hb⟩) | (go_at_call 26; (with_reducible refine (CL6.out _ (by assumption)).mono ?_); rintro e w' ⟨rfl, hb2⟩) | fail)
  rename_i hHeld
  have HBF := Lib.hid (bl_tr HXZ.out.below (FSt.bel hHeld))
  clear hHeld hb hb2 hS0 CL6 CR6 eq
  go_wp2
  go_ret
  exact ⟨rfl, HBF.out⟩

theorem paths_any (p : Pk) (a : Option Addr) (n c : Nat) (V vp D dp A B : Int) (w : World) (hI : In w a n c p.data) (ht : Typed p) (hV : 0 ≤ V ∧ V < 4294967296) (hD : 0 ≤ D ∧ D < 4294967296) (hA : 0 ≤ A ∧ A < 4294967296) (hB : 0 ≤ B ∧ B < 4294967296) (hn : n ≤ 4611686018427387904) :
    Calls Try.prog 8 #[pathval p a n c V vp D dp A B] w fun e w' => e = .returned (.bool true) ∧ Below w.heap.size w w' := by
  by_cases hok : Ok p
  · by_cases hg : segLen p ≤ 1460 ∧ portOk vp ∧ portOk dp
    · exact paths_main p a n c V vp D dp A B w hI ht hV hD hA hB hn hok hg.1 hg.2.1 hg.2.2
    · refine paths_out p a n c V vp D dp A B w hI ht hV hD hA hB hn hok ?_
      unfold portOk at hg ⊢
      omega
  · exact paths_no p a n c V vp D dp A B w hI ht hV hD hA hB hn hok
end Go.Proofs.Ytfbmeoiaedlgoaa
