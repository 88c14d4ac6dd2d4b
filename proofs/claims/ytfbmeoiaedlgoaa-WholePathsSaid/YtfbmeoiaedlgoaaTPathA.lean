/- Contracts of towpathtop.packetOf and paths, and of the document's Reverse. Conditions: rows came in, of at most 2^62 bytes. -/
import Derived.Test.YtfbmeoiaedlgoaaTunE
import Derived.Test.YtfbmeoiaedlgoaaGenR
namespace Go.Proofs.Ytfbmeoiaedlgoaa
open Go Go.RowKit
set_option linter.unusedVariables false
set_option linter.unusedSimpArgs false

abbrev fv (pr s sp d dp : Int) : Value := .agg #[.int .i64 pr, .int .u32 s, .int .i64 sp, .int .u32 d, .int .i64 dp]
abbrev fo (pr s sp d dp : Int) : Obj := .cells #[.int .i64 pr, .int .u32 s, .int .i64 sp, .int .u32 d, .int .i64 dp] 44
/-- A flow with its sides turned. -/
def rv (p : Pk) : Pk := ⟨0, 0, 0, p.proto, p.dst, p.dp, p.src, p.sp, 0, 0, 0, 0, []⟩
theorem like_re {p q : Pk} (hp : Ok p) (tp : Typed p) (hq : Ok q) (tq : Typed q) (hpr : p.proto = q.proto) (e : setF p q = q) : LikeIs (bts p) (bts q) true := by
  have h1 := Is.of hp tp (b := bts p) rfl
  have h2 := Is.of hq tq (b := bts q) rfl
  refine ⟨fun _ => ⟨h1.1, h2.1, by rw [h1.2, h2.2]; exact hpr, ?_⟩, fun _ => rfl⟩
  rw [h1.2, h2.2, e]
  exact sameP_self q
theorem fv_neq (a b c d f : Int) (w : World) : (binOp .neq 44 (fv a b c d f) (fv a b c d f)).run Try.prog w = .ok (.bool false) w := by
  go_simp
theorem fv_eql (a b c d f : Int) (w : World) : (binOp .eql 44 (fv a b c d f) (fv a b c d f)).run Try.prog w = .ok (.bool true) w := by
  go_simp

set_option maxRecDepth 100000 in
theorem packetOf_any {l : List Int} {bb : Bool} (hb : bb = true ↔ Is l) (a : Option Addr) (n c : Nat) (w : World) (hI : In w a n c l) (hn : n ≤ 4611686018427387904) :
    Calls Try.prog 24 #[.slice a n c] w fun e w' => e = .returned (.bool bb) ∧ Below w.heap.size w w' := by
  obtain ⟨p, E, f, b2, hS⟩ := Says.some l
  obtain rfl : b2 = bb := by
    rcases hS with ⟨h, _, _, _, rfl⟩ | ⟨h, _, _, _, rfl⟩
    · exact (hb.2 h).symm
    · cases bb with
      | false => rfl
      | true => exact absurd (hb.1 rfl) h
  have C := Lib.hid (flow_t hS a n c w hI hn)
  clear hI hn hS hb
  go_enter Try.func24, Try.ntmps24
  go_wp2_with fail
  refine C.out.mono ?_
  rintro e w1 ⟨rfl, hb⟩
  have HB1 := Lib.hid (bl_al hb p.fobj)
  clear hb
  go_wp2
  go_ret
  exact ⟨rfl, HB1.out⟩

set_option maxRecDepth 100000 in
set_option maxHeartbeats 1000000 in
theorem reverse_any (p s sp d dp : Int) (w : World) :
    Calls Try.prog 28 #[fv p s sp d dp] w fun e w' => e = .returned (fv p d dp s sp) ∧ Below w.heap.size w w' := by
  obtain ⟨X, hX⟩ : ∃ X, X = ((w.alloc (fo p s sp d dp)).alloc (.cells zeroFs 44)).alloc (fo p s sp d dp) := ⟨_, rfl⟩
  have HB : Hid (Below w.heap.size w X) := Lib.hid (by rw [hX]; exact bl_al (bl_al (bl_al (Below.refl _ _) _) _) _)
  have hs1 : (w.alloc (fo p s sp d dp)).heap.size = w.heap.size + 1 := by simp
  have hs2 : ((w.alloc (fo p s sp d dp)).alloc (.cells zeroFs 44)).heap.size = w.heap.size + 1 + 1 := by simp
  have b0 : X.heap[w.heap.size]? = some (fo p s sp d dp) := by rw [hX, heap_alloc_old _ _ (by rw [hs2]; omega), heap_alloc_old _ _ (by rw [hs1]; omega)]; exact heap_alloc_new _ _
  have b1 : X.heap[w.heap.size + 1]? = some (.cells zeroFs 44) := by rw [hX, heap_alloc_old _ _ (by rw [hs2]; omega), ← hs1]; exact heap_alloc_new _ _
  have b2 : X.heap[w.heap.size + 1 + 1]? = some (fo p s sp d dp) := by rw [hX, ← hs2]; exact heap_alloc_new _ _
  obtain ⟨k0, hk0⟩ : ∃ k, k = w.heap.size := ⟨_, rfl⟩
  obtain ⟨k1, hk1⟩ : ∃ k, k = w.heap.size + 1 := ⟨_, rfl⟩
  obtain ⟨k2, hk2⟩ : ∃ k, k = w.heap.size + 1 + 1 := ⟨_, rfl⟩
  rw [← hk2] at b2
  rw [← hk1] at b1
  rw [← hk0] at b0
  have n01 : ¬ k0 = k1 := by omega
  have n02 : ¬ k0 = k2 := by omega
  have n12 : ¬ k1 = k2 := by omega
  have n10 : ¬ k1 = k0 := by omega
  have n20 : ¬ k2 = k0 := by omega
  have n21 : ¬ k2 = k1 := by omega
  have HX := Lib.hid hX
  have H0 := Lib.hid hk0
  have H1 := Lib.hid hk1
  have H2 := Lib.hid hk2
  have x1 : X.cell? ⟨k0, 1, none⟩ = some (.int .u32 s) := by rw [cell_of_row X _ _ _ _ _ b0]; rfl
  have x2 : X.cell? ⟨k0, 2, none⟩ = some (.int .i64 sp) := by rw [cell_of_row X _ _ _ _ _ b0]; rfl
  have x3 : X.cell? ⟨k0, 3, none⟩ = some (.int .u32 d) := by rw [cell_of_row X _ _ _ _ _ b0]; rfl
  have x4 : X.cell? ⟨k0, 4, none⟩ = some (.int .i64 dp) := by rw [cell_of_row X _ _ _ _ _ b0]; rfl
  have z0 : X.cell? ⟨k1, 0, none⟩ = some (.int .i64 0) := by rw [cell_of_row X _ _ _ _ _ b1]; rfl
  have z1 : X.cell? ⟨k1, 1, none⟩ = some (.int .u32 0) := by rw [cell_of_row X _ _ _ _ _ b1]; rfl
  have z2 : X.cell? ⟨k1, 2, none⟩ = some (.int .i64 0) := by rw [cell_of_row X _ _ _ _ _ b1]; rfl
  have z3 : X.cell? ⟨k1, 3, none⟩ = some (.int .u32 0) := by rw [cell_of_row X _ _ _ _ _ b1]; rfl
  have z4 : X.cell? ⟨k1, 4, none⟩ = some (.int .i64 0) := by rw [cell_of_row X _ _ _ _ _ b1]; rfl
  have zf := fun o => frozen_of_row X k1 o _ _ b1
  have y0 : X.cell? ⟨k2, 0, none⟩ = some (.int .i64 p) := by rw [cell_of_row X _ _ _ _ _ b2]; rfl
  have y1 : X.cell? ⟨k2, 1, none⟩ = some (.int .u32 s) := by rw [cell_of_row X _ _ _ _ _ b2]; rfl
  have y2 : X.cell? ⟨k2, 2, none⟩ = some (.int .i64 sp) := by rw [cell_of_row X _ _ _ _ _ b2]; rfl
  have y3 : X.cell? ⟨k2, 3, none⟩ = some (.int .u32 d) := by rw [cell_of_row X _ _ _ _ _ b2]; rfl
  have y4 : X.cell? ⟨k2, 4, none⟩ = some (.int .i64 dp) := by rw [cell_of_row X _ _ _ _ _ b2]; rfl
  have yf := fun o => frozen_of_row X k2 o _ _ b2
  have hle1 : w.heap.size ≤ k1 := by omega
  have hle2 : w.heap.size ≤ k2 := by omega
  have HL1 := Lib.hid hle1
  have HL2 := Lib.hid hle2
  clear hX b0 b1 b2 hs1 hs2 hk0 hk1 hk2 hle1 hle2
  go_enter Try.func28, Try.ntmps28
  go_upto_region 2 with fail
  rw [← HX.out, ← H2.out, ← H1.out, ← H0.out]
  clear HX H2 H1 H0
  go_wp2
  refine bodyPost_ret (v := fv p d dp s sp) (by simp [results, Try.results28, go_sem, z0, z1, z2, z3, z4, n01, n02, n12, n10, n20, n21]) rfl ⟨rfl, ?_⟩
  iterate 5 (refine Below.setCell ?_ HL1.out _)
  iterate 4 (refine Below.setCell ?_ HL2.out _)
  exact HB.out

def exT : Pk := ⟨0, 0, 9, 17, 167837697, 7, 134744072, 53, 0, 0, 0, 0, []⟩
theorem exT_ok : Ok exT := ⟨by decide, by decide, by decide, by decide, by decide, by decide, by decide, by decide, by decide, by decide⟩
theorem exT_typed : Typed exT := ⟨by decide, by decide, by decide, by decide, by intro b hb; cases hb⟩
theorem exT_ne : same (bts (reS exT 16843009 1024)) (bts exT) = false := by decide +kernel
theorem exT_back : reS (reS exT 16843009 1024) 167837697 7 = exT := rfl

set_option maxRecDepth 100000 in
set_option maxHeartbeats 1000000 in
theorem pathsT_any (w : World) : Calls Try.prog 22 #[] w fun e w' => e = .returned (.bool true) ∧ Below w.heap.size w w' := by
  obtain ⟨p, hp⟩ : ∃ p, p = exT := ⟨_, rfl⟩
  have hok : Ok p := by rw [hp]; exact exT_ok
  have hty : Typed p := by rw [hp]; exact exT_typed
  have hdat : p.data = [] := by rw [hp]; rfl
  have h28 : 20 + segLen p = 28 := by rw [hp]; decide
  have hbl : (bts p).length = 28 := by rw [bts_len, h28]
  have hfb := fit_bts hty.data
  obtain ⟨q, hq⟩ : ∃ q, q = reS p 16843009 1024 := ⟨_, rfl⟩
  have hA : (0 : Int) ≤ 16843009 ∧ (16843009 : Int) < 4294967296 := by decide
  have hA2 : (0 : Int) ≤ 167837697 ∧ (167837697 : Int) < 4294967296 := by decide
  have hP : portOk 1024 := by unfold portOk; decide
  have hP2 : portOk 7 := by unfold portOk; decide
  have hokq : Ok q := by rw [hq]; exact reS_ok hok hP
  have htyq : Typed q := by rw [hq]; exact reS_typed hty hA
  have hql : (bts q).length = 28 := by rw [bts_len, hq]; exact h28
  have hfq := fit_bts htyq.data
  have hback : reS q 167837697 7 = p := by rw [hq, hp]; exact exT_back
  have hisq := (Is.of hokq htyq (b := bts q) rfl).1
  have hne : same (bts q) (bts p) = false := by rw [hq, hp]; exact exT_ne
  have hsA : (0 : Int) ≤ 167772208 ∧ (167772208 : Int) < 4294967296 := by decide
  have hsB : (0 : Int) ≤ 167837954 ∧ (167837954 : Int) < 4294967296 := by decide
  have hw : IsW (wrp 167772208 167837954 (bts q)) := IsW.of hsA hsB hisq (by omega)
  have CB := Lib.hid (fun W => build_ok p none 0 0 hok hty W (by rw [hdat]; exact in_nil W))
  rw [h28] at CB
  have CS := Lib.hid (fun (W : World) (a : Option Addr) (c : Nat) (h : In W a 28 c (bts p)) => srcY hok hty hA hP a 28 c W h)
  rw [← hq] at CS
  have CT := Lib.hid (fun (W : World) (a : Option Addr) (c : Nat) (h : In W a 28 c (bts q)) => srcY hokq htyq hA2 hP2 a 28 c W h)
  rw [hback] at CT
  have CW := Lib.hid (fun (W : World) (a : Option Addr) (c : Nat) (h : In W a 28 c (bts q)) => wrap_t (.inl ⟨hisq, by omega, rfl, rfl, rfl⟩) hsA hsB a 28 c W h (by omega))
  have hwl : (wrp 167772208 167837954 (bts q)).length = 48 := by rw [wrp_len, hql]
  have CU := Lib.hid (fun (W : World) (a : Option Addr) (c : Nat) (h : In W a 48 c (wrp 167772208 167837954 (bts q))) => unwrap_t (l := wrp 167772208 167837954 (bts q)) (S := 167772208) (D := 167837954) (R := bts q) (.inl ⟨hw, (wrp_src _ _ hsA).symm, (wrp_dst _ _ hsB).symm, rfl, rfl, rfl, rfl⟩) a 48 c W h (by omega))
  have hfw : fit (wrp 167772208 167837954 (bts q)) := fit_wrp hfq
  obtain ⟨r, hr⟩ : ∃ r, r = wrp 167772208 167837954 (bts q) := ⟨_, rfl⟩
  rw [← hr] at CW CU hwl hfw
  have sq := str_eq hfq hfb
  rw [hne] at sq
  obtain ⟨b, hb0⟩ : ∃ b, b = bts p := ⟨_, rfl⟩
  obtain ⟨c, hc0⟩ : ∃ c, c = bts q := ⟨_, rfl⟩
  rw [← hb0] at CB CS CT sq hbl hfb
  rw [← hc0] at CS CT CW CU sq hql hfq
  have HPV : Hid (p.val none 0 0 = exT.val none 0 0) := Lib.hid (by rw [hp])
  rw [HPV.out] at CB
  have HBL := Lib.hid hbl
  have HFB := Lib.hid hfb
  have HQL := Lib.hid hql
  have HFQ := Lib.hid hfq
  have HWL := Lib.hid hwl
  have HFW := Lib.hid hfw
  have HSQ := Lib.hid sq
  clear hok hty hdat h28 hbl hfb hq hA hA2 hP hP2 hokq htyq hql hfq hback hisq hne hsA hsB hw hwl hfw hr sq hb0 hc0 HPV hp
  go_enter Try.func22, Try.ntmps22
  go_wp2_with fail
  refine (CB.out w).mono ?_
  rintro e w1 ⟨g, cap, rfl, hO, hb⟩
  have HB1 := Lib.hid hb
  have HI1 := Lib.hid (own_in hO.1 HBL.out HFB.out)
  clear hO hb CB
  go_wp2_with fail
  refine (CS.out w1 _ _ HI1.out).mono ?_
  rintro e w2 ⟨a2, k2, c2, rfl, hk, hown, hb⟩
  obtain rfl : k2 = 28 := by rw [hk]; exact HQL.out
  have HB2 := Lib.hid (bl_tr HB1.out hb)
  have HI2 := Lib.hid (HI1.out.below hb)
  have HC2 := Lib.hid (own_in hown HQL.out HFQ.out)
  clear hk hown hb HB1 HI1 CS
  go_wp2_with fail
  refine (CW.out w2 a2 c2 HC2.out).mono ?_
  rintro e w3 ⟨a3, k3, c3, rfl, hk, hown, hb⟩
  obtain rfl : k3 = 48 := by rw [hk]; exact HWL.out
  have HB3 := Lib.hid (bl_tr HB2.out hb)
  have HI3 := Lib.hid (HI2.out.below hb)
  have HC3 := Lib.hid (HC2.out.below hb)
  have HW3 := Lib.hid (own_in hown HWL.out HFW.out)
  clear hk hown hb HB2 HI2 HC2 CW
  go_wp2_with fail
  refine (CU.out w3 a3 c3 HW3.out).mono ?_
  rintro e w4 ⟨a4, k4, c4, rfl, hk, hown, hb⟩
  obtain rfl : k4 = 28 := by rw [hk]; exact HQL.out
  have HB4 := Lib.hid (bl_tr HB3.out hb)
  have HI4 := Lib.hid (HI3.out.below hb)
  have HC4 := Lib.hid (HC3.out.below hb)
  have HN4 := Lib.hid (own_in hown HQL.out HFQ.out)
  clear hk hown hb HB3 HI3 HC3 HW3 CU
  go_wp2_with fail
  refine (CT.out w4 a4 c4 HN4.out).mono ?_
  rintro e w5 ⟨a5, k5, c5, rfl, hk, hown, hb⟩
  obtain rfl : k5 = 28 := by rw [hk]; exact HBL.out
  have HB5 := Lib.hid (bl_tr HB4.out hb)
  have hI5 := HI4.out.below hb
  have hC5 := HC4.out.below hb
  have hD5 := own_in hown HBL.out HFB.out
  have sA := str_of hI5.here hI5.len
  have sB := str_of hC5.here hC5.len
  have sC := str_of hD5.here hD5.len
  obtain ⟨s, hs⟩ : ∃ s, s = strOfNums b := ⟨_, rfl⟩
  obtain ⟨t, ht⟩ : ∃ t, t = strOfNums c := ⟨_, rfl⟩
  have sq := HSQ.out
  rw [← hs] at sA sC sq
  rw [← ht] at sB sq
  have sn : (t.toList != s.toList) = true := by simp [bne, sq]
  have st : (s.toList == s.toList) = true := by simp
  clear hk hown hb HB4 HI4 HC4 HN4 CT hI5 hC5 hD5 hs ht
  go_wp2
  go_ret
  exact ⟨rfl, HB5.out⟩
end Go.Proofs.Ytfbmeoiaedlgoaa
