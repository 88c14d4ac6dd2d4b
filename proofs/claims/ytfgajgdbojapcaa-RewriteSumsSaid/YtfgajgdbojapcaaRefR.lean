/- Contracts of the document's Source, Dest, Both, Like of layer 4. Conditions: the rows came in, of at most 2^62 bytes; the address is of 32 bits. -/
import Derived.Test.YtfgajgdbojapcaaRwC
import Derived.Test.YtfgajgdbojapcaaSameB
namespace Go.Proofs.Ytfgajgdbojapcaa
open Go Go.RowKit
set_option linter.unusedVariables false
set_option linter.unusedSimpArgs false

def RRwn (w : World) (R : List Int) (f : Int) (e : Ending) (w' : World) : Prop :=
  ∃ ao k cp, e = .returned (.tuple #[.slice ao k cp, .int .i64 f]) ∧ In w' ao k cp R ∧ Below w.heap.size w w'
theorem RRwn.of_built {w W : World} {q : Pk} {e : Ending} {w' : World} (h : RBuilt W q e w') (hb : Below w.heap.size w W) : RRwn w (bts q) 0 e w' := by
  obtain ⟨ao, cp, he, hi, hb2⟩ := h
  exact ⟨ao, _, cp, he, hi, bl_tr hb hb2⟩

set_option maxRecDepth 100000 in
set_option maxHeartbeats 1000000 in
theorem refSource_t {l : List Int} {A P : Int} {R : List Int} {E : Value} {f : Int} (h : Out l (portOk P) (reS (dec l) A P) R E f) (hA : 0 ≤ A ∧ A < 4294967296) (a : Option Addr) (n c : Nat) (w : World) (hI : In w a n c l) (hn : n ≤ 4611686018427387904) :
    Calls Try.prog 33 #[.slice a n c, .int .u32 A, .int .i64 P] w (RRwn w R f) := by
  have HI := Lib.hid hI
  have HA := Lib.hid hA
  rcases h with ⟨hi, hP, rfl, rfl, rfl⟩ | ⟨hi, hP, rfl, rfl, rfl⟩ | ⟨hi, rfl, rfl, rfl⟩
  · have hS : Says l (dec l) .nilIface 0 true := .inl ⟨hi, rfl, rfl, rfl, rfl⟩
    have C := Lib.hid (fun W (hI : In W a n c l) => refParse_t hS a n c W hI hn)
    have hsh := is_short hi
    have t := dec_typed hI.fit
    obtain ⟨p, hp⟩ : ∃ p, p = dec l := ⟨_, rfl⟩
    have hok : Ok p := by rw [hp]; exact hi.1
    rw [← hp] at C t hsh
    have HQ : Hid (Ok (reS p A P)) := Lib.hid ⟨hok.tos, hok.id, hok.ttl, hok.proto, hP, hok.dp, hok.flags, hok.win, hok.udp, hok.len⟩
    have HTQ : Hid (Typed (reS p A P)) := Lib.hid ⟨HA.out, t.dst, t.seq, t.ack, t.data⟩
    have HTD := Lib.hid t.data
    have HSH := Lib.hid hsh
    rw [← hp]
    clear hI hA hi hP hS hn hp hok t hsh
    go_enter Try.func33, Try.ntmps33
    go_wp2_with fail
    refine (C.out w HI.out).mono ?_
    rintro e w1 ⟨ao, k, cp, rfl, hk, hown, hb⟩
    have hr := own_row hown hk.symm HTD.out
    have HKB : Hid (k ≤ 4611686018427387904) := Lib.hid (by have := HSH.out; omega)
    obtain ⟨X, hX⟩ : ∃ X, X = w1.alloc (.cells #[.int .i64 p.tos, .int .i64 p.id, .int .i64 p.ttl, .int .i64 p.proto, .int .u32 A, .int .i64 P, .int .u32 p.dst, .int .i64 p.dp, .int .u32 p.seq, .int .u32 p.ack, .int .i64 p.flags, .int .i64 p.win, .slice ao k cp] 28) := ⟨_, rfl⟩
    have HX : Hid (Below w.heap.size w X) := Lib.hid (by rw [hX]; exact bl_al hb _)
    have HDQ : Hid (In X ao k cp (reS p A P).data) := Lib.hid (by rw [hX]; exact hr.below (bl_al (Below.refl _ _) _))
    have HXE := Lib.hid hX
    clear hk hown hb hr hX
    go_wp2_with fail
    rw [← HXE.out]
    refine (refBuild_ok (reS p A P) ao k cp HQ.out HTQ.out X HDQ.out).mono ?_
    rintro e w2 ⟨a2, c2, rfl, hin, hb⟩
    have HI2 := Lib.hid hin
    have HB2 := Lib.hid (bl_tr HX.out hb)
    clear hin hb
    go_wp2
    go_ret2
    exact ⟨_, _, _, rfl, HI2.out, HB2.out⟩
  · have hS : Says l (dec l) .nilIface 0 true := .inl ⟨hi, rfl, rfl, rfl, rfl⟩
    have C := Lib.hid (fun W (hI : In W a n c l) => refParse_t hS a n c W hI hn)
    have hsh := is_short hi
    have t := dec_typed hI.fit
    obtain ⟨p, hp⟩ : ∃ p, p = dec l := ⟨_, rfl⟩
    have hok : Ok p := by rw [hp]; exact hi.1
    rw [← hp] at C t hsh
    have HQ : Hid (¬ Ok (reS p A P)) := Lib.hid (fun h => hP h.sp)
    have HTQ : Hid (Typed (reS p A P)) := Lib.hid ⟨HA.out, t.dst, t.seq, t.ack, t.data⟩
    have HTD := Lib.hid t.data
    have HSH := Lib.hid hsh
    clear hI hA hi hP hS hn hp hok t hsh
    go_enter Try.func33, Try.ntmps33
    go_wp2_with fail
    refine (C.out w HI.out).mono ?_
    rintro e w1 ⟨ao, k, cp, rfl, hk, hown, hb⟩
    have hr := own_row hown hk.symm HTD.out
    have HKB : Hid (k ≤ 4611686018427387904) := Lib.hid (by have := HSH.out; omega)
    obtain ⟨X, hX⟩ : ∃ X, X = w1.alloc (.cells #[.int .i64 p.tos, .int .i64 p.id, .int .i64 p.ttl, .int .i64 p.proto, .int .u32 A, .int .i64 P, .int .u32 p.dst, .int .i64 p.dp, .int .u32 p.seq, .int .u32 p.ack, .int .i64 p.flags, .int .i64 p.win, .slice ao k cp] 28) := ⟨_, rfl⟩
    have HX : Hid (Below w.heap.size w X) := Lib.hid (by rw [hX]; exact bl_al hb _)
    have HDQ : Hid (In X ao k cp (reS p A P).data) := Lib.hid (by rw [hX]; exact hr.below (bl_al (Below.refl _ _) _))
    have HXE := Lib.hid hX
    clear hk hown hb hr hX
    go_wp2_with fail
    rw [← HXE.out]
    refine (refBuild_no (reS p A P) ao k cp HDQ.out.len HKB.out HQ.out X).mono ?_
    rintro e w2 ⟨rfl, hb⟩
    have HB2 := Lib.hid (bl_tr HX.out hb)
    clear hb
    go_wp2
    go_ret2
    exact ⟨none, 0, 0, rfl, in_nil _, HB2.out⟩
  · have hS : Says l zeroP (errno 2) 2 false := .inr ⟨hi, rfl, rfl, rfl, rfl⟩
    have C := Lib.hid (fun W (hI : In W a n c l) => refParse_t hS a n c W hI hn)
    clear hI hA hi hS hn
    go_enter Try.func33, Try.ntmps33
    go_wp2_with fail
    refine (C.out w HI.out).mono ?_
    rintro e w1 ⟨ao, k, cp, rfl, hk, hown, hb⟩
    have HB1 := Lib.hid (bl_al hb (zeroP.obj ao k cp))
    clear hb hk hown
    go_wp2
    go_ret2
    exact ⟨none, 0, 0, rfl, in_nil _, HB1.out⟩

set_option maxRecDepth 100000 in
set_option maxHeartbeats 1000000 in
theorem refDest_t {l : List Int} {A P : Int} {R : List Int} {E : Value} {f : Int} (h : Out l (portOk P) (reD (dec l) A P) R E f) (hA : 0 ≤ A ∧ A < 4294967296) (a : Option Addr) (n c : Nat) (w : World) (hI : In w a n c l) (hn : n ≤ 4611686018427387904) :
    Calls Try.prog 34 #[.slice a n c, .int .u32 A, .int .i64 P] w (RRwn w R f) := by
  have HI := Lib.hid hI
  have HA := Lib.hid hA
  rcases h with ⟨hi, hP, rfl, rfl, rfl⟩ | ⟨hi, hP, rfl, rfl, rfl⟩ | ⟨hi, rfl, rfl, rfl⟩
  · have hS : Says l (dec l) .nilIface 0 true := .inl ⟨hi, rfl, rfl, rfl, rfl⟩
    have C := Lib.hid (fun W (hI : In W a n c l) => refParse_t hS a n c W hI hn)
    have hsh := is_short hi
    have t := dec_typed hI.fit
    obtain ⟨p, hp⟩ : ∃ p, p = dec l := ⟨_, rfl⟩
    have hok : Ok p := by rw [hp]; exact hi.1
    rw [← hp] at C t hsh
    have HQ : Hid (Ok (reD p A P)) := Lib.hid ⟨hok.tos, hok.id, hok.ttl, hok.proto, hok.sp, hP, hok.flags, hok.win, hok.udp, hok.len⟩
    have HTQ : Hid (Typed (reD p A P)) := Lib.hid ⟨t.src, HA.out, t.seq, t.ack, t.data⟩
    have HTD := Lib.hid t.data
    have HSH := Lib.hid hsh
    rw [← hp]
    clear hI hA hi hP hS hn hp hok t hsh
    go_enter Try.func34, Try.ntmps34
    go_wp2_with fail
    refine (C.out w HI.out).mono ?_
    rintro e w1 ⟨ao, k, cp, rfl, hk, hown, hb⟩
    have hr := own_row hown hk.symm HTD.out
    have HKB : Hid (k ≤ 4611686018427387904) := Lib.hid (by have := HSH.out; omega)
    obtain ⟨X, hX⟩ : ∃ X, X = w1.alloc (.cells #[.int .i64 p.tos, .int .i64 p.id, .int .i64 p.ttl, .int .i64 p.proto, .int .u32 p.src, .int .i64 p.sp, .int .u32 A, .int .i64 P, .int .u32 p.seq, .int .u32 p.ack, .int .i64 p.flags, .int .i64 p.win, .slice ao k cp] 28) := ⟨_, rfl⟩
    have HX : Hid (Below w.heap.size w X) := Lib.hid (by rw [hX]; exact bl_al hb _)
    have HDQ : Hid (In X ao k cp (reD p A P).data) := Lib.hid (by rw [hX]; exact hr.below (bl_al (Below.refl _ _) _))
    have HXE := Lib.hid hX
    clear hk hown hb hr hX
    go_wp2_with fail
    rw [← HXE.out]
    refine (refBuild_ok (reD p A P) ao k cp HQ.out HTQ.out X HDQ.out).mono ?_
    rintro e w2 ⟨a2, c2, rfl, hin, hb⟩
    have HI2 := Lib.hid hin
    have HB2 := Lib.hid (bl_tr HX.out hb)
    clear hin hb
    go_wp2
    go_ret2
    exact ⟨_, _, _, rfl, HI2.out, HB2.out⟩
  · have hS : Says l (dec l) .nilIface 0 true := .inl ⟨hi, rfl, rfl, rfl, rfl⟩
    have C := Lib.hid (fun W (hI : In W a n c l) => refParse_t hS a n c W hI hn)
    have hsh := is_short hi
    have t := dec_typed hI.fit
    obtain ⟨p, hp⟩ : ∃ p, p = dec l := ⟨_, rfl⟩
    have hok : Ok p := by rw [hp]; exact hi.1
    rw [← hp] at C t hsh
    have HQ : Hid (¬ Ok (reD p A P)) := Lib.hid (fun h => hP h.dp)
    have HTQ : Hid (Typed (reD p A P)) := Lib.hid ⟨t.src, HA.out, t.seq, t.ack, t.data⟩
    have HTD := Lib.hid t.data
    have HSH := Lib.hid hsh
    clear hI hA hi hP hS hn hp hok t hsh
    go_enter Try.func34, Try.ntmps34
    go_wp2_with fail
    refine (C.out w HI.out).mono ?_
    rintro e w1 ⟨ao, k, cp, rfl, hk, hown, hb⟩
    have hr := own_row hown hk.symm HTD.out
    have HKB : Hid (k ≤ 4611686018427387904) := Lib.hid (by have := HSH.out; omega)
    obtain ⟨X, hX⟩ : ∃ X, X = w1.alloc (.cells #[.int .i64 p.tos, .int .i64 p.id, .int .i64 p.ttl, .int .i64 p.proto, .int .u32 p.src, .int .i64 p.sp, .int .u32 A, .int .i64 P, .int .u32 p.seq, .int .u32 p.ack, .int .i64 p.flags, .int .i64 p.win, .slice ao k cp] 28) := ⟨_, rfl⟩
    have HX : Hid (Below w.heap.size w X) := Lib.hid (by rw [hX]; exact bl_al hb _)
    have HDQ : Hid (In X ao k cp (reD p A P).data) := Lib.hid (by rw [hX]; exact hr.below (bl_al (Below.refl _ _) _))
    have HXE := Lib.hid hX
    clear hk hown hb hr hX
    go_wp2_with fail
    rw [← HXE.out]
    refine (refBuild_no (reD p A P) ao k cp HDQ.out.len HKB.out HQ.out X).mono ?_
    rintro e w2 ⟨rfl, hb⟩
    have HB2 := Lib.hid (bl_tr HX.out hb)
    clear hb
    go_wp2
    go_ret2
    exact ⟨none, 0, 0, rfl, in_nil _, HB2.out⟩
  · have hS : Says l zeroP (errno 2) 2 false := .inr ⟨hi, rfl, rfl, rfl, rfl⟩
    have C := Lib.hid (fun W (hI : In W a n c l) => refParse_t hS a n c W hI hn)
    clear hI hA hi hS hn
    go_enter Try.func34, Try.ntmps34
    go_wp2_with fail
    refine (C.out w HI.out).mono ?_
    rintro e w1 ⟨ao, k, cp, rfl, hk, hown, hb⟩
    have HB1 := Lib.hid (bl_al hb (zeroP.obj ao k cp))
    clear hb hk hown
    go_wp2
    go_ret2
    exact ⟨none, 0, 0, rfl, in_nil _, HB1.out⟩

set_option maxRecDepth 100000 in
set_option maxHeartbeats 1000000 in
theorem refBoth_t {l : List Int} {g : Pk} {R : List Int} {E : Value} {f : Int} (h : Out l (FlowOk g ∧ g.proto = (dec l).proto) ((dec l).re g) R E f) (h1 : 0 ≤ g.src ∧ g.src < 4294967296) (h2 : 0 ≤ g.dst ∧ g.dst < 4294967296) (a : Option Addr) (n c : Nat) (w : World) (hI : In w a n c l) (hn : n ≤ 4611686018427387904) :
    Calls Try.prog 35 #[.slice a n c, g.flow] w (RRwn w R f) := by
  have HI := Lib.hid hI
  obtain ⟨W, hW⟩ : ∃ W, w.alloc g.fobj = W := ⟨_, rfl⟩
  have HF := Lib.hid (show FlAt W w.heap.size g by rw [← hW]; exact FlAt.new _ _)
  have HB := Lib.hid (show Below w.heap.size w W by rw [← hW]; exact bl_al (Below.refl _ _) _)
  have HW := Lib.hid hW
  have HIW := Lib.hid (hI.below HB.out)
  rcases h with ⟨hi, hP, rfl, rfl, rfl⟩ | ⟨hi, hP, rfl, rfl, rfl⟩ | ⟨hi, rfl, rfl, rfl⟩
  · have hS : Says l (dec l) .nilIface 0 true := .inl ⟨hi, rfl, rfl, rfl, rfl⟩
    have C := Lib.hid (fun W (hI : In W a n c l) => refParse_t hS a n c W hI hn)
    have hsh := is_short hi
    have t := dec_typed hI.fit
    obtain ⟨p, hp⟩ : ∃ p, p = dec l := ⟨_, rfl⟩
    have hok : Ok p := by rw [hp]; exact hi.1
    rw [← hp] at C t hsh hP
    have HQ : Hid (Ok (p.re g)) := Lib.hid (re_ok hok hP.1)
    have HTQ : Hid (Typed (p.re g)) := Lib.hid (re_typed t h1 h2)
    have HTD := Lib.hid t.data
    have HSH := Lib.hid hsh
    have HPR := Lib.hid hP.2
    have CG := Lib.hid (fun W => refFlow_ok g hP.1 W)
    have tq : (g.proto != p.proto) = false := by simp [hP.2]
    rw [← hp]
    clear hI h1 h2 hi hP hS hn hp hok t hsh hW
    go_enter Try.func35, Try.ntmps35
    go_wp2_with fail
    rw [HW.out]
    refine (C.out W HIW.out).mono ?_
    rintro e w1 ⟨ao, k, cp, rfl, hk, hown, hb⟩
    have hfl := World.block_lt_of_cell? _ _ HF.out.c0
    obtain ⟨q, hq⟩ : ∃ q, q = w1.heap.size := ⟨_, rfl⟩
    obtain ⟨X, hX⟩ : ∃ X, X = w1.alloc (p.obj ao k cp) := ⟨_, rfl⟩
    have HXE := Lib.hid hX
    have HQE := Lib.hid hq
    have hbX : Below W.heap.size W X := by rw [hX]; exact bl_al hb _
    have HX := Lib.hid (bl_tr HB.out hbX)
    have HPQ : Hid (X.heap[q]? = some (.cells (p.cs ao k cp) 28 (0, 0))) := Lib.hid (by rw [hX, hq]; exact heap_alloc_new _ _)
    have HO := Lib.hid (show X.ownsRow W.heap.size 5 1 (.slice ao k cp) k (u8s p.data) by rw [hX]; exact owns_below hown (bl_al (Below.refl _ _) _))
    have HNE : Hid (∀ x, (Value.slice ao k cp).ownBlock = some x → x < q) := Lib.hid (fun x hx => by rw [hq]; exact (hown.lt x hx).2)
    have HKL := Lib.hid hk
    have HFX := Lib.hid (HF.out.below hbX hfl)
    have HQW : Hid (w.heap.size ≤ q) := Lib.hid (by have := hb.size; have := HB.out.size; omega)
    clear hk hown hb hfl hX hq hbX
    go_upto_region 2 with fail
    rw [← HXE.out, ← HQE.out]
    obtain ⟨f0, f1, f2, f3, f4⟩ := HFX.out
    obtain ⟨x0, x1, x2, x3, x4, x5, x6, x7, x8, x9, x10, x11, x12⟩ := PkAt.of HPQ.out
    clear HXE HQE
    go_wp2_with fail
    refine (CG.out X).mono ?_
    rintro e w2 ⟨rfl, hb⟩
    have HP2 : Hid (w2.heap[q]? = some (.cells (p.cs ao k cp) 28 (0, 0))) := Lib.hid ((hb.block _ (lt_of_block HPQ.out)).trans HPQ.out)
    have HB2 := Lib.hid (bl_tr HX.out hb)
    have HO2 := Lib.hid (owns_below HO.out hb)
    have HF2 := Lib.hid (HFX.out.below hb (World.block_lt_of_cell? _ _ HFX.out.c0))
    clear hb HPQ HX HO HFX f0 f1 f2 f3 f4 x0 x1 x2 x3 x4 x5 x6 x7 x8 x9 x10 x11 x12
    obtain ⟨f0, f1, f2, f3, f4⟩ := HF2.out
    obtain ⟨x0, x1, x2, x3, x4, x5, x6, x7, x8, x9, x10, x11, x12⟩ := PkAt.of HP2.out
    have xf := fun o => frozen_of_row w2 q o _ _ HP2.out
    go_wp2_with fail
    obtain ⟨Y, hY⟩ : ∃ Y, Y = ((((w2.setCell ⟨q, 3, none⟩ (.int .i64 g.proto)).setCell ⟨q, 4, none⟩ (.int .u32 g.src)).setCell ⟨q, 5, none⟩ (.int .i64 g.sp)).setCell ⟨q, 6, none⟩ (.int .u32 g.dst)).setCell ⟨q, 7, none⟩ (.int .i64 g.dp) := ⟨_, rfl⟩
    have HYB : Hid (Below w.heap.size w Y) := Lib.hid (by rw [hY]; exact ((((HB2.out.setCell (p := ⟨q, 3, none⟩) HQW.out _).setCell (p := ⟨q, 4, none⟩) HQW.out _).setCell (p := ⟨q, 5, none⟩) HQW.out _).setCell (p := ⟨q, 6, none⟩) HQW.out _).setCell (p := ⟨q, 7, none⟩) HQW.out _)
    have HYG : Hid (w2.grownBy Y (some q)) := Lib.hid (by
      rw [hY]
      exact (((((grown_set _ _ _ _).trans (grown_set _ _ _ _)).trans (grown_set _ _ _ _)).trans (grown_set _ _ _ _)).trans (grown_set _ _ _ _)))
    have hOY : Y.ownsRow W.heap.size 5 1 (.slice ao k cp) k (u8s p.data) := by
      refine HO2.out.kept HYG.out ?_
      cases hv : (Value.slice ao k cp).ownBlock with
      | none => exact .inl rfl
      | some x => exact .inr (fun e => by have := HNE.out x hv; cases e; omega)
    have HYR : Hid (In Y ao k cp p.data) := Lib.hid (own_row hOY HKL.out.symm HTD.out)
    have HGE : Hid ((⟨p.tos, p.id, p.ttl, g.proto, g.src, g.sp, g.dst, g.dp, p.seq, p.ack, p.flags, p.win, p.data⟩ : Pk) = p.re g) := Lib.hid (by rw [HPR.out]; rfl)
    rw [← hY]
    clear hOY hY
    refine (refBuild_ok ⟨p.tos, p.id, p.ttl, g.proto, g.src, g.sp, g.dst, g.dp, p.seq, p.ack, p.flags, p.win, p.data⟩ ao k cp (by rw [HGE.out]; exact HQ.out) (by rw [HGE.out]; exact HTQ.out) Y HYR.out).mono ?_
    rintro e w3 ⟨a2, c2, rfl, hin, hb⟩
    have HI3 : Hid (In w3 a2 (20 + segLen ⟨p.tos, p.id, p.ttl, g.proto, g.src, g.sp, g.dst, g.dp, p.seq, p.ack, p.flags, p.win, p.data⟩) c2 (bts (p.re g))) := Lib.hid (by rw [← HGE.out]; exact hin)
    have HB3 := Lib.hid (bl_tr HYB.out hb)
    clear hin hb
    go_wp2
    go_ret2
    exact ⟨_, _, _, rfl, HI3.out, HB3.out⟩
  · have hS : Says l (dec l) .nilIface 0 true := .inl ⟨hi, rfl, rfl, rfl, rfl⟩
    have C := Lib.hid (fun W (hI : In W a n c l) => refParse_t hS a n c W hI hn)
    obtain ⟨p, hp⟩ : ∃ p, p = dec l := ⟨_, rfl⟩
    rw [← hp] at C hP
    by_cases hf : FlowOk g
    · have hpr : g.proto ≠ p.proto := fun h => hP ⟨hf, h⟩
      have tq : (g.proto != p.proto) = true := by simp [hpr]
      have CG := Lib.hid (fun W => refFlow_ok g hf W)
      clear hI h1 h2 hi hP hS hn hp hW hpr hf
      go_enter Try.func35, Try.ntmps35
      go_wp2_with fail
      rw [HW.out]
      refine (C.out W HIW.out).mono ?_
      rintro e w1 ⟨ao, k, cp, rfl, hk, hown, hb⟩
      have hfl := World.block_lt_of_cell? _ _ HF.out.c0
      obtain ⟨q, hq⟩ : ∃ q, q = w1.heap.size := ⟨_, rfl⟩
      obtain ⟨X, hX⟩ : ∃ X, X = w1.alloc (p.obj ao k cp) := ⟨_, rfl⟩
      have HXE := Lib.hid hX
      have HQE := Lib.hid hq
      have hbX : Below W.heap.size W X := by rw [hX]; exact bl_al hb _
      have HX := Lib.hid (bl_tr HB.out hbX)
      have HPQ : Hid (X.heap[q]? = some (.cells (p.cs ao k cp) 28 (0, 0))) := Lib.hid (by rw [hX, hq]; exact heap_alloc_new _ _)
      have HFX := Lib.hid (HF.out.below hbX hfl)
      clear hk hown hb hfl hX hq hbX
      go_upto_region 2 with fail
      rw [← HXE.out, ← HQE.out]
      obtain ⟨f0, f1, f2, f3, f4⟩ := HFX.out
      obtain ⟨x0, x1, x2, x3, x4, x5, x6, x7, x8, x9, x10, x11, x12⟩ := PkAt.of HPQ.out
      clear HXE HQE
      go_wp2_with fail
      refine (CG.out X).mono ?_
      rintro e w2 ⟨rfl, hb⟩
      have HP2 : Hid (w2.heap[q]? = some (.cells (p.cs ao k cp) 28 (0, 0))) := Lib.hid ((hb.block _ (lt_of_block HPQ.out)).trans HPQ.out)
      have HB2 := Lib.hid (bl_tr HX.out hb)
      have HF2 := Lib.hid (HFX.out.below hb (World.block_lt_of_cell? _ _ HFX.out.c0))
      clear hb HPQ HX HFX f0 f1 f2 f3 f4 x0 x1 x2 x3 x4 x5 x6 x7 x8 x9 x10 x11 x12
      obtain ⟨f0, f1, f2, f3, f4⟩ := HF2.out
      obtain ⟨x0, x1, x2, x3, x4, x5, x6, x7, x8, x9, x10, x11, x12⟩ := PkAt.of HP2.out
      go_wp2
      go_ret2
      exact ⟨none, 0, 0, rfl, in_nil _, HB2.out⟩
    · have CG := Lib.hid (fun W => refFlow_no g hf W)
      clear hI h1 h2 hi hP hS hn hp hW hf
      go_enter Try.func35, Try.ntmps35
      go_wp2_with fail
      rw [HW.out]
      refine (C.out W HIW.out).mono ?_
      rintro e w1 ⟨ao, k, cp, rfl, hk, hown, hb⟩
      have hfl := World.block_lt_of_cell? _ _ HF.out.c0
      obtain ⟨q, hq⟩ : ∃ q, q = w1.heap.size := ⟨_, rfl⟩
      obtain ⟨X, hX⟩ : ∃ X, X = w1.alloc (p.obj ao k cp) := ⟨_, rfl⟩
      have HXE := Lib.hid hX
      have HQE := Lib.hid hq
      have hbX : Below W.heap.size W X := by rw [hX]; exact bl_al hb _
      have HX := Lib.hid (bl_tr HB.out hbX)
      have HPQ : Hid (X.heap[q]? = some (.cells (p.cs ao k cp) 28 (0, 0))) := Lib.hid (by rw [hX, hq]; exact heap_alloc_new _ _)
      have HFX := Lib.hid (HF.out.below hbX hfl)
      clear hk hown hb hfl hX hq hbX
      go_upto_region 2 with fail
      rw [← HXE.out, ← HQE.out]
      obtain ⟨f0, f1, f2, f3, f4⟩ := HFX.out
      obtain ⟨x0, x1, x2, x3, x4, x5, x6, x7, x8, x9, x10, x11, x12⟩ := PkAt.of HPQ.out
      clear HXE HQE
      go_wp2_with fail
      refine (CG.out X).mono ?_
      rintro e w2 ⟨rfl, hb⟩
      have HP2 : Hid (w2.heap[q]? = some (.cells (p.cs ao k cp) 28 (0, 0))) := Lib.hid ((hb.block _ (lt_of_block HPQ.out)).trans HPQ.out)
      have HB2 := Lib.hid (bl_tr HX.out hb)
      have HF2 := Lib.hid (HFX.out.below hb (World.block_lt_of_cell? _ _ HFX.out.c0))
      clear hb HPQ HX HFX f0 f1 f2 f3 f4 x0 x1 x2 x3 x4 x5 x6 x7 x8 x9 x10 x11 x12
      obtain ⟨f0, f1, f2, f3, f4⟩ := HF2.out
      obtain ⟨x0, x1, x2, x3, x4, x5, x6, x7, x8, x9, x10, x11, x12⟩ := PkAt.of HP2.out
      go_wp2
      go_ret2
      exact ⟨none, 0, 0, rfl, in_nil _, HB2.out⟩
  · have hS : Says l zeroP (errno 2) 2 false := .inr ⟨hi, rfl, rfl, rfl, rfl⟩
    have C := Lib.hid (fun W (hI : In W a n c l) => refParse_t hS a n c W hI hn)
    clear hI h1 h2 hi hS hn hW
    go_enter Try.func35, Try.ntmps35
    go_wp2_with fail
    rw [HW.out]
    refine (C.out W HIW.out).mono ?_
    rintro e w1 ⟨ao, k, cp, rfl, hk, hown, hb⟩
    have HB1 := Lib.hid (bl_al (bl_tr HB.out hb) (zeroP.obj ao k cp))
    clear hb hk hown
    go_wp2
    go_ret2
    exact ⟨none, 0, 0, rfl, in_nil _, HB1.out⟩
end Go.Proofs.Ytfgajgdbojapcaa
