/- Contracts of rewrite's Source, Dest, Both and of the document's: a packet's bytes with another side or flow. Conditions: the row came in, of at most 2^62 bytes; the address is of 32 bits. -/
import Derived.Test.YtfbmeoiaedlgoaaRwB
import Derived.Test.YtfbmeoiaedlgoaaFlowA
namespace Go.Proofs.Ytfbmeoiaedlgoaa
open Go Go.RowKit
set_option linter.unusedVariables false
set_option linter.unusedSimpArgs false

/-- What a rewriting answers: the bytes of q, or an error. -/
def Out (l : List Int) (C : Prop) (q : Pk) (R : List Int) (E : Value) (f : Int) : Prop :=
  (Is l ∧ C ∧ R = bts q ∧ E = .nilIface ∧ f = 0) ∨ (Is l ∧ ¬ C ∧ R = [] ∧ E = errno 9 ∧ f = 9) ∨ (¬ Is l ∧ R = [] ∧ E = errno 2 ∧ f = 2)
theorem Out.some (l : List Int) (C : Prop) (q : Pk) : ∃ R E f, Out l C q R E f := by
  by_cases h : Is l
  · by_cases hC : C
    · exact ⟨_, _, _, .inl ⟨h, hC, rfl, rfl, rfl⟩⟩
    · exact ⟨_, _, _, .inr (.inl ⟨h, hC, rfl, rfl, rfl⟩)⟩
  · exact ⟨_, _, _, .inr (.inr ⟨h, rfl, rfl, rfl⟩)⟩
theorem num_out {l : List Int} {C : Prop} {q : Pk} {R : List Int} {E : Value} {f : Int} (h : Out l C q R E f) (w : World) : Calls Try.prog 13 #[E] w fun e w' => e = .returned (.int .i64 f) ∧ w = w' := by
  rcases h with ⟨_, _, _, rfl, rfl⟩ | ⟨_, _, _, rfl, rfl⟩ | ⟨_, _, rfl, rfl⟩
  · exact num_nil w
  · exact num_nine w
  · exact num_two w
/-- A row of the call's own, and an error. -/
def Rwn (w : World) (R : List Int) (E : Value) (e : Ending) (w' : World) : Prop :=
  ∃ ao k cp, e = .returned (.tuple #[.slice ao k cp, E]) ∧ k = R.length ∧ w'.ownsRow w.heap.size 5 1 (.slice ao k cp) k (u8s R) ∧ Below w.heap.size w w'
def reS (p : Pk) (A P : Int) : Pk := { p with src := A, sp := P }
def reD (p : Pk) (A P : Int) : Pk := { p with dst := A, dp := P }
def portOk (P : Int) : Prop := 0 ≤ P ∧ P ≤ 65535
theorem Is.row {w : World} {a : Option Addr} {n c : Nat} {l : List Int} (h : Is l) (hI : In w a n c l) : In w a n c (bts (dec l)) := by rw [h.2]; exact hI
theorem In.more {w w' : World} {a : Option Addr} {n c : Nat} {l : List Int} (h : In w a n c l) (hb : Below w.heap.size w w') : In w' a n c l := h.below hb

set_option maxRecDepth 100000 in
set_option maxHeartbeats 1000000 in
theorem source_t {l : List Int} {A P : Int} {R : List Int} {E : Value} {f : Int} (h : Out l (portOk P) (reS (dec l) A P) R E f) (hA : 0 ≤ A ∧ A < 4294967296) (a : Option Addr) (n c : Nat) (w : World) (hI : In w a n c l) (hn : n ≤ 4611686018427387904) :
    Calls Try.prog 23 #[.slice a n c, .int .u32 A, .int .i64 P] w (Rwn w R E) := by
  have HI := Lib.hid hI
  have HA := Lib.hid hA
  rcases h with ⟨hi, hP, rfl, rfl, rfl⟩ | ⟨hi, hP, rfl, rfl, rfl⟩ | ⟨hi, rfl, rfl, rfl⟩
  · have hS : Says l (dec l) .nilIface 0 true := .inl ⟨hi, rfl, rfl, rfl, rfl⟩
    have C := Lib.hid (fun W (hI : In W a n c l) => flow_t hS a n c W hI hn)
    have t := dec_typed hI.fit
    obtain ⟨p, hp⟩ : ∃ p, p = dec l := ⟨_, rfl⟩
    have hok : Ok p := by rw [hp]; exact hi.1
    rw [← hp] at C t
    have D := Lib.hid (fun W (hI : In W a n c l) => rwith_yes p (reS p A P) hok t ⟨hok.proto, hP, hok.dp⟩ rfl hA t.dst a n c W (by rw [hp]; exact hi.row hI))
    have HL : Hid ((bts (p.re (reS p A P))).length = n) := Lib.hid (by
      have e : (bts (p.re (reS p A P))).length = (bts p).length := by rw [bts_len, bts_len]; rfl
      rw [e, hp, hi.2, hI.len])
    rw [← hp]
    clear hI hA hi hP hS hn hp hok t
    go_enter Try.func23, Try.ntmps23
    go_wp2_with fail
    refine (C.out w HI.out).mono ?_
    rintro e w1 ⟨rfl, hb⟩
    have HB1 := Lib.hid hb
    have HI2 := Lib.hid (HI.out.below (bl_al hb (.cells #[.int .i64 p.proto, .int .u32 A, .int .i64 P, .int .u32 p.dst, .int .i64 p.dp] 44)))
    clear hb
    go_wp2_with fail
    refine (D.out _ HI2.out).mono ?_
    rintro e w2 ⟨g, cap, rfl, hown, hb⟩
    have HO := Lib.hid hown
    have HB2 := Lib.hid (bl_tr (bl_al HB1.out _) hb)
    have hs : w.heap.size ≤ (w1.alloc (.cells #[.int .i64 p.proto, .int .u32 A, .int .i64 P, .int .u32 p.dst, .int .i64 p.dp] 44)).heap.size := by have := HB1.out.size; simp; omega
    have HS := Lib.hid hs
    clear hown hb hs HI2
    go_wp2
    go_ret2
    exact ⟨_, n, cap, rfl, HL.out.symm, own_base HO.out.1 HS.out, HB2.out⟩
  · have hS : Says l (dec l) .nilIface 0 true := .inl ⟨hi, rfl, rfl, rfl, rfl⟩
    have C := Lib.hid (fun W (hI : In W a n c l) => flow_t hS a n c W hI hn)
    obtain ⟨p, hp⟩ : ∃ p, p = dec l := ⟨_, rfl⟩
    rw [← hp] at C
    have D := Lib.hid (fun W => rwith_no (reS p A P) (fun h => hP h.2.1) a n c W)
    clear hI hA hi hP hS hn hp
    go_enter Try.func23, Try.ntmps23
    go_wp2_with fail
    refine (C.out w HI.out).mono ?_
    rintro e w1 ⟨rfl, hb⟩
    have HB1 := Lib.hid hb
    clear hb
    go_wp2_with fail
    refine (D.out _).mono ?_
    rintro e w2 ⟨rfl, hb⟩
    have HB2 := Lib.hid (bl_tr (bl_al HB1.out _) hb)
    clear hb
    go_wp2
    go_ret2
    exact ⟨none, 0, 0, rfl, rfl, World.ownsRow_nil _ _ _ _, HB2.out⟩
  · have hS : Says l zeroP (errno 2) 2 false := .inr ⟨hi, rfl, rfl, rfl, rfl⟩
    have C := Lib.hid (fun W (hI : In W a n c l) => flow_t hS a n c W hI hn)
    clear hI hA hi hS hn
    go_enter Try.func23, Try.ntmps23
    go_wp2_with fail
    refine (C.out w HI.out).mono ?_
    rintro e w1 ⟨rfl, hb⟩
    have HB1 := Lib.hid (bl_al hb zeroP.fobj)
    clear hb
    go_wp2
    go_ret2
    exact ⟨none, 0, 0, rfl, rfl, World.ownsRow_nil _ _ _ _, HB1.out⟩

set_option maxRecDepth 100000 in
set_option maxHeartbeats 1000000 in
theorem dest_t {l : List Int} {A P : Int} {R : List Int} {E : Value} {f : Int} (h : Out l (portOk P) (reD (dec l) A P) R E f) (hA : 0 ≤ A ∧ A < 4294967296) (a : Option Addr) (n c : Nat) (w : World) (hI : In w a n c l) (hn : n ≤ 4611686018427387904) :
    Calls Try.prog 25 #[.slice a n c, .int .u32 A, .int .i64 P] w (Rwn w R E) := by
  have HI := Lib.hid hI
  have HA := Lib.hid hA
  rcases h with ⟨hi, hP, rfl, rfl, rfl⟩ | ⟨hi, hP, rfl, rfl, rfl⟩ | ⟨hi, rfl, rfl, rfl⟩
  · have hS : Says l (dec l) .nilIface 0 true := .inl ⟨hi, rfl, rfl, rfl, rfl⟩
    have C := Lib.hid (fun W (hI : In W a n c l) => flow_t hS a n c W hI hn)
    have t := dec_typed hI.fit
    obtain ⟨p, hp⟩ : ∃ p, p = dec l := ⟨_, rfl⟩
    have hok : Ok p := by rw [hp]; exact hi.1
    rw [← hp] at C t
    have D := Lib.hid (fun W (hI : In W a n c l) => rwith_yes p (reD p A P) hok t ⟨hok.proto, hok.sp, hP⟩ rfl t.src hA a n c W (by rw [hp]; exact hi.row hI))
    have HL : Hid ((bts (p.re (reD p A P))).length = n) := Lib.hid (by
      have e : (bts (p.re (reD p A P))).length = (bts p).length := by rw [bts_len, bts_len]; rfl
      rw [e, hp, hi.2, hI.len])
    rw [← hp]
    clear hI hA hi hP hS hn hp hok t
    go_enter Try.func25, Try.ntmps25
    go_wp2_with fail
    refine (C.out w HI.out).mono ?_
    rintro e w1 ⟨rfl, hb⟩
    have HB1 := Lib.hid hb
    have HI2 := Lib.hid (HI.out.below (bl_al hb (.cells #[.int .i64 p.proto, .int .u32 p.src, .int .i64 p.sp, .int .u32 A, .int .i64 P] 44)))
    clear hb
    go_wp2_with fail
    refine (D.out _ HI2.out).mono ?_
    rintro e w2 ⟨g, cap, rfl, hown, hb⟩
    have HO := Lib.hid hown
    have HB2 := Lib.hid (bl_tr (bl_al HB1.out _) hb)
    have hs : w.heap.size ≤ (w1.alloc (.cells #[.int .i64 p.proto, .int .u32 p.src, .int .i64 p.sp, .int .u32 A, .int .i64 P] 44)).heap.size := by have := HB1.out.size; simp; omega
    have HS := Lib.hid hs
    clear hown hb hs HI2
    go_wp2
    go_ret2
    exact ⟨_, n, cap, rfl, HL.out.symm, own_base HO.out.1 HS.out, HB2.out⟩
  · have hS : Says l (dec l) .nilIface 0 true := .inl ⟨hi, rfl, rfl, rfl, rfl⟩
    have C := Lib.hid (fun W (hI : In W a n c l) => flow_t hS a n c W hI hn)
    obtain ⟨p, hp⟩ : ∃ p, p = dec l := ⟨_, rfl⟩
    rw [← hp] at C
    have D := Lib.hid (fun W => rwith_no (reD p A P) (fun h => hP h.2.2) a n c W)
    clear hI hA hi hP hS hn hp
    go_enter Try.func25, Try.ntmps25
    go_wp2_with fail
    refine (C.out w HI.out).mono ?_
    rintro e w1 ⟨rfl, hb⟩
    have HB1 := Lib.hid hb
    clear hb
    go_wp2_with fail
    refine (D.out _).mono ?_
    rintro e w2 ⟨rfl, hb⟩
    have HB2 := Lib.hid (bl_tr (bl_al HB1.out _) hb)
    clear hb
    go_wp2
    go_ret2
    exact ⟨none, 0, 0, rfl, rfl, World.ownsRow_nil _ _ _ _, HB2.out⟩
  · have hS : Says l zeroP (errno 2) 2 false := .inr ⟨hi, rfl, rfl, rfl, rfl⟩
    have C := Lib.hid (fun W (hI : In W a n c l) => flow_t hS a n c W hI hn)
    clear hI hA hi hS hn
    go_enter Try.func25, Try.ntmps25
    go_wp2_with fail
    refine (C.out w HI.out).mono ?_
    rintro e w1 ⟨rfl, hb⟩
    have HB1 := Lib.hid (bl_al hb zeroP.fobj)
    clear hb
    go_wp2
    go_ret2
    exact ⟨none, 0, 0, rfl, rfl, World.ownsRow_nil _ _ _ _, HB1.out⟩

set_option maxRecDepth 100000 in
set_option maxHeartbeats 1000000 in
theorem both_t {l : List Int} {g : Pk} {R : List Int} {E : Value} {f : Int} (h : Out l (FlowOk g ∧ g.proto = (dec l).proto) ((dec l).re g) R E f) (h1 : 0 ≤ g.src ∧ g.src < 4294967296) (h2 : 0 ≤ g.dst ∧ g.dst < 4294967296) (a : Option Addr) (n c : Nat) (w : World) (hI : In w a n c l) (hn : n ≤ 4611686018427387904) :
    Calls Try.prog 27 #[.slice a n c, g.flow] w (Rwn w R E) := by
  have HI := Lib.hid hI
  obtain ⟨W, hW⟩ : ∃ W, w.alloc g.fobj = W := ⟨_, rfl⟩
  have HF := Lib.hid (show FlAt W w.heap.size g by rw [← hW]; exact FlAt.new _ _)
  have HB := Lib.hid (show Below w.heap.size w W by rw [← hW]; exact bl_al (Below.refl _ _) _)
  have HW := Lib.hid hW
  have HIW := Lib.hid (hI.below HB.out)
  rcases h with ⟨hi, hP, rfl, rfl, rfl⟩ | ⟨hi, hP, rfl, rfl, rfl⟩ | ⟨hi, rfl, rfl, rfl⟩
  · have hS : Says l (dec l) .nilIface 0 true := .inl ⟨hi, rfl, rfl, rfl, rfl⟩
    have C := Lib.hid (fun W (hI : In W a n c l) => flow_t hS a n c W hI hn)
    have t := dec_typed hI.fit
    obtain ⟨p, hp⟩ : ∃ p, p = dec l := ⟨_, rfl⟩
    have hok : Ok p := by rw [hp]; exact hi.1
    rw [← hp] at C t hP
    have D := Lib.hid (fun W (hI : In W a n c l) => rwith_yes p g hok t hP.1 hP.2 h1 h2 a n c W (by rw [hp]; exact hi.row hI))
    have HL : Hid ((bts (p.re g)).length = n) := Lib.hid (by
      have e : (bts (p.re g)).length = (bts p).length := by rw [bts_len, bts_len]; rfl
      rw [e, hp, hi.2, hI.len])
    have tq : (g.proto != p.proto) = false := by simp [hP.2]
    rw [← hp]
    clear hI h1 h2 hi hP hS hn hp hok t hW
    go_enter Try.func27, Try.ntmps27
    go_wp2_with fail
    rw [HW.out]
    refine (C.out W HIW.out).mono ?_
    rintro e w1 ⟨rfl, hb⟩
    have hfl := World.block_lt_of_cell? _ _ HF.out.c0
    have HB1 := Lib.hid (bl_al (bl_tr HB.out hb) p.fobj)
    have HI2 := Lib.hid (HI.out.below HB1.out)
    have hbX : Below W.heap.size W (w1.alloc p.fobj) := bl_al hb _
    have HF1 := Lib.hid (HF.out.below hbX hfl)
    have HG : Hid (FlAt (w1.alloc p.fobj) w1.heap.size p) := Lib.hid (FlAt.new _ _)
    obtain ⟨q, hq⟩ : ∃ q, q = w1.heap.size := ⟨_, rfl⟩
    obtain ⟨X, hX⟩ : ∃ X, X = w1.alloc p.fobj := ⟨_, rfl⟩
    rw [← hX] at HB1 HI2 HF1
    rw [← hX, ← hq] at HG
    have HXE := Lib.hid hX
    have HQE := Lib.hid hq
    clear hb hbX hfl hX hq
    go_upto_region 2 with fail
    rw [← HXE.out, ← HQE.out]
    obtain ⟨f0, f1, f2, f3, f4⟩ := HF1.out
    obtain ⟨g0, g1, g2, g3, g4⟩ := HG.out
    clear HXE HQE
    go_wp2_with fail
    refine (D.out X HI2.out).mono ?_
    rintro e w2 ⟨gg, cap, rfl, hown, hb⟩
    have HO := Lib.hid hown
    have HB2 := Lib.hid (bl_tr HB1.out hb)
    clear hown hb
    go_wp2
    go_ret2
    exact ⟨_, n, cap, rfl, HL.out.symm, own_base HO.out.1 HB1.out.size, HB2.out⟩
  · have hS : Says l (dec l) .nilIface 0 true := .inl ⟨hi, rfl, rfl, rfl, rfl⟩
    have C := Lib.hid (fun W (hI : In W a n c l) => flow_t hS a n c W hI hn)
    obtain ⟨p, hp⟩ : ∃ p, p = dec l := ⟨_, rfl⟩
    rw [← hp] at C hP
    by_cases hpr : g.proto = p.proto
    · have D := Lib.hid (fun W => rwith_no g (fun h => hP ⟨h, hpr⟩) a n c W)
      have tq : (g.proto != p.proto) = false := by simp [hpr]
      clear hI h1 h2 hi hP hS hn hp hW hpr
      go_enter Try.func27, Try.ntmps27
      go_wp2_with fail
      rw [HW.out]
      refine (C.out W HIW.out).mono ?_
      rintro e w1 ⟨rfl, hb⟩
      have hfl := World.block_lt_of_cell? _ _ HF.out.c0
      have HB1 := Lib.hid (bl_al (bl_tr HB.out hb) p.fobj)
      have hbX : Below W.heap.size W (w1.alloc p.fobj) := bl_al hb _
      have HF1 := Lib.hid (HF.out.below hbX hfl)
      have HG : Hid (FlAt (w1.alloc p.fobj) w1.heap.size p) := Lib.hid (FlAt.new _ _)
      obtain ⟨q, hq⟩ : ∃ q, q = w1.heap.size := ⟨_, rfl⟩
      obtain ⟨X, hX⟩ : ∃ X, X = w1.alloc p.fobj := ⟨_, rfl⟩
      rw [← hX] at HB1 HF1
      rw [← hX, ← hq] at HG
      have HXE := Lib.hid hX
      have HQE := Lib.hid hq
      clear hb hbX hfl hX hq
      go_upto_region 2 with fail
      rw [← HXE.out, ← HQE.out]
      obtain ⟨f0, f1, f2, f3, f4⟩ := HF1.out
      obtain ⟨g0, g1, g2, g3, g4⟩ := HG.out
      clear HXE HQE
      go_wp2_with fail
      refine (D.out X).mono ?_
      rintro e w2 ⟨rfl, hb⟩
      have HB2 := Lib.hid (bl_tr HB1.out hb)
      clear hb
      go_wp2
      go_ret2
      exact ⟨none, 0, 0, rfl, rfl, World.ownsRow_nil _ _ _ _, HB2.out⟩
    · have tq : (g.proto != p.proto) = true := by simp [hpr]
      clear hI h1 h2 hi hP hS hn hp hW hpr
      go_enter Try.func27, Try.ntmps27
      go_wp2_with fail
      rw [HW.out]
      refine (C.out W HIW.out).mono ?_
      rintro e w1 ⟨rfl, hb⟩
      have hfl := World.block_lt_of_cell? _ _ HF.out.c0
      have HB1 := Lib.hid (bl_al (bl_tr HB.out hb) p.fobj)
      have hbX : Below W.heap.size W (w1.alloc p.fobj) := bl_al hb _
      have HF1 := Lib.hid (HF.out.below hbX hfl)
      have HG : Hid (FlAt (w1.alloc p.fobj) w1.heap.size p) := Lib.hid (FlAt.new _ _)
      obtain ⟨q, hq⟩ : ∃ q, q = w1.heap.size := ⟨_, rfl⟩
      obtain ⟨X, hX⟩ : ∃ X, X = w1.alloc p.fobj := ⟨_, rfl⟩
      rw [← hX] at HB1 HF1
      rw [← hX, ← hq] at HG
      have HXE := Lib.hid hX
      have HQE := Lib.hid hq
      clear hb hbX hfl hX hq
      go_upto_region 2 with fail
      rw [← HXE.out, ← HQE.out]
      obtain ⟨f0, f1, f2, f3, f4⟩ := HF1.out
      obtain ⟨g0, g1, g2, g3, g4⟩ := HG.out
      clear HXE HQE
      go_wp2
      go_ret2
      exact ⟨none, 0, 0, rfl, rfl, World.ownsRow_nil _ _ _ _, HB1.out⟩
  · have hS : Says l zeroP (errno 2) 2 false := .inr ⟨hi, rfl, rfl, rfl, rfl⟩
    have C := Lib.hid (fun W (hI : In W a n c l) => flow_t hS a n c W hI hn)
    clear hI h1 h2 hi hS hn hW
    go_enter Try.func27, Try.ntmps27
    go_wp2_with fail
    rw [HW.out]
    refine (C.out W HIW.out).mono ?_
    rintro e w1 ⟨rfl, hb⟩
    have HB1 := Lib.hid (bl_al (bl_tr HB.out hb) zeroP.fobj)
    clear hb
    go_wp2
    go_ret2
    exact ⟨none, 0, 0, rfl, rfl, World.ownsRow_nil _ _ _ _, HB1.out⟩
end Go.Proofs.Ytfbmeoiaedlgoaa
