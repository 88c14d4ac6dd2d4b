/- Contracts of rewrite's Like and the document's; of RewriteLikes: true. Conditions: the rows came in, of at most 2^62 bytes. -/
import Derived.Test.YtfgajgdbojapcaaAlvR
namespace Go.Proofs.Ytfgajgdbojapcaa
open Go Go.RowKit
set_option linter.unusedVariables false
set_option linter.unusedSimpArgs false

/-- The flow of another packet, whole. -/
def setF (p q : Pk) : Pk := { p with proto := q.proto, src := q.src, sp := q.sp, dst := q.dst, dp := q.dp }
/-- z tells whether two rows are like one another. -/
def LikeIs (l m : List Int) (z : Bool) : Prop := z = true ↔ Is l ∧ Is m ∧ (dec l).proto = (dec m).proto ∧ sameP (setF (dec l) (dec m)) (dec m) = true
theorem LikeIs.some (l m : List Int) : ∃ z, LikeIs l m z := by
  by_cases h : Is l ∧ Is m ∧ (dec l).proto = (dec m).proto ∧ sameP (setF (dec l) (dec m)) (dec m) = true
  · exact ⟨true, by unfold LikeIs; simp [h]⟩
  · exact ⟨false, by unfold LikeIs; simp; exact fun a b c => by simpa using fun d => h ⟨a, b, c, d⟩⟩
theorem bts_inj {p q : Pk} (hp : Ok p) (tp : Typed p) (hq : Ok q) (tq : Typed q) (h : bts p = bts q) : p = q := by
  rw [← dec_bts hp tp, h, dec_bts hq tq]
theorem like_same {l m : List Int} (hl : Is l) (hm : Is m) (fl : fit l) (fm : fit m) (hp : (dec l).proto = (dec m).proto) : same (bts ((dec m).re (dec l))) l = sameP (setF (dec l) (dec m)) (dec m) := by
  have tl := dec_typed fl
  have tm := dec_typed fm
  have el := hl.2
  obtain ⟨p, hpp⟩ : ∃ p, p = dec l := ⟨_, rfl⟩
  obtain ⟨q, hqq⟩ : ∃ q, q = dec m := ⟨_, rfl⟩
  have okp : Ok p := by rw [hpp]; exact hl.1
  have okq : Ok q := by rw [hqq]; exact hm.1
  rw [← hpp] at tl el hp ⊢
  rw [← hqq] at tm hp ⊢
  have okr : Ok (q.re p) := re_ok okq ⟨okp.proto, okp.sp, okp.dp⟩
  have tyr : Typed (q.re p) := re_typed tm tl.src tl.dst
  rw [Bool.eq_iff_iff]
  have e1 : same (bts (q.re p)) l = true ↔ q.re p = p := by
    unfold same
    rw [decide_eq_true_iff]
    constructor
    · intro h
      rw [← el] at h
      exact bts_inj okr tyr okp tl h
    · intro h
      rw [h, el]
  rw [e1]
  obtain ⟨a0, a1, a2, a3, a4, a5, a6, a7, a8, a9, a10, a11, a12⟩ := p
  obtain ⟨b0, b1, b2, b3, b4, b5, b6, b7, b8, b9, b10, b11, b12⟩ := q
  simp only at hp
  subst hp
  constructor
  · intro h
    simp only [Pk.re, Pk.mk.injEq] at h
    obtain ⟨rfl, rfl, rfl, _, _, _, _, _, rfl, rfl, rfl, rfl, rfl⟩ := h
    simp [setF, sameP, flB, same]
  · intro h
    simp [setF, sameP, flB, same] at h
    obtain ⟨rfl, rfl, rfl, rfl, rfl, rfl, rfl, h12⟩ := h
    obtain rfl := of_decide_eq_true h12
    rfl
theorem like_no {l m : List Int} {z : Bool} (hz : LikeIs l m z) (h : ¬ (Is l ∧ Is m ∧ (dec l).proto = (dec m).proto)) : z = false := by
  cases z with
  | false => rfl
  | true => exact absurd ⟨(hz.1 rfl).1, (hz.1 rfl).2.1, (hz.1 rfl).2.2.1⟩ h
theorem like_yes {l m : List Int} {z : Bool} (hz : LikeIs l m z) (h : Is l ∧ Is m ∧ (dec l).proto = (dec m).proto) : z = sameP (setF (dec l) (dec m)) (dec m) := by
  rw [Bool.eq_iff_iff]
  exact ⟨fun e => (hz.1 e).2.2.2, fun e => hz.2 ⟨h.1, h.2.1, h.2.2, e⟩⟩

set_option maxRecDepth 100000 in
set_option maxHeartbeats 1000000 in
theorem like_any (a b : Option Addr) (n c k d : Nat) (l m : List Int) (w : World) (hI : In w a n c l) (hJ : In w b k d m) (hn : n ≤ 4611686018427387904) (hk : k ≤ 4611686018427387904) (z : Bool) (hz : LikeIs l m z) :
    Calls Try.prog 38 #[.slice a n c, .slice b k d] w fun e w' => e = .returned (.bool z) ∧ Below w.heap.size w w' := by
  have HI := Lib.hid hI
  have HJ := Lib.hid hJ
  by_cases hl : Is l
  · have hS : Says l (dec l) .nilIface 0 true := .inl ⟨hl, rfl, rfl, rfl, rfl⟩
    have C := Lib.hid (fun W (h : In W a n c l) => flow_t hS a n c W h hn)
    have tl := dec_typed hI.fit
    have tm := dec_typed hJ.fit
    have hfl : FlowOk (dec l) := ⟨hl.1.proto, hl.1.sp, hl.1.dp⟩
    obtain ⟨R, E, f, ho⟩ := Out.some m (FlowOk (dec l) ∧ (dec l).proto = (dec m).proto) ((dec m).re (dec l))
    have D := Lib.hid (fun W (h : In W b k d m) => both_t ho tl.src tl.dst b k d W h hk)
    rcases ho with ⟨hm, hP, rfl, rfl, rfl⟩ | ⟨hm, hP, rfl, rfl, rfl⟩ | ⟨hm, rfl, rfl, rfl⟩
    · have HL : Hid (z = same (bts ((dec m).re (dec l))) l) := Lib.hid (by rw [like_yes hz ⟨hl, hm, hP.2⟩, like_same hl hm hI.fit hJ.fit hP.2])
      have HFB := Lib.hid (fit_bts (re_typed tm tl.src tl.dst).data)
      obtain ⟨p, hp⟩ : ∃ p, p = dec l := ⟨_, rfl⟩
      rw [← hp] at C D HL HFB
      obtain ⟨R, hR⟩ : ∃ R, R = bts ((dec m).re p) := ⟨_, rfl⟩
      rw [← hR] at D HL HFB
      clear hI hJ hl hS tl tm hfl hm hP hp hR hz
      go_enter Try.func38, Try.ntmps38
      go_wp2_with fail
      refine (C.out w HI.out).mono ?_
      rintro e w1 ⟨rfl, hb⟩
      obtain ⟨X, hX⟩ : ∃ X, X = w1.alloc p.fobj := ⟨_, rfl⟩
      have HB1 : Hid (Below w.heap.size w X) := Lib.hid (by rw [hX]; exact bl_al hb _)
      have HJ1 := Lib.hid (HJ.out.below HB1.out)
      have HXE := Lib.hid hX
      clear hb hX
      go_wp2_with fail
      rw [← HXE.out]
      refine (D.out X HJ1.out).mono ?_
      rintro e w2 ⟨ao, kk, cp, rfl, hk2, hown, hb⟩
      have HB2 := Lib.hid (bl_tr HB1.out hb)
      have hr := own_row hown hk2.symm HFB.out
      have hi2 := HI.out.below HB2.out
      have CE := Lib.hid (equal_any R l _ _ _ _ _ _ w2 hr.here hi2.here hr.len hi2.len HFB.out hi2.fit)
      obtain ⟨y, hy⟩ : ∃ y, y = same R l := ⟨_, rfl⟩
      rw [← hy] at CE HL
      clear hb hown hk2 hr hi2 hy
      go_wp2_with (go_at_call 57; refine CE.out.mono ?_; rintro e _ ⟨rfl, rfl⟩)
      go_ret
      exact ⟨by rw [HL.out]; rfl, HB2.out⟩
    all_goals
      have HL : Hid (z = false) := Lib.hid (like_no hz (fun e => by first | exact hP ⟨hfl, e.2.2⟩ | exact hm e.2.1))
      obtain ⟨p, hp⟩ : ∃ p, p = dec l := ⟨_, rfl⟩
      rw [← hp] at C D
      clear hI hJ hl hS tl tm hfl hm hp hz
      go_enter Try.func38, Try.ntmps38
      go_wp2_with fail
      refine (C.out w HI.out).mono ?_
      rintro e w1 ⟨rfl, hb⟩
      obtain ⟨X, hX⟩ : ∃ X, X = w1.alloc p.fobj := ⟨_, rfl⟩
      have HB1 : Hid (Below w.heap.size w X) := Lib.hid (by rw [hX]; exact bl_al hb _)
      have HJ1 := Lib.hid (HJ.out.below HB1.out)
      have HXE := Lib.hid hX
      clear hb hX
      go_wp2_with fail
      rw [← HXE.out]
      refine (D.out X HJ1.out).mono ?_
      rintro e w2 ⟨ao, kk, cp, rfl, hk2, hown, hb⟩
      have HB2 := Lib.hid (bl_tr HB1.out hb)
      clear hb hown hk2
      go_wp2
      go_ret
      exact ⟨by rw [HL.out]; rfl, HB2.out⟩
  · have hS : Says l zeroP (errno 2) 2 false := .inr ⟨hl, rfl, rfl, rfl, rfl⟩
    have C := Lib.hid (fun W (h : In W a n c l) => flow_t hS a n c W h hn)
    have HL : Hid (z = false) := Lib.hid (like_no hz (fun e => hl e.1))
    clear hI hJ hl hS hz
    go_enter Try.func38, Try.ntmps38
    go_wp2_with fail
    refine (C.out w HI.out).mono ?_
    rintro e w1 ⟨rfl, hb⟩
    have HB1 := Lib.hid (bl_al hb zeroP.fobj)
    clear hb
    go_wp2
    go_ret
    exact ⟨by rw [HL.out]; rfl, HB1.out⟩

set_option maxRecDepth 100000 in
set_option maxHeartbeats 1000000 in
theorem refLike_any (a b : Option Addr) (n c k d : Nat) (l m : List Int) (w : World) (hI : In w a n c l) (hJ : In w b k d m) (hn : n ≤ 4611686018427387904) (hk : k ≤ 4611686018427387904) (z : Bool) (hz : LikeIs l m z) :
    Calls Try.prog 39 #[.slice a n c, .slice b k d] w fun e w' => e = .returned (.bool z) ∧ Below w.heap.size w w' := by
  obtain ⟨p, E, f, bp, hS⟩ := Says.some l
  obtain ⟨q, F, g, bq, hT⟩ := Says.some m
  have HI := Lib.hid hI
  have HJ := Lib.hid hJ
  have C := Lib.hid (fun W (h : In W a n c l) => refParse_t hS a n c W h hn)
  have D := Lib.hid (fun W (h : In W b k d m) => refParse_t hT b k d W h hk)
  have HTP := Lib.hid (hS.typed hI.fit)
  have HTQ := Lib.hid (hT.typed hJ.fit)
  have hfn : (f != 0) = !bp := by rw [bne, hS.ok]
  have hgn : (g != 0) = !bq := by rw [bne, hT.ok]
  have hL : z = (bp && bq && (p.proto == q.proto) && sameP (setF p q) q) := by
    rcases hS with ⟨hl, rfl, _, _, rfl⟩ | ⟨hl, rfl, _, _, rfl⟩
    · rcases hT with ⟨hm, rfl, _, _, rfl⟩ | ⟨hm, rfl, _, _, rfl⟩
      · by_cases hp : (dec l).proto = (dec m).proto
        · rw [like_yes hz ⟨hl, hm, hp⟩]; simp [hp]
        · rw [like_no hz (fun e => hp e.2.2)]; simp [hp]
      · rw [like_no hz (fun e => hm e.2.1)]; simp
    · rw [like_no hz (fun e => hl e.1)]; simp
  have HL := Lib.hid hL
  clear hI hJ hS hT hL hz
  cases bp with
  | false =>
    have h1 : (f != 0) = true := by rw [hfn]; rfl
    have HZ : Hid (z = false) := Lib.hid (by rw [HL.out]; rfl)
    clear hfn hgn
    go_enter Try.func39, Try.ntmps39
    go_wp2_with fail
    refine (C.out w HI.out).mono ?_
    rintro e w1 ⟨ao, k1, cp, rfl, hk1, hown, hb⟩
    have HB1 := Lib.hid (bl_al hb (p.obj ao k1 cp))
    have HJ1 := Lib.hid (HJ.out.below HB1.out)
    clear hb hown hk1
    go_wp2_with fail
    refine (D.out _ HJ1.out).mono ?_
    rintro e w2 ⟨ao2, k2, cp2, rfl, hk2, hown, hb⟩
    have HB2 := Lib.hid (bl_al (bl_tr HB1.out hb) (q.obj ao2 k2 cp2))
    clear hb hown hk2
    go_wp2
    go_ret
    exact ⟨by rw [HZ.out]; rfl, HB2.out⟩
  | true =>
    have h1 : (f != 0) = false := by rw [hfn]; rfl
    cases bq with
    | false =>
      have h2 : (g != 0) = true := by rw [hgn]; rfl
      have HZ : Hid (z = false) := Lib.hid (by rw [HL.out]; simp)
      clear hfn hgn
      go_enter Try.func39, Try.ntmps39
      go_wp2_with fail
      refine (C.out w HI.out).mono ?_
      rintro e w1 ⟨ao, k1, cp, rfl, hk1, hown, hb⟩
      obtain ⟨q1, hq1⟩ : ∃ q, q = w1.heap.size := ⟨_, rfl⟩
      obtain ⟨X1, hX1⟩ : ∃ X, X = w1.alloc (p.obj ao k1 cp) := ⟨_, rfl⟩
      have HB1 : Hid (Below w.heap.size w X1) := Lib.hid (by rw [hX1]; exact bl_al hb _)
      have HJ1 := Lib.hid (HJ.out.below HB1.out)
      have HH1 : Hid (X1.heap[q1]? = some (.cells (p.cs ao k1 cp) 28 (0, 0))) := Lib.hid (by rw [hX1, hq1]; exact heap_alloc_new _ _)
      have HO1 : Hid (X1.ownsRow w.heap.size 5 1 (.slice ao k1 cp) k1 (u8s p.data)) := Lib.hid (by rw [hX1]; exact owns_below hown (bl_al (Below.refl _ _) _))
      have HN1 : Hid (∀ x, (Value.slice ao k1 cp).ownBlock = some x → x < q1) := Lib.hid (fun x hx => by rw [hq1]; exact (hown.lt x hx).2)
      have HK1 := Lib.hid hk1
      have HQW : Hid (w.heap.size ≤ q1) := Lib.hid (by rw [hq1]; exact hb.size)
      have HXE1 := Lib.hid hX1
      have HQE1 := Lib.hid hq1
      clear hb hown hk1 hq1 hX1
      go_upto_region 2 with fail
      rw [← HXE1.out, ← HQE1.out]
      clear HXE1 HQE1
      go_wp2_with fail
      refine (D.out X1 HJ1.out).mono ?_
      rintro e w2 ⟨ao2, k2, cp2, rfl, hk2, hown, hb⟩
      obtain ⟨q2, hq2⟩ : ∃ q, q = w2.heap.size := ⟨_, rfl⟩
      obtain ⟨X2, hX2⟩ : ∃ X, X = w2.alloc (q.obj ao2 k2 cp2) := ⟨_, rfl⟩
      have hb2 : Below X1.heap.size X1 X2 := by rw [hX2]; exact bl_al hb _
      have HB2 := Lib.hid (bl_tr HB1.out hb2)
      have HH2 : Hid (X2.heap[q1]? = some (.cells (p.cs ao k1 cp) 28 (0, 0))) := Lib.hid ((hb2.block _ (lt_of_block HH1.out)).trans HH1.out)
      have HG2 : Hid (X2.heap[q2]? = some (.cells (q.cs ao2 k2 cp2) 28 (0, 0))) := Lib.hid (by rw [hX2, hq2]; exact heap_alloc_new _ _)
      have HO2 := Lib.hid (owns_below HO1.out hb2)
      have HP2 : Hid (X2.ownsRow X1.heap.size 5 1 (.slice ao2 k2 cp2) k2 (u8s q.data)) := Lib.hid (by rw [hX2]; exact owns_below hown (bl_al (Below.refl _ _) _))
      have HNE : Hid (q1 < X1.heap.size ∧ q1 ≠ q2) := Lib.hid ⟨lt_of_block HH1.out, by have := lt_of_block HH1.out; have := hb.size; omega⟩
      have HK2 := Lib.hid hk2
      have HXE2 := Lib.hid hX2
      have HQE2 := Lib.hid hq2
      clear hb hown hk2 hq2 hX2 hb2 HJ1 HH1 HO1 HB1 C D
      go_upto_region 3 with fail
      rw [← HXE2.out, ← HQE2.out]
      clear HXE2 HQE2
      obtain ⟨x0, x1, x2, x3, x4, x5, x6, x7, x8, x9, x10, x11, x12⟩ := PkAt.of HH2.out
      obtain ⟨y0, y1, y2, y3, y4, y5, y6, y7, y8, y9, y10, y11, y12⟩ := PkAt.of HG2.out
      go_wp2
      go_ret
      exact ⟨by rw [HZ.out]; rfl, HB2.out⟩
    | true =>
      have h2 : (g != 0) = false := by rw [hgn]; rfl
      by_cases hpr : p.proto = q.proto
      · have h3 : (p.proto != q.proto) = false := by simp [hpr]
        have HZ : Hid (z = sameP (setF p q) q) := Lib.hid (by rw [HL.out]; simp [hpr])
        clear hfn hgn hpr
        go_enter Try.func39, Try.ntmps39
        go_wp2_with fail
        refine (C.out w HI.out).mono ?_
        rintro e w1 ⟨ao, k1, cp, rfl, hk1, hown, hb⟩
        obtain ⟨q1, hq1⟩ : ∃ q, q = w1.heap.size := ⟨_, rfl⟩
        obtain ⟨X1, hX1⟩ : ∃ X, X = w1.alloc (p.obj ao k1 cp) := ⟨_, rfl⟩
        have HB1 : Hid (Below w.heap.size w X1) := Lib.hid (by rw [hX1]; exact bl_al hb _)
        have HJ1 := Lib.hid (HJ.out.below HB1.out)
        have HH1 : Hid (X1.heap[q1]? = some (.cells (p.cs ao k1 cp) 28 (0, 0))) := Lib.hid (by rw [hX1, hq1]; exact heap_alloc_new _ _)
        have HO1 : Hid (X1.ownsRow w.heap.size 5 1 (.slice ao k1 cp) k1 (u8s p.data)) := Lib.hid (by rw [hX1]; exact owns_below hown (bl_al (Below.refl _ _) _))
        have HN1 : Hid (∀ x, (Value.slice ao k1 cp).ownBlock = some x → x < q1) := Lib.hid (fun x hx => by rw [hq1]; exact (hown.lt x hx).2)
        have HK1 := Lib.hid hk1
        have HQW : Hid (w.heap.size ≤ q1) := Lib.hid (by rw [hq1]; exact hb.size)
        have HXE1 := Lib.hid hX1
        have HQE1 := Lib.hid hq1
        clear hb hown hk1 hq1 hX1
        go_upto_region 2 with fail
        rw [← HXE1.out, ← HQE1.out]
        clear HXE1 HQE1
        go_wp2_with fail
        refine (D.out X1 HJ1.out).mono ?_
        rintro e w2 ⟨ao2, k2, cp2, rfl, hk2, hown, hb⟩
        obtain ⟨q2, hq2⟩ : ∃ q, q = w2.heap.size := ⟨_, rfl⟩
        obtain ⟨X2, hX2⟩ : ∃ X, X = w2.alloc (q.obj ao2 k2 cp2) := ⟨_, rfl⟩
        have hb2 : Below X1.heap.size X1 X2 := by rw [hX2]; exact bl_al hb _
        have HB2 := Lib.hid (bl_tr HB1.out hb2)
        have HH2 : Hid (X2.heap[q1]? = some (.cells (p.cs ao k1 cp) 28 (0, 0))) := Lib.hid ((hb2.block _ (lt_of_block HH1.out)).trans HH1.out)
        have HG2 : Hid (X2.heap[q2]? = some (.cells (q.cs ao2 k2 cp2) 28 (0, 0))) := Lib.hid (by rw [hX2, hq2]; exact heap_alloc_new _ _)
        have HO2 := Lib.hid (owns_below HO1.out hb2)
        have HP2 : Hid (X2.ownsRow X1.heap.size 5 1 (.slice ao2 k2 cp2) k2 (u8s q.data)) := Lib.hid (by rw [hX2]; exact owns_below hown (bl_al (Below.refl _ _) _))
        have HNE : Hid (q1 < X1.heap.size ∧ q1 ≠ q2) := Lib.hid ⟨lt_of_block HH1.out, by have := lt_of_block HH1.out; have := hb.size; omega⟩
        have HK2 := Lib.hid hk2
        have HXE2 := Lib.hid hX2
        have HQE2 := Lib.hid hq2
        clear hb hown hk2 hq2 hX2 hb2 HJ1 HH1 HO1 HB1 C D
        go_upto_region 3 with fail
        rw [← HXE2.out, ← HQE2.out]
        clear HXE2 HQE2
        obtain ⟨x0, x1, x2, x3, x4, x5, x6, x7, x8, x9, x10, x11, x12⟩ := PkAt.of HH2.out
        obtain ⟨y0, y1, y2, y3, y4, y5, y6, y7, y8, y9, y10, y11, y12⟩ := PkAt.of HG2.out
        have xf := fun o => frozen_of_row X2 q1 o _ _ HH2.out
        have hne := HNE.out.2
        have hne2 : ¬ q1 = q2 := hne
        have hne3 : ¬ q2 = q1 := fun e => hne e.symm
        go_wp2_with fail
        obtain ⟨Y, hY⟩ : ∃ Y, Y = ((((X2.setCell ⟨q1, 3, none⟩ (.int .i64 q.proto)).setCell ⟨q1, 4, none⟩ (.int .u32 q.src)).setCell ⟨q1, 5, none⟩ (.int .i64 q.sp)).setCell ⟨q1, 6, none⟩ (.int .u32 q.dst)).setCell ⟨q1, 7, none⟩ (.int .i64 q.dp) := ⟨_, rfl⟩
        have HYG : Hid (X2.grownBy Y (some q1)) := Lib.hid (by
          rw [hY]
          exact (((((grown_set _ _ _ _).trans (grown_set _ _ _ _)).trans (grown_set _ _ _ _)).trans (grown_set _ _ _ _)).trans (grown_set _ _ _ _)))
        have hOY : Y.ownsRow w.heap.size 5 1 (.slice ao k1 cp) k1 (u8s p.data) := by
          refine HO2.out.kept HYG.out ?_
          cases hv : (Value.slice ao k1 cp).ownBlock with
          | none => exact .inl rfl
          | some x => exact .inr (fun e => by have := HN1.out x hv; cases e; omega)
        have HI1 : Hid (In Y ao k1 cp (setF p q).data) := Lib.hid (own_row hOY HK1.out.symm HTP.out.data)
        have HI2 := Lib.hid (own_row (own_far HP2.out HYG.out HNE.out.1) HK2.out.symm HTQ.out.data)
        have HBY := Lib.hid (HB2.out.grown HYG.out HB2.out.size (fun k hk => by cases hk; exact HQW.out))
        have CS := Lib.hid (refSame_any (setF p q) q ao ao2 k1 cp k2 cp2 Y HI1.out HI2.out)
        obtain ⟨y, hy⟩ : ∃ y, y = sameP (setF p q) q := ⟨_, rfl⟩
        rw [← hy] at CS HZ
        rw [← hY]
        clear hY hOY hy
        refine CS.out.mono ?_
        rintro e w3 ⟨rfl, hb⟩
        have HB3 := Lib.hid (bl_tr HBY.out hb)
        clear hb x0 x1 x2 x3 x4 x5 x6 x7 x8 x9 x10 x11 x12 y0 y1 y2 y3 y4 y5 y6 y7 y8 y9 y10 y11 y12 xf
        go_wp2
        go_ret
        exact ⟨by rw [HZ.out]; rfl, HB3.out⟩
      · have h3 : (p.proto != q.proto) = true := by simp [hpr]
        have HZ : Hid (z = false) := Lib.hid (by rw [HL.out]; simp [hpr])
        clear hfn hgn hpr
        go_enter Try.func39, Try.ntmps39
        go_wp2_with fail
        refine (C.out w HI.out).mono ?_
        rintro e w1 ⟨ao, k1, cp, rfl, hk1, hown, hb⟩
        obtain ⟨q1, hq1⟩ : ∃ q, q = w1.heap.size := ⟨_, rfl⟩
        obtain ⟨X1, hX1⟩ : ∃ X, X = w1.alloc (p.obj ao k1 cp) := ⟨_, rfl⟩
        have HB1 : Hid (Below w.heap.size w X1) := Lib.hid (by rw [hX1]; exact bl_al hb _)
        have HJ1 := Lib.hid (HJ.out.below HB1.out)
        have HH1 : Hid (X1.heap[q1]? = some (.cells (p.cs ao k1 cp) 28 (0, 0))) := Lib.hid (by rw [hX1, hq1]; exact heap_alloc_new _ _)
        have HO1 : Hid (X1.ownsRow w.heap.size 5 1 (.slice ao k1 cp) k1 (u8s p.data)) := Lib.hid (by rw [hX1]; exact owns_below hown (bl_al (Below.refl _ _) _))
        have HN1 : Hid (∀ x, (Value.slice ao k1 cp).ownBlock = some x → x < q1) := Lib.hid (fun x hx => by rw [hq1]; exact (hown.lt x hx).2)
        have HK1 := Lib.hid hk1
        have HQW : Hid (w.heap.size ≤ q1) := Lib.hid (by rw [hq1]; exact hb.size)
        have HXE1 := Lib.hid hX1
        have HQE1 := Lib.hid hq1
        clear hb hown hk1 hq1 hX1
        go_upto_region 2 with fail
        rw [← HXE1.out, ← HQE1.out]
        clear HXE1 HQE1
        go_wp2_with fail
        refine (D.out X1 HJ1.out).mono ?_
        rintro e w2 ⟨ao2, k2, cp2, rfl, hk2, hown, hb⟩
        obtain ⟨q2, hq2⟩ : ∃ q, q = w2.heap.size := ⟨_, rfl⟩
        obtain ⟨X2, hX2⟩ : ∃ X, X = w2.alloc (q.obj ao2 k2 cp2) := ⟨_, rfl⟩
        have hb2 : Below X1.heap.size X1 X2 := by rw [hX2]; exact bl_al hb _
        have HB2 := Lib.hid (bl_tr HB1.out hb2)
        have HH2 : Hid (X2.heap[q1]? = some (.cells (p.cs ao k1 cp) 28 (0, 0))) := Lib.hid ((hb2.block _ (lt_of_block HH1.out)).trans HH1.out)
        have HG2 : Hid (X2.heap[q2]? = some (.cells (q.cs ao2 k2 cp2) 28 (0, 0))) := Lib.hid (by rw [hX2, hq2]; exact heap_alloc_new _ _)
        have HO2 := Lib.hid (owns_below HO1.out hb2)
        have HP2 : Hid (X2.ownsRow X1.heap.size 5 1 (.slice ao2 k2 cp2) k2 (u8s q.data)) := Lib.hid (by rw [hX2]; exact owns_below hown (bl_al (Below.refl _ _) _))
        have HNE : Hid (q1 < X1.heap.size ∧ q1 ≠ q2) := Lib.hid ⟨lt_of_block HH1.out, by have := lt_of_block HH1.out; have := hb.size; omega⟩
        have HK2 := Lib.hid hk2
        have HXE2 := Lib.hid hX2
        have HQE2 := Lib.hid hq2
        clear hb hown hk2 hq2 hX2 hb2 HJ1 HH1 HO1 HB1 C D
        go_upto_region 3 with fail
        rw [← HXE2.out, ← HQE2.out]
        clear HXE2 HQE2
        obtain ⟨x0, x1, x2, x3, x4, x5, x6, x7, x8, x9, x10, x11, x12⟩ := PkAt.of HH2.out
        obtain ⟨y0, y1, y2, y3, y4, y5, y6, y7, y8, y9, y10, y11, y12⟩ := PkAt.of HG2.out
        go_wp2
        go_ret
        exact ⟨by rw [HZ.out]; rfl, HB2.out⟩

set_option maxRecDepth 100000 in
theorem likes_any (a b : Option Addr) (n c k d : Nat) (l m : List Int) (w : World) (hI : In w a n c l) (hJ : In w b k d m) (hn : n ≤ 4611686018427387904) (hk : k ≤ 4611686018427387904) :
    Calls Try.prog 12 #[.slice a n c, .slice b k d] w fun e w' => e = .returned (.bool true) ∧ Below w.heap.size w w' := by
  obtain ⟨z, hz⟩ := LikeIs.some l m
  have C := Lib.hid (fun W (h : Below w.heap.size w W) => like_any a b n c k d l m W (hI.below h) (hJ.below h) hn hk z hz)
  have D := Lib.hid (fun W (h : Below w.heap.size w W) => refLike_any a b n c k d l m W (hI.below h) (hJ.below h) hn hk z hz)
  have tz : (z == z) = true := by simp
  clear hI hJ hz
  go_enter Try.func12, Try.ntmps12
  go_wp2_with fail
  refine (alive4_any w).mono ?_
  rintro e w1 ⟨rfl, hb⟩
  have HB1 := Lib.hid hb
  clear hb
  go_wp2_with fail
  refine (C.out w1 HB1.out).mono ?_
  rintro e w2 ⟨rfl, hb⟩
  have HB2 := Lib.hid (bl_tr HB1.out hb)
  clear hb
  go_wp2_with fail
  refine (D.out w2 HB2.out).mono ?_
  rintro e w3 ⟨rfl, hb⟩
  have HB3 := Lib.hid (bl_tr HB2.out hb)
  clear hb
  go_wp2
  go_ret
  exact ⟨rfl, HB3.out⟩
end Go.Proofs.Ytfgajgdbojapcaa
