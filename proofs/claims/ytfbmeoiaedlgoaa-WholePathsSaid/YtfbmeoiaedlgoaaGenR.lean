/- Contracts of rewrite's Like; Source, Dest and Both of what was built. Conditions: rows came in, of at most 2^62 bytes. -/
import Derived.Test.YtfbmeoiaedlgoaaRwC
import Derived.Test.YtfbmeoiaedlgoaaGenA
namespace Go.Proofs.Ytfbmeoiaedlgoaa
open Go Go.RowKit
set_option linter.unusedVariables false
set_option linter.unusedSimpArgs false

theorem reD_ok {p : Pk} {A P : Int} (h : Ok p) (hP : portOk P) : Ok (reD p A P) := ⟨h.tos, h.id, h.ttl, h.proto, h.sp, hP, h.flags, h.win, h.udp, h.len⟩
theorem reD_typed {p : Pk} {A P : Int} (t : Typed p) (hA : 0 ≤ A ∧ A < 4294967296) : Typed (reD p A P) := ⟨t.src, hA, t.seq, t.ack, t.data⟩
theorem reS_ok {p : Pk} {A P : Int} (h : Ok p) (hP : portOk P) : Ok (reS p A P) := ⟨h.tos, h.id, h.ttl, h.proto, hP, h.dp, h.flags, h.win, h.udp, h.len⟩
theorem reS_typed {p : Pk} {A P : Int} (t : Typed p) (hA : 0 ≤ A ∧ A < 4294967296) : Typed (reS p A P) := ⟨hA, t.dst, t.seq, t.ack, t.data⟩
set_option linter.unusedVariables false
set_option linter.unusedSimpArgs false

/-- The flow of another packet, whole. -/
def setF (p q : Pk) : Pk := { p with proto := q.proto, src := q.src, sp := q.sp, dst := q.dst, dp := q.dp }
/-- z tells whether two rows are like one another. -/
def LikeIs (l m : List Int) (z : Bool) : Prop := z = true ↔ Is l ∧ Is m ∧ (dec l).proto = (dec m).proto ∧ sameP (setF (dec l) (dec m)) (dec m) = true
theorem LikeIs.some (l m : List Int) : ∃ z, LikeIs l m z := by
  by_cases h : Is l ∧ Is m ∧ (dec l).proto = (dec m).proto ∧ sameP (setF (dec l) (dec m)) (dec m) = true
  · exact ⟨true, by unfold LikeIs; simp [h]⟩
  · exact ⟨false, by unfold LikeIs; simp; exact fun a b c => by simpa using fun d => h ⟨a, b, c, d⟩⟩
theorem bts_inj {p q : Pk} (hp : Ok p) (tp : Typed p) (hq : Ok q) (tq : Typed q) (h : bts p = bts q) : p = q := by
  rw [← dec_bts hp tp, h, dec_bts hq tq]
theorem like_same {l m : List Int} (hl : Is l) (hm : Is m) (fl : fit l) (fm : fit m) (hp : (dec l).proto = (dec m).proto) : same (bts ((dec m).re (dec l))) l = sameP (setF (dec l) (dec m)) (dec m) := by
  have tl := dec_typed fl
  have tm := dec_typed fm
  have el := hl.2
  obtain ⟨p, hpp⟩ : ∃ p, p = dec l := ⟨_, rfl⟩
  obtain ⟨q, hqq⟩ : ∃ q, q = dec m := ⟨_, rfl⟩
  have okp : Ok p := by rw [hpp]; exact hl.1
  have okq : Ok q := by rw [hqq]; exact hm.1
  rw [← hpp] at tl el hp ⊢
  rw [← hqq] at tm hp ⊢
  have okr : Ok (q.re p) := re_ok okq ⟨okp.proto, okp.sp, okp.dp⟩
  have tyr : Typed (q.re p) := re_typed tm tl.src tl.dst
  rw [Bool.eq_iff_iff]
  have e1 : same (bts (q.re p)) l = true ↔ q.re p = p := by
    unfold same
    rw [decide_eq_true_iff]
    constructor
    · intro h
      rw [← el] at h
      exact bts_inj okr tyr okp tl h
    · intro h
      rw [h, el]
  rw [e1]
  obtain ⟨a0, a1, a2, a3, a4, a5, a6, a7, a8, a9, a10, a11, a12⟩ := p
  obtain ⟨b0, b1, b2, b3, b4, b5, b6, b7, b8, b9, b10, b11, b12⟩ := q
  simp only at hp
  subst hp
  constructor
  · intro h
    simp only [Pk.re, Pk.mk.injEq] at h
    obtain ⟨rfl, rfl, rfl, _, _, _, _, _, rfl, rfl, rfl, rfl, rfl⟩ := h
    simp [setF, sameP, flB, same]
  · intro h
    simp [setF, sameP, flB, same] at h
    obtain ⟨rfl, rfl, rfl, rfl, rfl, rfl, rfl, h12⟩ := h
    obtain rfl := of_decide_eq_true h12
    rfl
theorem like_no {l m : List Int} {z : Bool} (hz : LikeIs l m z) (h : ¬ (Is l ∧ Is m ∧ (dec l).proto = (dec m).proto)) : z = false := by
  cases z with
  | false => rfl
  | true => exact absurd ⟨(hz.1 rfl).1, (hz.1 rfl).2.1, (hz.1 rfl).2.2.1⟩ h
theorem like_yes {l m : List Int} {z : Bool} (hz : LikeIs l m z) (h : Is l ∧ Is m ∧ (dec l).proto = (dec m).proto) : z = sameP (setF (dec l) (dec m)) (dec m) := by
  rw [Bool.eq_iff_iff]
  exact ⟨fun e => (hz.1 e).2.2.2, fun e => hz.2 ⟨h.1, h.2.1, h.2.2, e⟩⟩
set_option maxRecDepth 100000 in
set_option maxHeartbeats 1000000 in
theorem like_any (a b : Option Addr) (n c k d : Nat) (l m : List Int) (w : World) (hI : In w a n c l) (hJ : In w b k d m) (hn : n ≤ 4611686018427387904) (hk : k ≤ 4611686018427387904) (z : Bool) (hz : LikeIs l m z) :
    Calls Try.prog 26 #[.slice a n c, .slice b k d] w fun e w' => e = .returned (.bool z) ∧ Below w.heap.size w w' := by
  have HI := Lib.hid hI
  have HJ := Lib.hid hJ
  by_cases hl : Is l
  · have hS : Says l (dec l) .nilIface 0 true := .inl ⟨hl, rfl, rfl, rfl, rfl⟩
    have C := Lib.hid (fun W (h : In W a n c l) => flow_t hS a n c W h hn)
    have tl := dec_typed hI.fit
    have tm := dec_typed hJ.fit
    have hfl : FlowOk (dec l) := ⟨hl.1.proto, hl.1.sp, hl.1.dp⟩
    obtain ⟨R, E, f, ho⟩ := Out.some m (FlowOk (dec l) ∧ (dec l).proto = (dec m).proto) ((dec m).re (dec l))
    have D := Lib.hid (fun W (h : In W b k d m) => both_t ho tl.src tl.dst b k d W h hk)
    rcases ho with ⟨hm, hP, rfl, rfl, rfl⟩ | ⟨hm, hP, rfl, rfl, rfl⟩ | ⟨hm, rfl, rfl, rfl⟩
    · have HL : Hid (z = same (bts ((dec m).re (dec l))) l) := Lib.hid (by rw [like_yes hz ⟨hl, hm, hP.2⟩, like_same hl hm hI.fit hJ.fit hP.2])
      have HFB := Lib.hid (fit_bts (re_typed tm tl.src tl.dst).data)
      obtain ⟨p, hp⟩ : ∃ p, p = dec l := ⟨_, rfl⟩
      rw [← hp] at C D HL HFB
      obtain ⟨R, hR⟩ : ∃ R, R = bts ((dec m).re p) := ⟨_, rfl⟩
      rw [← hR] at D HL HFB
      clear hI hJ hl hS tl tm hfl hm hP hp hR hz
      go_enter Try.func26, Try.ntmps26
      go_wp2_with fail
      refine (C.out w HI.out).mono ?_
      rintro e w1 ⟨rfl, hb⟩
      obtain ⟨X, hX⟩ : ∃ X, X = w1.alloc p.fobj := ⟨_, rfl⟩
      have HB1 : Hid (Below w.heap.size w X) := Lib.hid (by rw [hX]; exact bl_al hb _)
      have HJ1 := Lib.hid (HJ.out.below HB1.out)
      have HXE := Lib.hid hX
      clear hb hX
      go_wp2_with fail
      rw [← HXE.out]
      refine (D.out X HJ1.out).mono ?_
      rintro e w2 ⟨ao, kk, cp, rfl, hk2, hown, hb⟩
      have HB2 := Lib.hid (bl_tr HB1.out hb)
      have hr := own_row hown hk2.symm HFB.out
      have hi2 := HI.out.below HB2.out
      have CE := Lib.hid (equal_any R l _ _ _ _ _ _ w2 hr.here hi2.here hr.len hi2.len HFB.out hi2.fit)
      obtain ⟨y, hy⟩ : ∃ y, y = same R l := ⟨_, rfl⟩
      rw [← hy] at CE HL
      clear hb hown hk2 hr hi2 hy
      go_wp2_with (go_at_call 35; refine CE.out.mono ?_; rintro e _ ⟨rfl, rfl⟩)
      go_ret
      exact ⟨by rw [HL.out]; rfl, HB2.out⟩
    all_goals
      have HL : Hid (z = false) := Lib.hid (like_no hz (fun e => by first | exact hP ⟨hfl, e.2.2⟩ | exact hm e.2.1))
      obtain ⟨p, hp⟩ : ∃ p, p = dec l := ⟨_, rfl⟩
      rw [← hp] at C D
      clear hI hJ hl hS tl tm hfl hm hp hz
      go_enter Try.func26, Try.ntmps26
      go_wp2_with fail
      refine (C.out w HI.out).mono ?_
      rintro e w1 ⟨rfl, hb⟩
      obtain ⟨X, hX⟩ : ∃ X, X = w1.alloc p.fobj := ⟨_, rfl⟩
      have HB1 : Hid (Below w.heap.size w X) := Lib.hid (by rw [hX]; exact bl_al hb _)
      have HJ1 := Lib.hid (HJ.out.below HB1.out)
      have HXE := Lib.hid hX
      clear hb hX
      go_wp2_with fail
      rw [← HXE.out]
      refine (D.out X HJ1.out).mono ?_
      rintro e w2 ⟨ao, kk, cp, rfl, hk2, hown, hb⟩
      have HB2 := Lib.hid (bl_tr HB1.out hb)
      clear hb hown hk2
      go_wp2
      go_ret
      exact ⟨by rw [HL.out]; rfl, HB2.out⟩
  · have hS : Says l zeroP (errno 2) 2 false := .inr ⟨hl, rfl, rfl, rfl, rfl⟩
    have C := Lib.hid (fun W (h : In W a n c l) => flow_t hS a n c W h hn)
    have HL : Hid (z = false) := Lib.hid (like_no hz (fun e => hl e.1))
    clear hI hJ hl hS hz
    go_enter Try.func26, Try.ntmps26
    go_wp2_with fail
    refine (C.out w HI.out).mono ?_
    rintro e w1 ⟨rfl, hb⟩
    have HB1 := Lib.hid (bl_al hb zeroP.fobj)
    clear hb
    go_wp2
    go_ret
    exact ⟨by rw [HL.out]; rfl, HB1.out⟩
theorem srcY {p : Pk} (h : Ok p) (t : Typed p) {A P : Int} (hA : 0 ≤ A ∧ A < 4294967296) (hP : portOk P) (a : Option Addr) (n c : Nat) (w : World) (hI : In w a n c (bts p)) : Calls Try.prog 23 #[.slice a n c, .int .u32 A, .int .i64 P] w (Rwn w (bts (reS p A P)) .nilIface) := by
  have hs := Is.of h t (b := bts p) rfl
  exact source_t (.inl ⟨hs.1, hP, by rw [hs.2], rfl, rfl⟩) hA a n c w hI (by have := hs.1.size; have := hI.len; omega)
theorem dstY {p : Pk} (h : Ok p) (t : Typed p) {A P : Int} (hA : 0 ≤ A ∧ A < 4294967296) (hP : portOk P) (a : Option Addr) (n c : Nat) (w : World) (hI : In w a n c (bts p)) : Calls Try.prog 25 #[.slice a n c, .int .u32 A, .int .i64 P] w (Rwn w (bts (reD p A P)) .nilIface) := by
  have hs := Is.of h t (b := bts p) rfl
  exact dest_t (.inl ⟨hs.1, hP, by rw [hs.2], rfl, rfl⟩) hA a n c w hI (by have := hs.1.size; have := hI.len; omega)
theorem bothY {p g : Pk} (h : Ok p) (t : Typed p) (hf : FlowOk g) (hp : g.proto = p.proto) (h1 : 0 ≤ g.src ∧ g.src < 4294967296) (h2 : 0 ≤ g.dst ∧ g.dst < 4294967296) (a : Option Addr) (n c : Nat) (w : World) (hI : In w a n c (bts p)) : Calls Try.prog 27 #[.slice a n c, g.flow] w (Rwn w (bts (p.re g)) .nilIface) := by
  have hs := Is.of h t (b := bts p) rfl
  exact both_t (.inl ⟨hs.1, ⟨hf, by rw [hs.2]; exact hp⟩, by rw [hs.2], rfl, rfl⟩) h1 h2 a n c w hI (by have := hs.1.size; have := hI.len; omega)
theorem like_reS {p : Pk} (h : Ok p) (t : Typed p) {A P : Int} (hA : 0 ≤ A ∧ A < 4294967296) (hP : portOk P) : LikeIs (bts p) (bts (reS p A P)) true ∧ LikeIs (bts (reS p A P)) (bts p) true := by
  have h1 := Is.of h t (b := bts p) rfl
  have h2 := Is.of (reS_ok h hP) (reS_typed (P := P) t hA) (b := bts (reS p A P)) rfl
  constructor
  · refine ⟨fun _ => ⟨h1.1, h2.1, by rw [h1.2, h2.2]; rfl, ?_⟩, fun _ => rfl⟩
    rw [h1.2, h2.2]
    exact sameP_self (reS p A P)
  · refine ⟨fun _ => ⟨h2.1, h1.1, by rw [h1.2, h2.2]; rfl, ?_⟩, fun _ => rfl⟩
    rw [h1.2, h2.2]
    exact sameP_self p
end Go.Proofs.Ytfbmeoiaedlgoaa
