/- save: pairs put into the store and synced, or all as it was. Conditions: those stated. -/
import Derived.Test.YtifijhfiibgngaaVeU
namespace Go.Proofs.Ytifijhfiibgngaa
open Go Go.RowKit
set_option linter.unusedVariables false
set_option linter.unusedSimpArgs false

theorem puts_or3 (size : Int) (ps l : List Pr) : (putsP size ps l).1 = 0 ∨ (putsP size ps l).1 = 5 ∨ (putsP size ps l).1 = 9 := by
  induction ps generalizing l with
  | nil => exact .inl rfl
  | cons e ps ih =>
    by_cases h : putN size e.k e.b l = 0
    · rw [putsP_go h]; exact ih _
    · rw [putsP_no h]; exact putN_or3 _ _ _ _
theorem saveP_ok {size : Int} {ps l : List Pr} (h : (putsP size ps (dropP (keysP ps) l)).1 = 0) : saveP size ps l = (0, (putsP size ps (dropP (keysP ps) l)).2) := by
  unfold saveP
  rw [if_pos h]
theorem saveP_no {size : Int} {ps l : List Pr} (h : (putsP size ps (dropP (keysP ps) l)).1 ≠ 0) : saveP size ps l = ((putsP size ps (dropP (keysP ps) l)).1, l) := by
  unfold saveP
  rw [if_neg h]
/-- What a save leaves. -/
structure SvO (w0 w : World) (s : Nat) (size : Int) (l m : List Pr) (K : Nat → Prop) (R : Nat × List Pr) (w' : World) : Prop where
  ok : R.1 = 0 → SOn w0 w' s size R.2 R.2 K
  no : R.1 ≠ 0 → SOn w0 w' s size l m K
  kpt : Kpt K w w'
set_option maxRecDepth 100000 in
set_option maxHeartbeats 8000000 in
theorem save_c (w0 w : World) (p s : Nat) (size : Int) (l m : List Pr) (K : Nat → Prop) (h : SOn w0 w s size l m K) (hp : StC w p s) (hKp : K p) (a : Option Addr) (n c : Nat) (ps : List Pr) (vs : List Value) (hP : PsIn w K a n c ps vs) (hn : n ≤ 4) (hk : ∀ e ∈ ps, e.k.length ≤ 64 ∧ e.b.length ≤ 67108864) (hnd : (keysP ps).Nodup) :
    Calls Try.prog 63 #[.pointer (some ⟨p, 0, none⟩), .slice a n c] w fun e w' => e = .returned (errF ((saveP size ps l).1 : Nat)) ∧ SvO w0 w s size l m K (saveP size ps l) w' := by
  obtain ⟨hsrt, hok, _, hus⟩ := h.facts
  have hlens := h.lens
  have CT := Lib.hid (takeOut_c w0 w p s size l m K h hp hKp a n c ps vs hP hn (fun e he => (hk e he).1))
  have HP := Lib.hid hP
  have HKP := Lib.hid hKp
  have HSC := Lib.hid hp
  have HKL := Lib.hid hk
  have HRS := Lib.hid (restore size ps hsrt.1 hok.1 hus.1 hnd)
  have HDP := Lib.hid (drop_puts size ps (srt_drop (keysP ps) hsrt.1))
  have HDD := Lib.hid (drop_drop (keysP ps) hsrt.1)
  have HOD : Hid (∀ e ∈ olderP ps l, e.k.length ≤ 64 ∧ e.b.length ≤ 67108864) := Lib.hid (fun e he => ⟨(older_ok ps hok.1 e he).k.2, older_sz ps (N := 67108864) (fun x hx => by
    have h1 := sz_used hx
    have h2 := hlens.2.2.1
    unfold szP at h1
    omega) e he⟩)
  have HOF : Hid (∀ e ∈ olderP ps l, fit e.b) := Lib.hid (fun e he => (older_ok ps hok.1 e he).b)
  have HON : Hid ((olderP ps l).length ≤ 4) := Lib.hid (by have := older_len ps l; have := hP.len; omega)
  clear h hp hKp hP hk hsrt hok hus hlens hnd
  go_enter Try.func63, Try.ntmps63
  go_wp2_with fail
  refine CT.out.mono ?_
  rintro e w1 ⟨rv, n', rfl, hT⟩
  obtain ⟨⟨K2, ao, cc, us, erv, hn', hK2, hS1, hO1⟩, hk1, hsz⟩ := hT
  subst erv
  have HK2 := Lib.hid hK2
  have HK1 := Lib.hid hk1
  have HO1 := Lib.hid hO1
  have HN' := Lib.hid hn'
  have hP1 := (HP.out.kpt hk1).more hK2
  have hc1 : StC w1 p s := hk1.cell (show w.cell? ⟨p, 5, none⟩ = _ from HSC.out) HKP.out
  have CP := Lib.hid (vput_c w0 w1 p s size (dropP (keysP ps) l) m K2 hS1 hc1 (hK2 p HKP.out) a n c ps vs hP1 hn HKL.out)
  obtain ⟨R, hR⟩ : ∃ R, R = putsP size ps (dropP (keysP ps) l) := ⟨_, rfl⟩
  rw [← hR] at CP HDP
  have HR := Lib.hid hR
  have hor := puts_or3 size ps (dropP (keysP ps) l)
  rw [← hR] at hor
  have HC1 := Lib.hid hc1
  have HP1 := Lib.hid hP1
  clear CT hK2 hS1 hO1 hk1 hsz hn' hP1 hc1 hR
  go_wp2_with fail
  refine CP.out.mono ?_
  rintro e w2 ⟨rfl, hS2, hk2⟩
  have hc2 : StC w2 p s := hk2.cell (show w1.cell? ⟨p, 5, none⟩ = _ from HC1.out) (HK2.out p HKP.out)
  have HS2 := Lib.hid hS2
  have HK12 := Lib.hid hk2
  obtain ⟨code, hcode⟩ : ∃ code, code = R.1 := ⟨_, rfl⟩
  rw [← hcode] at hor ⊢
  have HCD := Lib.hid hcode
  by_cases h0 : code = 0
  · subst h0
    have HSV : Hid (saveP size ps l = (0, R.2)) := Lib.hid (by rw [saveP_ok (by rw [← HR.out]; exact HCD.out.symm), HR.out])
    have q0 := nilNe
    have CY := Lib.hid (hS2.sync)
    have d5 : w2.cell? ⟨p, 5, none⟩ = some (.pointer (some ⟨s, 0, none⟩)) := hc2
    clear hS2 hk2 hc2 hor CP hcode
    rw [show errF ((0 : Nat) : Int) = .nilIface from rfl]
    go_wp2_with fail
    refine CY.out.mono ?_
    rintro e w3 ⟨rfl, hS3, hk3⟩
    have HF : Hid (SvO w0 w s size l m K (0, R.2) w3) := Lib.hid ⟨fun _ => hS3.less HK2.out, fun h => absurd rfl h, HK1.out.trans ((HK12.out.trans hk3).less HK2.out)⟩
    clear hS3 hk3 d5
    go_wp2
    go_ret
    exact ⟨by rw [HSV.out]; rfl, by rw [HSV.out]; exact HF.out⟩
  · have HSV : Hid (saveP size ps l = (code, l)) := Lib.hid (by rw [saveP_no (by rw [← HR.out, ← HCD.out]; exact h0), ← HR.out, ← HCD.out])
    have CT2 := Lib.hid (takeOut_c w0 w2 p s size R.2 m K2 hS2 hc2 (HK2.out p HKP.out) a n c ps vs (HP1.out.kpt hk2) hn (fun e he => (HKL.out e he).1))
    have q5 := five_neq
    have q9 := nine_neq
    have H0 := Lib.hid h0
    have hor2 : code = 5 ∨ code = 9 := by omega
    clear hS2 hk2 hc2 hor CP hcode h0
    rcases hor2 with rfl | rfl
    all_goals
      first
        | rw [show errF ((5 : Nat) : Int) = errnoF 5 from rfl]
        | rw [show errF ((9 : Nat) : Int) = errnoF 9 from rfl]
      go_wp2_with fail
      refine CT2.out.mono ?_
      rintro e w3 ⟨rv3, n3, rfl, hT⟩
      obtain ⟨⟨K3, a3, c3, us3, erv3, hn3, hK3, hS3, hO3⟩, hk3, hsz3⟩ := hT
      subst erv3
      rw [HDP.out, HDD.out] at hS3
      have hP3 : PsIn w3 K3 ao n' cc (olderP ps l) us := by
        have := ((HO1.out.kpt HK12.out).kpt hk3).in HOF.out
        rw [← HN'.out] at this
        exact this.more hK3
      have hc3 : StC w3 p s := (HK12.out.trans hk3).cell (show w1.cell? ⟨p, 5, none⟩ = _ from HC1.out) (HK2.out p HKP.out)
      have CP2 := vput_c w0 w3 p s size (dropP (keysP ps) l) m K3 hS3 hc3 (hK3 p (HK2.out p HKP.out)) ao n' cc (olderP ps l) us hP3 (by rw [HN'.out]; exact HON.out) HOD.out
      rw [HRS.out] at CP2
      have CP2 := Lib.hid CP2
      have HK3 := Lib.hid hK3
      have HK13 := Lib.hid (HK12.out.trans hk3)
      clear hn3 hK3 hS3 hO3 hk3 hsz3 hP3 hc3 CT2
      go_wp2_with fail
      refine CP2.out.mono ?_
      rintro e w4 ⟨rfl, hS4, hk4⟩
      have HF : Hid (SvO w0 w s size l m K (_, l) w4) := Lib.hid ⟨fun h => absurd h H0.out, fun _ => hS4.less (fun k hk => HK3.out k (HK2.out k hk)), HK1.out.trans ((HK13.out.trans (hk4.less HK3.out)).less HK2.out)⟩
      clear hS4 hk4
      go_wp2
      go_ret
      exact ⟨by rw [HSV.out]; rfl, by rw [HSV.out]; exact HF.out⟩
end Go.Proofs.Ytifijhfiibgngaa
