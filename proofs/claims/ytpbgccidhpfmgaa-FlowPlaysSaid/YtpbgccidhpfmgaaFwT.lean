/- The document's table: Remove. Conditions: the flows came in and lie apart; at most 2^20 entries. -/
import Derived.Test.YtpbgccidhpfmgaaFwS
namespace Go.Proofs.Ytpbgccidhpfmgaa
open Go Go.RowKit
set_option linter.unusedVariables false
set_option linter.unusedSimpArgs false

theorem erase_is {l : List En} (h : SrtE l) {i : Nat} (hi : i < l.length) : l.eraseIdx i = cutE (l.getD i en0).f l := by
  have hd : l.getD i en0 = l[i] := by rw [List.getD_eq_getElem?_getD, List.getElem?_eq_getElem hi]; rfl
  have h1 : l = l.take i ++ l[i] :: l.drop (i + 1) := by
    conv => lhs; rw [← List.take_append_drop i l]
    rw [List.drop_eq_getElem_cons hi]
  have hp := List.pairwise_iff_getElem.1 h
  have h2 : ∀ f, cutE f l = cutE f (l.take i ++ l[i] :: l.drop (i + 1)) := fun f => congrArg (cutE f) h1
  rw [List.eraseIdx_eq_take_drop_succ, hd, h2]
  unfold cutE
  rw [List.filter_append, List.filter_cons_of_neg (by simp)]
  congr 1
  · rw [List.filter_eq_self.2]
    intro a ha
    obtain ⟨k, hk, rfl⟩ := List.mem_iff_getElem.1 ha
    rw [List.length_take] at hk
    rw [List.getElem_take]
    have := hp k i (by omega) hi (by omega)
    simp only [Bool.not_eq_true', decide_eq_false_iff_not]
    exact fun e => ltF_irr _ (e ▸ this)
  · rw [List.filter_eq_self.2]
    intro a ha
    obtain ⟨k, hk, rfl⟩ := List.mem_iff_getElem.1 ha
    rw [List.length_drop] at hk
    rw [List.getElem_drop]
    have := hp i (i + 1 + k) hi (by omega) (by omega)
    simp only [Bool.not_eq_true', decide_eq_false_iff_not]
    exact fun e => ltF_irr _ (e ▸ this)
theorem cut_miss {f : Fl} {l : List En} (h : findE f l = none) : cutE f l = l := by
  unfold cutE
  rw [List.filter_eq_self.2]
  intro e he
  simpa using findE_none.1 h e he
theorem remE_app : ∀ (a b : List Fl) (l : List En), remE (a ++ b) l = ((remE a l).1 + (remE b (remE a l).2).1, (remE b (remE a l).2).2)
  | [], b, l => by simp [remE]
  | f :: a, b, l => by
    have := remE_app a b (cutE f l)
    rw [List.cons_append, remE, remE, this]
    simp only [Nat.add_assoc]
theorem remE_one (f : Fl) (l : List En) : remE [f] l = ((if (findE f l).isSome then 1 else 0), cutE f l) := by simp [remE]
theorem remE_step (fs : List Fl) (l : List En) {i : Nat} (hi : i < fs.length) : remE (fs.take (i + 1)) l = ((remE (fs.take i) l).1 + (if (findE (fs.getD i fl0) (remE (fs.take i) l).2).isSome then 1 else 0), cutE (fs.getD i fl0) (remE (fs.take i) l).2) := by
  rw [take_more fs fl0 hi, remE_app, remE_one]
theorem remE_srt : ∀ {fs : List Fl} {l : List En}, SrtE l → SrtE (remE fs l).2
  | [], _, h => h
  | f :: fs, l, h => remE_srt (fs := fs) (h.cut f)
theorem remE_len : ∀ (fs : List Fl) (l : List En), (remE fs l).2.length ≤ l.length
  | [], l => Nat.le_refl _
  | f :: fs, l => Nat.le_trans (remE_len fs (cutE f l)) (cutE_len f l)
theorem remE_sub : ∀ {fs : List Fl} {l : List En}, ∀ e ∈ (remE fs l).2, e ∈ l
  | [], _, e, h => h
  | f :: fs, l, e, h => (List.mem_filter.1 (remE_sub (fs := fs) (l := cutE f l) e h)).1
set_option maxRecDepth 100000 in
set_option maxHeartbeats 2000000 in
theorem refRemove_c (B m : Nat) (F : Nat → Prop) (qt qu : Int) (l : List En) (fs : List Fl) (a : Option Addr) (k0 c : Nat) (w : World) (hR : RtS w B F m qt qu l) (hB : B ≤ w.heap.size) (hI : InF w a k0 fs) (hap : ∀ b off, a = some ⟨b, off, none⟩ → 0 < k0 → ¬ F b) (hs : SrtE l) (hn : l.length ≤ 1048576) (hk : k0 ≤ 1048576) :
    Calls Try.prog 22 #[.pointer (some ⟨m, 0, none⟩), .slice a k0 c] w fun e w' => e = .returned (.int .i64 ((remE fs l).1 : Nat)) ∧ ∃ F2, RtTo w B F m qt qu (remE fs l).2 F2 w' := by
  have HI := Lib.hid hI
  have HAP := Lib.hid hap
  have HB := Lib.hid hB
  have HN := Lib.hid (And.intro hs hn)
  have hlen := hI.len
  have R0 : Hid (∃ F2, RtTo w B F m qt qu (remE (fs.take 0) l).2 F2 w) := Lib.hid ⟨F, RtTo.same hR (Tch.refl _ _)⟩
  clear hR hI hap hn hB hs
  go_enter Try.func22, Try.ntmps22
  go_wp2
  go_loopw [5, 6] (fun nv iv wr => ∃ (i N : Nat), i ≤ k0 ∧ nv = .int .i64 N ∧ iv = .int .i64 i ∧ N ≤ i ∧ Hid (N = (remE (fs.take i) l).1) ∧ Hid (∃ F2, RtTo w B F m qt qu (remE (fs.take i) l).2 F2 wr)) (fun _ iv _ => k0 - (intOf iv).toNat)
  case atStart => exact ⟨0, 0, by omega, rfl, rfl, Nat.le_refl _, Lib.hid rfl, R0⟩
  case round =>
    obtain ⟨i, N, hi, rfl, rfl, hN, HNc, HR⟩ := hrel
    obtain ⟨w2, rfl⟩ : ∃ v, v = wr := ⟨_, rfl⟩
    clear R0
    by_cases hlt : i < k0
    · have ii : (i : Int) < (k0 : Int) := by omega
      have i0 : (0 : Int) ≤ (i : Int) := by omega
      obtain ⟨F2, hR2⟩ := HR.out
      have hI2 := HI.out.tch hR2.2.2 HAP.out
      obtain ⟨kb, ko, hab, hfl⟩ := hI2.at hlt
      have HST := Lib.hid (remE_step fs l (i := i) (by omega))
      have HSR := Lib.hid (remE_srt (fs := fs.take i) HN.out.1)
      have hl2 : (remE (fs.take i) l).2.length ≤ 1048576 := Nat.le_trans (remE_len _ _) HN.out.2
      obtain ⟨us, hus⟩ : ∃ us, us = (remE (fs.take i) l).2 := ⟨_, rfl⟩
      obtain ⟨f, hf⟩ : ∃ f, f = fs.getD i fl0 := ⟨_, rfl⟩
      rw [← hus] at hR2 HST HSR hl2
      rw [← hf] at hfl HST
      obtain ⟨ao, n, c2, hM, hF2⟩ := hR2.1.here
      have hnl := ownE_len hM.row
      have CF := Lib.hid (refFind_c B m n c2 qt qu f us ao w2 hM (by omega))
      obtain ⟨f0, f1, f2, f3, f4⟩ := hfl
      have HR2 := Lib.hid hR2
      have HB2 : Hid (B ≤ w2.heap.size) := Lib.hid (Nat.le_trans HB.out hR2.2.2.size)
      subst hab
      clear hus hf hR2 hM hF2 hI2 HR
      go_wp2_with fail
      refine CF.out.mono ?_
      rintro e w3 ⟨⟨k, rfl, hF⟩, hb⟩
      have HR3 := Lib.hid (HR2.out.trans (RtTo.same HR2.out.1 (tch_new hb)))
      have HS3 := Lib.hid (HR2.out.1.keep (tch_new hb) (fun _ _ h => h))
      have HB3 : Hid (B ≤ w3.heap.size) := Lib.hid (Nat.le_trans HB2.out hb.size)
      clear CF hb f0 f1 f2 f3 f4
      rcases hF with ⟨rfl, h1⟩ | ⟨j, rfl, h2, h3, h1⟩
      · have HN2 : Hid (N = (remE (fs.take (i + 1)) l).1) := Lib.hid (by rw [HST.out, h1, HNc.out]; rfl)
        have HR9 : Hid (∃ F2, RtTo w B F m qt qu (remE (fs.take (i + 1)) l).2 F2 w3) := Lib.hid ⟨F2, by rw [HST.out, cut_miss h1]; exact HR3.out⟩
        clear h1 HST
        go_wp2
        go_roundw
        case rel => exact ⟨i + 1, N, by omega, rfl, by go_num, by omega, HN2, HR9⟩
        case measure => simp [intOf]; omega
      · have HN2 : Hid (N + 1 = (remE (fs.take (i + 1)) l).1) := Lib.hid (by rw [HST.out, h1, HNc.out]; rfl)
        have CC := Lib.hid (refCut_c B m F2 qt qu us j w3 HS3.out HB3.out h2 hl2)
        have HE : Hid (us.eraseIdx j = (remE (fs.take (i + 1)) l).2) := Lib.hid (by rw [erase_is HSR.out h2, h3, HST.out])
        have jj : (0 : Int) ≤ (j : Int) := by omega
        clear h1 HST h3
        go_wp2_with fail
        refine CC.out.mono ?_
        rintro e w4 ⟨rfl, F3, hR4⟩
        have HR9 : Hid (∃ F2, RtTo w B F m qt qu (remE (fs.take (i + 1)) l).2 F2 w4) := Lib.hid ⟨F3, by rw [← HE.out]; exact HR3.out.trans hR4⟩
        clear CC hR4
        go_wp2
        go_roundw
        case rel => exact ⟨i + 1, N + 1, by omega, by go_num, by go_num, by omega, HN2, HR9⟩
        case measure => simp [intOf]; omega
    · obtain rfl : i = k0 := by omega
      have ii : ¬ (i : Int) < (i : Int) := by omega
      have ht : fs.take i = fs := List.take_of_length_le (by omega)
      rw [ht] at HNc HR
      clear ht
      go_wp2
      go_ret
      exact ⟨by rw [← HNc.out]; rfl, HR.out⟩
end Go.Proofs.Ytpbgccidhpfmgaa
