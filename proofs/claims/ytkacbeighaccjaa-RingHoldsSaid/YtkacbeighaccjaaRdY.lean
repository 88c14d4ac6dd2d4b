/- The program's Members, With, Without; a nil ring. Conditions: the rows came in. The program's With. Conditions: the rows came in. -/
import Derived.Test.YtkacbeighaccjaaRdW
import Derived.Deep.LoopGhost
import Derived.Deep.CutRange
import Derived.Deep.RegionHeld3
namespace Go.Proofs.Ytkacbeighaccjaa
open Go Go.RowKit
set_option linter.unusedVariables false
set_option linter.unusedSimpArgs false

theorem OkMs.perm {l m : List Int} (h : l.Perm m) (ho : OkMs l) : OkMs m := ⟨by rw [← h.length_eq]; exact ho.1, h.nodup_iff.1 ho.2.1, fun x hx => ho.2.2 x (h.mem_iff.2 hx)⟩
theorem goodP_perm {P z : Int} {l m : List Int} (h : l.Perm m) (hz : GoodP P l z) : GoodP P m z :=
  ⟨hz.1, fun h1 h2 => hz.2.1 h1 (fun h3 => h2 (h3.perm h)), fun h1 h2 => hz.2.2 h1 (h2.perm h.symm)⟩
theorem RSt.perm {w : World} {r P : Nat} {l m : List Int} (h : l.Perm m) (hR : RSt w r P l) : RSt w r P m := by
  refine ⟨hR.lt, hR.ok.perm h, hR.hP, hR.c0, ?_, ?_⟩
  · have := hR.mem; rwa [h.length_eq, srtI_of_perm h] at this
  · have := hR.pt; rwa [h.length_eq, srtI_of_perm h] at this
theorem RNw.perm {w : World} {P : Nat} {l m : List Int} {z : Int} {e : Ending} {w' : World} (h : l.Perm m) (hR : RNw RSt w P l z e w') : RNw RSt w P m z e w' := by
  refine ⟨?_, hR.2⟩
  rcases hR.1 with ⟨h1, r, h2, h3⟩ | h1
  · exact .inl ⟨h1, r, h2, h3.perm h⟩
  · exact .inr h1
theorem RNw.under {w w1 : World} {P : Nat} {l : List Int} {z : Int} {e : Ending} {w' : World} (hb : Below w.heap.size w w1) (hR : RNw RSt w1 P l z e w') : RNw RSt w P l z e w' := ⟨hR.1, bl_tr hb hR.2⟩
theorem rmembers_t (r P : Nat) (ms : List Int) (w : World) (h : RSt w r P ms) :
    Calls Try.prog 18 #[.pointer (some ⟨r, 0, none⟩)] w (GotB w (srtI ms)) := by
  obtain ⟨am, cm, h1, h2⟩ := h.mem
  have hl := srtI_len ms
  have CC := Lib.hid (clone_c _ am _ cm w h2 (by have := h.ok.1; omega))
  obtain ⟨n, hn⟩ : ∃ n, n = ms.length := ⟨_, rfl⟩
  rw [← hn] at h1 CC
  have HL : Hid ((srtI ms).length = n) := Lib.hid (by rw [hl, hn])
  clear h h2 hl hn
  go_enter Try.func18, Try.ntmps18
  go_wp2_with fail
  refine CC.out.mono ?_
  rintro e w1 ⟨v1, rfl, ho1, hb1⟩
  obtain ⟨a1, c1, rfl⟩ := own_form ho1
  have HO := Lib.hid ho1
  have HB := Lib.hid hb1
  clear ho1 hb1 CC
  go_wp2
  go_ret
  exact ⟨a1, c1, by rw [HL.out]; rfl, by rw [HL.out]; exact HO.out, HB.out⟩
set_option maxRecDepth 100000 in
theorem rmembersN_t (w : World) : Calls Try.prog 18 #[.pointer none] w (GotB w []) := by
  go_enter Try.func18, Try.ntmps18
  go_wp2
  go_ret
  exact ⟨none, 0, rfl, ⟨rfl, .inl ⟨rfl, rfl⟩⟩, Below.refl _ _⟩
theorem rwithN_t (l : List Int) (a : Option Addr) (n c : Nat) (w : World) (hI : InI w a n c l) (hn : n ≤ 1048576) : Calls Try.prog 15 #[.pointer none, .slice a n c] w (RNw RSt w 0 [] 9) := by
  clear hI
  go_enter Try.func15, Try.ntmps15
  go_wp2
  go_ret2
  exact ⟨.inr ⟨by decide, rfl⟩, Below.refl _ _⟩
theorem rwithoutN_t (l : List Int) (a : Option Addr) (n c : Nat) (w : World) (hI : InI w a n c l) (hn : n ≤ 1048576) : Calls Try.prog 20 #[.pointer none, .slice a n c] w (RNw RSt w 0 [] 9) := by
  clear hI
  go_enter Try.func20, Try.ntmps20
  go_wp2
  go_ret2
  exact ⟨.inr ⟨by decide, rfl⟩, Below.refl _ _⟩
/-- The two boxes of Owners. -/
theorem own_boxes (w : World) (v : Value) (key : Int) : ∃ W, (w.alloc (.cells #[v] 30)).alloc (.cells #[.int .u64 key] 23) = W ∧ W.cell? ⟨w.heap.size, 0, none⟩ = some v ∧ W.cell? ⟨w.heap.size + 1, 0, none⟩ = some (.int .u64 key) ∧ Below w.heap.size w W ∧ W.heap.size = w.heap.size + 2 := by
  refine ⟨_, rfl, by simp [go_sem], ?_, bl_al (bl_al (Below.refl _ _) _) _, by simp⟩
  have : (w.alloc (.cells #[v] 30)).heap.size = w.heap.size + 1 := by simp
  rw [← this]; simp [go_sem]
set_option maxRecDepth 100000 in
theorem rownersN_t (key N : Int) (w : World) : Calls Try.prog 23 #[.pointer none, .int .u64 key, .int .i64 N] w (GotB w []) := by
  obtain ⟨W, hW, c0, _, hb, _⟩ := own_boxes w (.pointer none) key
  obtain ⟨q, hq⟩ : ∃ q, q = w.heap.size := ⟨_, rfl⟩
  rw [← hq] at c0
  have HW := Lib.hid (And.intro hW hq)
  have HB := Lib.hid hb
  clear hW hq hb
  go_enter Try.func23, Try.ntmps23
  go_upto_region 1 with fail
  rw [HW.out.1, ← HW.out.2]
  go_wp2
  go_step3
  go_wp2
  rw [Exit.noGoto_ret]
  go_ret
  exact ⟨none, 0, rfl, ⟨rfl, .inl ⟨rfl, rfl⟩⟩, HB.out⟩
/-- Some taken out, one after another. -/
theorem lessI_step (l g : List Int) {i : Nat} (hi : i < g.length) : lessI l (g.take (i + 1)) = (lessI l (g.take i)).filter (· != g.getD i 0) := by
  unfold lessI
  rw [List.filter_filter, take_more g 0 hi]
  apply List.filter_congr
  intro x _
  rw [List.contains_append, Bool.not_or, Bool.and_comm]
  congr 1
  simp [bne, Bool.beq_eq_decide_eq]
theorem lessI_zero (l g : List Int) : lessI l (g.take 0) = l := by unfold lessI; simp
set_option maxRecDepth 100000 in
set_option maxHeartbeats 4000000 in
theorem rwithout_t (r P : Nat) (ms l : List Int) (a : Option Addr) (n c : Nat) (w : World) (h : RSt w r P ms) (hI : InI w a n c l) (hn : n ≤ 1048576) :
    Calls Try.prog 20 #[.pointer (some ⟨r, 0, none⟩), .slice a n c] w (RNw RSt w P (lessI ms l) 0) := by
  have CM := Lib.hid (rmembers_t r P ms w h)
  have H := Lib.hid h
  have HI := Lib.hid hI
  have hlen := hI.len
  have hok := h.ok
  have hfit : fitI (srtI ms) := fun x hx => by have := hok.2.2 x ((srtI_perm ms).mem_iff.1 hx); omega
  have HF := Lib.hid hfit
  have HN2 : Hid ((srtI ms).Nodup) := Lib.hid ((srtI_perm ms).nodup_iff.2 hok.2.1)
  have HL64 : Hid ((srtI ms).length ≤ 64) := Lib.hid (by rw [srtI_len]; exact hok.1)
  clear h hI hok hfit
  go_enter Try.func20, Try.ntmps20
  go_wp2_with fail
  refine CM.out.mono ?_
  rintro e w1 ⟨a1, c1, rfl, ho1, hb1⟩
  have HB1 := Lib.hid hb1
  have HO1 : Hid (w1.ownsRow w.heap.size 3 1 (.slice a1 (srtI ms).length c1) (srtI ms).length (i64s (lessI (srtI ms) (l.take 0)))) := Lib.hid (by rw [lessI_zero]; exact ho1)
  clear ho1 hb1 CM
  go_wp2
  go_loopw [6, 18] (fun mv iv wr => ∃ (i N : Nat), i ≤ n ∧ iv = .int .i64 i ∧ N ≤ 64 ∧ Hid (wr.ownsRow w.heap.size 3 1 mv N (i64s (lessI (srtI ms) (l.take i)))) ∧ Hid (Below w.heap.size w wr)) (fun _ iv _ => n - (intOf iv).toNat)
  case atStart => exact ⟨0, (srtI ms).length, by omega, rfl, HL64.out, HO1, HB1⟩
  case round =>
    obtain ⟨i, N, hi, rfl, hN, HO, HB⟩ := hrel
    obtain ⟨w2, rfl⟩ : ∃ v, v = wr := ⟨_, rfl⟩
    clear HO1 HB1
    obtain ⟨a2, c2, hv2⟩ := own_form HO.out
    obtain ⟨L, hL⟩ : ∃ L, L = lessI (srtI ms) (l.take i) := ⟨_, rfl⟩
    have hLl : L.length = N := by have := HO.out.1; rw [i64s_len, ← hL] at this; omega
    have hLf : fitI L := fun x hx => HF.out x (by rw [hL] at hx; exact (List.mem_filter.1 hx).1)
    have hLs : L.Pairwise (· ≤ ·) := by rw [hL]; exact (srtI_sorted ms).filter _
    have hLn : L.Nodup := by rw [hL]; exact HN2.out.filter _
    rw [← hL] at HO
    subst hv2
    have hI2 := own_inI HO.out hLl hLf
    by_cases hlt : i < n
    · obtain ⟨b1, o1, rfl⟩ := in_blockI HI.out (by omega)
      have ii : (i : Int) < (n : Int) := by omega
      have i0 : (0 : Int) ≤ (i : Int) := by omega
      have c1' := in_cellI (HI.out.below HB.out) i hlt
      have HST := Lib.hid (lessI_step (srtI ms) l (i := i) (by omega))
      obtain ⟨m, hm⟩ : ∃ m, m = l.getD i 0 := ⟨_, rfl⟩
      rw [← hm] at c1' HST
      rw [← hL] at HST
      have CB := Lib.hid (search_c L m a2 N c2 w2 hI2 (by omega) hLs)
      by_cases q : m ∈ L
      · have hc : L.contains m = true := by simpa using q
        obtain ⟨k1, k2⟩ := erase_is hLs hLn q
        obtain ⟨k, hk⟩ : ∃ k, k = L.countP (· < m) := ⟨_, rfl⟩
        rw [hc, ← hk] at CB
        rw [← hk] at k1 k2
        have HK : Hid (L.eraseIdx k = lessI (srtI ms) (l.take (i + 1))) := Lib.hid (by rw [k2, HST.out])
        have CD := Lib.hid (fun (W : World) (ho : W.ownsRow w.heap.size 3 1 (.slice a2 N c2) N (i64s L)) (hB : w.heap.size ≤ W.heap.size) => delete_c L _ N k w.heap.size W ho hB (by omega))
        have k3 : (k : Int) < 64 := by omega
        have k4 : (0 : Int) ≤ (k : Int) := by omega
        clear hI2 hc q k1 k2 hk hLl hLf hLs hLn hL hm HST
        go_wp2_with fail
        refine CB.out.mono ?_
        rintro e w3 ⟨rfl, q3, hw3⟩
        have HO3 : Hid (w3.ownsRow w.heap.size 3 1 (.slice a2 N c2) N (i64s L)) := Lib.hid (by rw [hw3]; exact HO.out)
        have HB3 : Hid (Below w.heap.size w w3) := Lib.hid (by rw [hw3]; exact below_drewN' HB.out q3)
        clear hw3 HO HB CB c1'
        go_wp2_with fail
        refine (CD.out _ HO3.out HB3.out.size).mono ?_
        rintro e w4 ⟨v4, rfl, ho4, hb4⟩
        rw [HK.out] at ho4
        have HO4 := Lib.hid ho4
        have HB4 := Lib.hid (HB3.out.trans hb4)
        clear ho4 hb4 HO3 HB3 CD
        go_wp2
        go_roundw
        case rel => exact ⟨i + 1, N - 1, by omega, by go_num, by omega, HO4, HB4⟩
        case measure => simp [intOf]; omega
      · have hc : L.contains m = false := by simpa using q
        have HK : Hid (L = lessI (srtI ms) (l.take (i + 1))) := Lib.hid (by
          rw [HST.out]
          exact (List.filter_eq_self.2 (fun x hx => by
            have : x ≠ m := fun e => q (e ▸ hx)
            simpa using this)).symm)
        obtain ⟨k, hk⟩ : ∃ k, k = L.countP (· < m) := ⟨_, rfl⟩
        rw [hc, ← hk] at CB
        clear hI2 hc q hk hLl hLf hLs hLn hL hm HST
        go_wp2_with fail
        refine CB.out.mono ?_
        rintro e w3 ⟨rfl, q3, hw3⟩
        have HO3 : Hid (w3.ownsRow w.heap.size 3 1 (.slice a2 N c2) N (i64s (lessI (srtI ms) (l.take (i + 1))))) := Lib.hid (by rw [hw3, ← HK.out]; exact HO.out)
        have HB3 : Hid (Below w.heap.size w w3) := Lib.hid (by rw [hw3]; exact below_drewN' HB.out q3)
        clear hw3 HO HB CB c1' HK
        go_wp2
        go_roundw
        case rel => exact ⟨i + 1, N, by omega, by go_num, by omega, HO3, HB3⟩
        case measure => simp [intOf]; omega
    · have ii : ¬ (i : Int) < (n : Int) := by omega
      have hR := H.out.below HB.out
      have c0 := hR.c0
      have hE : L = lessI (srtI ms) l := by rw [hL, List.take_of_length_le (by omega)]
      have hperm : L.Perm (lessI ms l) := by rw [hE]; exact (srtI_perm ms).filter _
      have hz : GoodP (P : Int) L 0 := by
        refine goodP_perm hperm.symm ⟨fun h => ?_, fun _ h => absurd (H.out.ok.less l) h, fun _ _ => rfl⟩
        exact absurd (show OkP (P : Int) by have := H.out.hP; unfold OkP; omega) h
      have CN := Lib.hid ((rnew_t (P : Int) L a2 N c2 w2 hI2 (by omega) (by have := H.out.hP; omega) 0 hz).mono (R' := RNw RSt w P (lessI ms l) 0) (fun e w' h => by
        rw [Int.toNat_natCast] at h
        exact (h.under HB.out).perm hperm))
      clear hR hE hperm hz hI2 hLl hLf hLs hLn hL
      go_wp2_with fail
      refine CN.out.mono ?_
      rintro e w3 ⟨hR1, hb3⟩
      have HB3 := Lib.hid hb3
      rcases hR1 with ⟨_, r2, rfl, hr⟩ | ⟨hz, rfl⟩
      · have HR := Lib.hid hr
        clear hr hb3 CN
        go_wp2
        go_ret2
        exact ⟨.inl ⟨rfl, r2, rfl, HR.out⟩, HB3.out⟩
      · exact absurd rfl hz
end Go.Proofs.Ytkacbeighaccjaa
namespace Go.Proofs.Ytkacbeighaccjaa
open Go Go.RowKit
set_option linter.unusedVariables false
set_option linter.unusedSimpArgs false

theorem two_rows (w : World) (a b : Value) (t : TypeId) : (w.alloc (.cells #[a, b] t)).drew.cell? ⟨w.heap.size, 0, none⟩ = some a ∧ (w.alloc (.cells #[a, b] t)).drew.cell? ⟨w.heap.size, 1, none⟩ = some b := by
  constructor <;> simp [go_sem]
theorem RNw.form {R : World → Nat → Nat → List Int → Prop} {w : World} {P : Nat} {l : List Int} {z : Int} {e : Ending} {w' : World} (h : RNw R w P l z e w') : ∃ p v, e = .returned (.tuple #[p, v]) ∧ RNw R w P l z (.returned (.tuple #[p, v])) w' := by
  rcases h.1 with ⟨_, r, rfl, _⟩ | ⟨_, rfl⟩
  · exact ⟨_, _, rfl, h⟩
  · exact ⟨_, _, rfl, h⟩
set_option maxRecDepth 100000 in
set_option maxHeartbeats 4000000 in
theorem rwith_t (r P : Nat) (ms l : List Int) (a : Option Addr) (n c : Nat) (w : World) (h : RSt w r P ms) (hI : InI w a n c l) (hn : n ≤ 1048576) (z : Int) (hz : GoodP P (ms ++ l) z) :
    Calls Try.prog 15 #[.pointer (some ⟨r, 0, none⟩), .slice a n c] w (RNw RSt w P (ms ++ l) z) := by
  have hlen := hI.len
  have hOP : OkP (P : Int) := by have := h.hP; unfold OkP; omega
  by_cases q3 : 64 < n
  · have HE : Hid (z = 9) := Lib.hid (hz.2.1 hOP (fun h => by have := h.1; rw [List.length_append] at this; omega))
    have ii : (64 : Int) < (n : Int) := by omega
    clear hI hz hOP h
    go_enter Try.func15, Try.ntmps15
    go_wp2
    go_ret2
    exact ⟨.inr ⟨by rw [HE.out]; decide, by rw [HE.out]; rfl⟩, Below.refl _ _⟩
  have ii : ¬ (64 : Int) < (n : Int) := by omega
  obtain ⟨am, cm, h1, h2⟩ := h.mem
  have h0 := h.c0
  obtain ⟨nm, hnm⟩ : ∃ nm, nm = ms.length := ⟨_, rfl⟩
  have hnm64 : nm ≤ 64 := by have := h.ok.1; omega
  rw [← hnm] at h1 h2
  have hperm : (srtI ms ++ l).Perm (ms ++ l) := (srtI_perm ms).append_right l
  have hzs : GoodP P (srtI ms ++ l) z := goodP_perm hperm.symm hz
  have hfs : fitI (srtI ms ++ l) := fitI_app (fun x hx => by have := h.ok.2.2 x ((srtI_perm ms).mem_iff.1 hx); omega) hI.fit
  have hls : (srtI ms ++ l).length = nm + n := by rw [List.length_append, srtI_len, hlen, hnm]
  obtain ⟨V1, hV1⟩ : ∃ V1, V1 = (w.alloc (.cells #[.slice am nm cm, .slice a n c] 22)).drew := ⟨_, rfl⟩
  have hB1 : Below w.heap.size w V1 := by rw [hV1]; exact (bl_al (Below.refl _ _) _).drew
  have hc1 := two_rows w (.slice am nm cm) (.slice a n c) 22
  rw [← hV1] at hc1
  have hc := concat_c (srtI ms) l am a w.heap.size nm cm n c V1 hc1.1 hc1.2 (h2.below hB1) (hI.below hB1) hnm64 (by omega)
  have CC := Lib.hid (hc.mono (R' := fun e w' => ∃ a5 c5, e = .returned (.slice a5 (nm + n) c5) ∧ InI w' a5 (nm + n) c5 (srtI ms ++ l) ∧ Below V1.heap.size V1 w') (fun e w' ⟨v, h1, h2, h3⟩ => by
    obtain ⟨a5, c5, rfl⟩ := own_form h2
    exact ⟨a5, c5, h1, own_inI h2 hls hfs, h3⟩))
  have CN := Lib.hid (fun (W : World) (a5 : Option Addr) (c5 : Nat) (hI5 : InI W a5 (nm + n) c5 (srtI ms ++ l)) (hb : Below w.heap.size w W) => (rnew_t (P : Int) (srtI ms ++ l) a5 (nm + n) c5 W hI5 (by omega) (by have := h.hP; omega) z hzs).mono (R' := fun e w' => ∃ p v, e = .returned (.tuple #[p, v]) ∧ RNw RSt w P (ms ++ l) z (.returned (.tuple #[p, v])) w' ∧ Below W.heap.size W w') (fun e w' h => by
    rw [Int.toNat_natCast] at h
    have hbb := h.2
    obtain ⟨p, v, h1, h2⟩ := ((h.under hb).perm hperm).form
    exact ⟨p, v, h1, h2, hbb⟩))
  have hS0 : w.drew.cell? ⟨r, 0, none⟩ = some (.int .i64 P) ∧ w.drew.cell? ⟨r, 1, none⟩ = some (.slice am nm cm) := ⟨h0, h1⟩
  have HX : ∀ X, Below w.heap.size w X → X.cell? ⟨r, 0, none⟩ = some (.int .i64 P) ∧ X.cell? ⟨r, 1, none⟩ = some (.slice am nm cm) := fun X hb => ⟨(hb.cell (p := ⟨r, 0, none⟩) h.lt).trans h0, (hb.cell (p := ⟨r, 1, none⟩) h.lt).trans h1⟩
  have hS1 := HX _ hB1
  rw [hV1] at hS1
  have HXH := Lib.hid HX
  have HB1 := Lib.hid hB1
  rw [hV1] at CC HB1
  clear hI hz hOP h h2 hnm hperm hzs hfs hls hV1 hB1 hc1 hc h0 h1 HX
  go_enter Try.func15, Try.ntmps15
  go_upto_region 3 with fail
  go_region_held3 (fun wx => wx.cell? ⟨r, 0, none⟩ = some (.int .i64 P) ∧ wx.cell? ⟨r, 1, none⟩ = some (.slice am nm cm)) (first | (with_reducible exact hS0) | (with_reducible exact hS1) | (with_reducible exact hS5) | (with_reducible exact hS6) | (with_reducible assumption) | fail)
    (first | (go_at_call 35; (with_reducible refine (CC.out).mono ?_); rintro e w5 ⟨a5, c5, rfl, hI5, hb5⟩; have hB5 := bl_tr HB1.out hb5; have hS5 := HXH.out _ hB5) | (go_at_call 13; (with_reducible refine (CN.out _ _ _ hI5 hB5).mono ?_); rintro e w6 ⟨p6, v6, rfl, hR6, hb6⟩; have hS6 := HXH.out _ (bl_tr hB5 hb6)) | fail)
  all_goals
    have HR := Lib.hid hR6
    clear hR6 hb6 hS6 hB5 hS5 hI5 hb5 hS0 hS1 CC CN HXH
    go_wp2
    go_ret2
    exact HR.out
end Go.Proofs.Ytkacbeighaccjaa
