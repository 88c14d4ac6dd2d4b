/- Contracts of the document's Byte and Wrap. Conditions: the row came in, of at most 2^62 bytes; addresses of 32 bits. -/
import Derived.Test.YtfbmeoiaedlgoaaTunB
namespace Go.Proofs.Ytfbmeoiaedlgoaa
open Go Go.RowKit
set_option linter.unusedVariables false
set_option linter.unusedSimpArgs false

theorem byte_any (x : Int) (hx : 0 ≤ x ∧ x < 4294967296) (i : Nat) (hi : i < 4) (w : World) :
    Calls Try.prog 31 #[.int .u32 x, .int .i64 i] w fun e w' => e = .returned (.int .i64 ((b4 x).getD i 0)) ∧ w = w' := by
  obtain ⟨x0, x1⟩ := hx
  have v0 : IntKind.i64.wrap (x / 16777216) = x / 16777216 := IntWalk.i64_in _ (by omega)
  have v1 : IntKind.i64.wrap (x / 65536) = x / 65536 := IntWalk.i64_in _ (by omega)
  have v2 : IntKind.i64.wrap (x / 256) = x / 256 := IntWalk.i64_in _ (by omega)
  have v3 : IntKind.i64.wrap x = x := IntWalk.i64_in _ (by omega)
  have hc : i = 0 ∨ i = 1 ∨ i = 2 ∨ i = 3 := by omega
  rcases hc with rfl | rfl | rfl | rfl
  all_goals
    go_enter Try.func31, Try.ntmps31
    go_wp2
    go_ret
    exact ⟨rfl, rfl⟩

theorem b4_more (x : Int) {j : Nat} (hj : j < 4) : (b4 x).take (j + 1) = (b4 x).take j ++ [(b4 x).getD j 0] := take_more (b4 x) 0 (by simpa [b4] using hj)
theorem b4_bound (x : Int) (j : Nat) : 0 ≤ (b4 x).getD j 0 ∧ (b4 x).getD j 0 < 256 := getD_fit (fit_b4 x) j

set_option maxRecDepth 100000 in
set_option maxHeartbeats 1000000 in
theorem refWrap_t {l : List Int} {s d : Int} {R : List Int} {E : Value} {f : Int} (h : WOut l s d R E f) (hs : 0 ≤ s ∧ s < 4294967296) (hd : 0 ≤ d ∧ d < 4294967296) (a : Option Addr) (n c : Nat) (w : World) (hI : In w a n c l) (hn : n ≤ 4611686018427387904) :
    Calls Try.prog 12 #[.int .u32 s, .int .u32 d, .slice a n c] w (Tun w R (.int .i64 f)) := by
  have HI := Lib.hid hI
  obtain ⟨i0, hi0, hz0, hz1, hz2⟩ := info_parts info5
  rcases h with ⟨hi, hl, rfl, rfl, rfl⟩ | ⟨hi, hl, rfl, rfl, rfl⟩ | ⟨hi, rfl, rfl, rfl⟩
  · have C := Lib.hid (fun W (h : In W a n c l) => refParse_t (.inl ⟨hi, rfl, rfl, rfl, rfl⟩) a n c W h hn)
    have hnl : n ≤ 1480 := by rw [← hI.len]; exact hl
    obtain ⟨p, hp⟩ : ∃ p, p = dec l := ⟨_, rfl⟩
    rw [← hp] at C
    have HW : Hid (wrp s d l = ohd s d n ++ l) := Lib.hid (by unfold wrp; rw [hI.len])
    have hgt : decide ((1500 : Int) < 20 + (n : Int)) = false := decide_eq_false (by omega)
    have w0 : IntKind.i64.wrap (20 + (n : Int)) = 20 + (n : Int) := IntWalk.i64_in _ (by omega)
    have v1 : IntKind.u8.wrap ((20 + (n : Int)) / 256) = (20 + (n : Int)) / 256 % 256 := IntKind.wrap_u8' _
    obtain ⟨l0, hl0⟩ : ∃ l, l = hdr (ot s d) n 0 := ⟨_, rfl⟩
    have hsum : 65535 - car (ws l0) = osum s d n := by rw [hl0]; rfl
    have hset : setw l0 5 (osum s d n / 256 % 256) (osum s d n % 256) = ohd s d n := by rw [hl0, hdr_set]; rfl
    have hf0 : fit l0 := by rw [hl0]; exact fit_hdr _ _ _
    have h20 : l0.length = 20 := by rw [hl0]; rfl
    have hw := osum_w16 s d n
    obtain ⟨x, hx⟩ : ∃ x, x = (20 + (n : Int)) / 256 % 256 := ⟨_, rfl⟩
    obtain ⟨y, hy⟩ : ∃ y, y = (20 + (n : Int)) % 256 := ⟨_, rfl⟩
    obtain ⟨P, hP⟩ : ∃ P : List Int, P = [69, 0, x, y, 0, 0, 64, 0, 64, 4, 0, 0] := ⟨_, rfl⟩
    have happ : (P ++ b4 s) ++ b4 d = l0 := by rw [hP, hx, hy, hl0]; rfl
    have hP12 : P.length = 12 := by rw [hP]; rfl
    rw [← hx] at v1
    have v2 : IntKind.u8.wrap ((20 + (n : Int)) % 256) = y := by rw [IntKind.wrap_u8', hy]; omega
    obtain ⟨k, hk⟩ : ∃ k, k = osum s d n := ⟨_, rfl⟩
    rw [← hk] at hsum hset hw
    have HS := Lib.hid hs
    have HD := Lib.hid hd
    have HAPP := Lib.hid happ
    have HSUM := Lib.hid hsum
    have HSET := Lib.hid hset
    have HF0 := Lib.hid hf0
    have H20 := Lib.hid h20
    have HP := Lib.hid hP
    have u1 : IntKind.u8.wrap (k / 256) = k / 256 % 256 := IntKind.wrap_u8' _
    obtain ⟨r, hr⟩ : ∃ r, r = k / 256 % 256 := ⟨_, rfl⟩
    obtain ⟨q, hq⟩ : ∃ q, q = k % 256 := ⟨_, rfl⟩
    rw [← hr] at u1
    have u2 : IntKind.u8.wrap (k % 256) = q := by rw [IntKind.wrap_u8', hq]; omega
    rw [← hr, ← hq] at HSET
    have HQ := Lib.hid hq
    obtain ⟨k0, k1⟩ := hw
    have td : k.tdiv 256 = k / 256 := Int.tdiv_eq_ediv_of_nonneg k0
    have tw : IntKind.u16.wrap (k / 256) = k / 256 := by rw [IntKind.wrap_u16]; omega
    clear hI hi hl hp hx hy hk hs hd happ hsum hset hf0 h20 hl0 hr hq hP hP12
    go_enter Try.func12, Try.ntmps12
    go_wp2_with fail
    refine (C.out w HI.out).mono ?_
    rintro e w1 ⟨ao, kk, cp, rfl, hkk, left, hb⟩
    subst hkk
    have HB1 := Lib.hid (bl_al hb (p.obj ao p.data.length cp))
    have HI1 := Lib.hid (HI.out.below HB1.out)
    obtain ⟨X, hX⟩ : ∃ X, X = w1.alloc (p.obj ao p.data.length cp) := ⟨_, rfl⟩
    rw [← hX] at HB1 HI1
    have HX := Lib.hid hX
    clear hb hX C
    go_upto_region 8 with fail
    rw [← HX.out]
    have O0 : Hid ((X.alloc (.cells #[.int .u8 69, .int .u8 0, .int .u8 x, .int .u8 y, .int .u8 0, .int .u8 0, .int .u8 64, .int .u8 0, .int .u8 64, .int .u8 4, .int .u8 0, .int .u8 0] 5)).ownsRow w.heap.size 5 1 (.slice (some ⟨X.heap.size, 0, none⟩) 12 12) 12 (u8s (P ++ (b4 s).take 0))) := Lib.hid (by
      rw [HP.out]
      exact own_lit X [69, 0, x, y, 0, 0, 64, 0, 64, 4, 0, 0] _ rfl 12 w.heap.size rfl HB1.out.size (by unfold maxLen; omega))
    have HB0 := Lib.hid (bl_al HB1.out (.cells #[.int .u8 69, .int .u8 0, .int .u8 x, .int .u8 y, .int .u8 0, .int .u8 0, .int .u8 64, .int .u8 0, .int .u8 64, .int .u8 4, .int .u8 0, .int .u8 0] 5))
    obtain ⟨Y, hY⟩ : ∃ Y, Y = X.alloc (.cells #[.int .u8 69, .int .u8 0, .int .u8 x, .int .u8 y, .int .u8 0, .int .u8 0, .int .u8 64, .int .u8 0, .int .u8 64, .int .u8 4, .int .u8 0, .int .u8 0] 5) := ⟨_, rfl⟩
    have hXs : X.heap.size = w1.heap.size + 1 := by rw [HX.out]; simp
    obtain ⟨g0, hg0⟩ : ∃ g, g = w1.heap.size + 1 := ⟨_, rfl⟩
    rw [← hY, hXs, ← hg0] at O0
    rw [← hY] at HB0
    rw [← hY, ← hg0]
    clear hY hg0 HX HB1 HI1 v1 v2 hXs left
    obtain ⟨w2, hw2⟩ : ∃ w2, w2 = Y := ⟨_, rfl⟩
    rw [← hw2] at O0 HB0
    rw [← hw2]
    clear hw2
    go_wp2
    go_loopw [11, 12] (fun v i wr => ∃ (j : Nat) (ao : Option Addr) (c' : Nat), j ≤ 4 ∧ i = .int .i64 j ∧ v = .slice ao (12 + j) c' ∧ Hid (wr.ownsRow w.heap.size 5 1 (.slice ao (12 + j) c') (12 + j) (u8s (P ++ (b4 s).take j))) ∧ Hid (Below w.heap.size w wr)) (fun _ i _ => 4 - (intOf i).toNat)
    case atStart => exact ⟨0, _, 12, by omega, rfl, rfl, O0, HB0⟩
    case round =>
      obtain ⟨j, ao2, c2, hj, rfl, rfl, HO, HBr⟩ := hrel
      by_cases hlj : j < 4
      · have hb := b4_bound s j
        have kx : IntKind.u8.wrap ((b4 s).getD j 0) = (b4 s).getD j 0 := by rw [IntKind.wrap_u8']; omega
        have HBY := Lib.hid (byte_any s HS.out j hlj wr)
        have HAP : Hid (u8s (P ++ (b4 s).take j) ++ [Value.int .u8 ((b4 s).getD j 0)] = u8s (P ++ (b4 s).take (j + 1))) := Lib.hid (by rw [b4_more s hlj, ← List.append_assoc, ← u8s_app (P ++ (b4 s).take j)]; rfl)
        obtain ⟨t, ht⟩ : ∃ t, t = (b4 s).getD j 0 := ⟨_, rfl⟩
        rw [← ht] at kx HBY HAP
        have hij : decide ((j : Int) < 4) = true := decide_eq_true (by omega)
        clear ht hb
        go_wp2_with fail
        refine HBY.out.mono ?_
        rintro e w3 ⟨rfl, rfl⟩
        go_wp2_with (at_builtin; refine wpList_append_own _ rfl (.tmp 39) (.tmp 44) 24 rfl w.heap.size 5 i0 (.int .u8 0) 1 1 Try.underlying24 hi0 hz0 hz1 hz2 rfl (by decide) _ (12 + j) (u8s (P ++ (b4 s).take j)) rfl (HO.out.alloc _) ⟨wr.heap.size, 0, none⟩ 1 1 [.int .u8 t] rfl rfl (cell_one_new wr _ _) ?c3 ?c4 ?c5 ?c6 ?_)
        case c3 => intro u hu; simp at hu; subst hu; rfl
        case c4 => unfold maxLen; omega
        case c5 => omega
        case c6 => have := HBr.out.size; simp; omega
        intro v4 w4 hown hg _
        have HB4 := Lib.hid ((bl_al HBr.out (.cells #[.int .u8 t] 5)).grown hg (by have := HBr.out.size; simp; omega) (fun k hk => (HO.out.lt k hk).1))
        rw [HAP.out] at hown
        obtain ⟨a4, c4, rfl⟩ := own_form hown
        have HO4 := Lib.hid hown
        clear hown hg HO HBY
        go_wp2
        go_roundw
        case rel => exact ⟨j + 1, a4, c4, by omega, by go_num, rfl, HO4, HB4⟩
        case measure => simp [intOf]; omega
      · have hj4 : j = 4 := by omega
        have hto : (b4 s).take j = b4 s := by rw [hj4]; rfl
        rw [hto] at HO
        obtain ⟨m, hm⟩ : ∃ m, m = 12 + j := ⟨_, rfl⟩
        rw [← hm] at HO
        rw [← hm]
        have HM16 : Hid (m = 16) := Lib.hid (by omega)
        have hij : decide ((j : Int) < 4) = false := decide_eq_false (by omega)
        clear O0 HB0 hj4 hj hlj hto hm
        obtain ⟨w5, rfl⟩ : ∃ w5 : World, w5 = wr := ⟨_, rfl⟩
        obtain ⟨T, hT⟩ : ∃ T, T = P ++ b4 s := ⟨_, rfl⟩
        rw [← hT] at HO HAPP
        clear hT
        go_wp2
        go_loopw [11, 13] (fun v i wr => ∃ (j : Nat) (ao : Option Addr) (c' : Nat), j ≤ 4 ∧ i = .int .i64 j ∧ v = .slice ao (m + j) c' ∧ Hid (wr.ownsRow w.heap.size 5 1 (.slice ao (m + j) c') (m + j) (u8s (T ++ (b4 d).take j))) ∧ Hid (Below w.heap.size w wr)) (fun _ i _ => 4 - (intOf i).toNat)
        case atStart => exact ⟨0, _, c2, by omega, rfl, rfl, Lib.hid (by simpa using HO.out), HBr⟩
        case round =>
          obtain ⟨jj, ao2, c2, hj, rfl, rfl, HO, HBr⟩ := hrel
          by_cases hlj : jj < 4
          · have hb := b4_bound d jj
            have kx : IntKind.u8.wrap ((b4 d).getD jj 0) = (b4 d).getD jj 0 := by rw [IntKind.wrap_u8']; omega
            have HBY := Lib.hid (byte_any d HD.out jj hlj wr)
            have HAP : Hid (u8s (T ++ (b4 d).take jj) ++ [Value.int .u8 ((b4 d).getD jj 0)] = u8s (T ++ (b4 d).take (jj + 1))) := Lib.hid (by rw [b4_more d hlj, ← List.append_assoc, ← u8s_app (T ++ (b4 d).take jj)]; rfl)
            obtain ⟨t, ht⟩ : ∃ t, t = (b4 d).getD jj 0 := ⟨_, rfl⟩
            rw [← ht] at kx HBY HAP
            have hijj : decide ((jj : Int) < 4) = true := decide_eq_true (by omega)
            clear ht hb
            go_wp2_with fail
            refine HBY.out.mono ?_
            rintro e w3 ⟨rfl, rfl⟩
            go_wp2_with (at_builtin; refine wpList_append_own _ rfl (.tmp 50) (.tmp 55) 24 rfl w.heap.size 5 i0 (.int .u8 0) 1 1 Try.underlying24 hi0 hz0 hz1 hz2 rfl (by decide) _ (m + jj) (u8s (T ++ (b4 d).take jj)) rfl (HO.out.alloc _) ⟨wr.heap.size, 0, none⟩ 1 1 [.int .u8 t] rfl rfl (cell_one_new wr _ _) ?c3 ?c4 ?c5 ?c6 ?_)
            case c3 => intro u hu; simp at hu; subst hu; rfl
            case c4 => have := HM16.out; unfold maxLen; omega
            case c5 => have := HM16.out; omega
            case c6 => have := HBr.out.size; simp; omega
            intro v4 w4 hown hg _
            have HB4 := Lib.hid ((bl_al HBr.out (.cells #[.int .u8 t] 5)).grown hg (by have := HBr.out.size; simp; omega) (fun k hk => (HO.out.lt k hk).1))
            rw [HAP.out] at hown
            obtain ⟨a4, c4, rfl⟩ := own_form hown
            have HO4 := Lib.hid hown
            clear hown hg HO HBY
            go_wp2
            go_roundw
            case rel => exact ⟨jj + 1, a4, c4, by omega, by go_num, rfl, HO4, HB4⟩
            case measure => simp [intOf]; omega
          · have hto : (b4 d).take jj = b4 d := by rw [show jj = 4 by omega]; rfl
            rw [hto, HAPP.out] at HO
            obtain ⟨M, hM⟩ : ∃ M, M = m + jj := ⟨_, rfl⟩
            rw [← hM] at HO
            rw [← hM]
            have HM20 : Hid (M = 20) := Lib.hid (by have := HM16.out; omega)
            have HI5 := Lib.hid (own_in HO.out (by rw [H20.out]; exact HM20.out.symm) HF0.out)
            have hijj : decide ((jj : Int) < 4) = false := decide_eq_false (by omega)
            clear hto hj hlj hM hij
            obtain ⟨w6, rfl⟩ : ∃ w6 : World, w6 = wr := ⟨_, rfl⟩
            go_wp2_with fail
            refine (refSum1 HI5.out (by rw [H20.out]; omega) _ rfl).mono ?_
            rintro e w7 ⟨rfl, hb⟩
            rw [HSUM.out]
            have HB7 := Lib.hid (bl_tr (bl_al HBr.out (.cells #[.slice ao2 M c2] 24)) hb)
            have hO7 : w7.ownsRow w.heap.size 5 1 (.slice ao2 M c2) M (u8s l0) := owns_bel (HO.out.alloc _) hb
            clear HO HI5 hb HBr hijj
            obtain ⟨g, cap, hv, hgb⟩ := own_shape hO7 (by have := HM20.out; omega)
            simp only [Value.slice.injEq] at hv
            obtain ⟨rfl, _, rfl⟩ := hv
            have e1 := (hO7.cellAt 10 (by have := HM20.out; omega)).trans (u8s_at (l := l0) (by rw [H20.out]; omega))
            have e2 := (hO7.cellAt 11 (by have := HM20.out; omega)).trans (u8s_at (l := l0) (by rw [H20.out]; omega))
            have e3 := hO7.frozenAt 10
            have e4 := hO7.frozenAt 11
            have i10 : (10 : Int) < (M : Int) := by have := HM20.out; omega
            have i11 : (11 : Int) < (M : Int) := by have := HM20.out; omega
            have O7 := Lib.hid hO7
            obtain ⟨t1, ht1⟩ : ∃ t, t = l0.getD 10 0 := ⟨_, rfl⟩
            obtain ⟨t2, ht2⟩ : ∃ t, t = l0.getD 11 0 := ⟨_, rfl⟩
            rw [← ht1] at e1
            rw [← ht2] at e2
            clear hO7 ht1 ht2
            go_upto_region 19 with fail
            have O8 : Hid (((w7.setCell ⟨g, 10, none⟩ (.int .u8 r)).setCell ⟨g, 11, none⟩ (.int .u8 q)).ownsRow w.heap.size 5 1 (.slice (some ⟨g, 0, none⟩) M c2) M (u8s (ohd s d n))) := Lib.hid (by
              have h3 := (O7.out.stored 10 (.int .u8 r)).1
              have h4 := (h3.stored 11 (.int .u8 q)).1
              rw [u8s_set, u8s_set] at h4
              rw [← HSET.out]
              exact h4)
            have HB8 := Lib.hid (bl_put HB7.out hgb 10 11 (.int .u8 r) (.int .u8 q))
            obtain ⟨X8, hX8⟩ : ∃ X8, X8 = (w7.setCell ⟨g, 10, none⟩ (.int .u8 r)).setCell ⟨g, 11, none⟩ (.int .u8 q) := ⟨_, rfl⟩
            rw [← hX8] at O8 HB8
            rw [← hX8]
            have HI8 := Lib.hid (HI.out.below HB8.out)
            have hs8 := HB8.out.size
            clear hX8 O7 HB7 e1 e2 e3 e4
            go_wp2_with (at_builtin; refine append_any rfl (.tmp 70) (.tmp 71) 24 rfl w.heap.size 5 i0 (.int .u8 0) 1 1 Try.underlying24 hi0 hz0 hz1 hz2 rfl (by decide) _ M (u8s (ohd s d n)) rfl O8.out a n c (u8s l) rfl HI8.out.zero ?c1 HI8.out.cells (u8s_one _) ?c2 ?c3 ?c4 ?_)
            case c1 => unfold u8s; rw [List.length_map, HI8.out.len]; omega
            case c2 => have := HM20.out; unfold maxLen; omega
            case c3 => have := HM20.out; omega
            case c4 => exact hs8
            intro v9 w9 hown hg
            have HB9 := Lib.hid (HB8.out.grown hg hs8 (fun k hk => (O8.out.lt k hk).1))
            rw [u8s_app, ← HW.out] at hown
            obtain ⟨a9, c9, rfl⟩ := own_form hown
            have HO9 := Lib.hid hown
            have HL : Hid (M + n = (wrp s d l).length) := Lib.hid (by rw [wrp_len, HI8.out.len, HM20.out])
            clear hown hg O8 HI8 HB8 hs8
            go_wp2
            go_ret2
            exact ⟨a9, M + n, c9, rfl, HL.out, HO9.out, HB9.out⟩
  · have C := Lib.hid (fun W (h : In W a n c l) => refParse_t (.inl ⟨hi, rfl, rfl, rfl, rfl⟩) a n c W h hn)
    obtain ⟨p, hp⟩ : ∃ p, p = dec l := ⟨_, rfl⟩
    rw [← hp] at C
    have w0 : IntKind.i64.wrap (20 + (n : Int)) = 20 + (n : Int) := IntWalk.i64_in _ (by omega)
    have hgt : decide ((1500 : Int) < 20 + (n : Int)) = true := decide_eq_true (by have := hI.len; omega)
    clear hI hi hs hd hp hl
    go_enter Try.func12, Try.ntmps12
    go_wp2_with fail
    refine (C.out w HI.out).mono ?_
    rintro e w1 ⟨ao, kk, cp, rfl, hkk, left, hb⟩
    subst hkk
    have HB1 := Lib.hid (bl_al hb (p.obj ao p.data.length cp))
    clear hb left
    go_wp2
    go_ret2
    exact ⟨none, 0, 0, rfl, rfl, World.ownsRow_nil _ _ _ _, HB1.out⟩
  · have C := Lib.hid (fun W (h : In W a n c l) => refParse_t (.inr ⟨hi, rfl, rfl, rfl, rfl⟩) a n c W h hn)
    clear hI hi hs hd
    go_enter Try.func12, Try.ntmps12
    go_wp2_with fail
    refine (C.out w HI.out).mono ?_
    rintro e w1 ⟨ao, kk, cp, rfl, hkk, left, hb⟩
    subst hkk
    have HB1 := Lib.hid (bl_al hb (zeroP.obj ao zeroP.data.length cp))
    clear hb
    go_wp2
    go_ret2
    exact ⟨none, 0, 0, rfl, rfl, World.ownsRow_nil _ _ _ _, HB1.out⟩
end Go.Proofs.Ytfbmeoiaedlgoaa
