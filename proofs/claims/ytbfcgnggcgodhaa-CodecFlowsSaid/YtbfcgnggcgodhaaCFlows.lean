/- Contract of CodecFlows: true. Conditions: the row of numbers came in, of at most 2^44 - 512 numbers. -/
import Derived.Test.YtbfcgnggcgodhaaMrk
import Derived.Test.YtbfcgnggcgodhaaMgG
import Derived.Test.YtbfcgnggcgodhaaCdc
import Derived.Laws.BytesArg
import Derived.LoopTactic
import Derived.Deep.CutRange
import Derived.Deep.RegionHeld3
namespace Go.Proofs.Ytbfcgnggcgodhaa
open Go Go.RowKit
set_option linter.unusedVariables false
set_option linter.unusedSimpArgs false

theorem fls_of {X6 wx : World} {q2 q6 q9 : Nat} {pr s sp d dp p' s' sp' d' dp' : Int} (h1 : FvAt X6 q2 pr s sp d dp) (h2 : FvAt X6 q6 p' s' sp' d' dp') (h3 : FvAt X6 q9 p' s' sp' d' dp') (hb : Below X6.heap.size X6 wx) :
    wx.cell? ⟨q2, 0, none⟩ = some (.int .i64 pr) ∧ wx.cell? ⟨q2, 1, none⟩ = some (.int .u32 s) ∧ wx.cell? ⟨q2, 2, none⟩ = some (.int .i64 sp) ∧ wx.cell? ⟨q2, 3, none⟩ = some (.int .u32 d) ∧ wx.cell? ⟨q2, 4, none⟩ = some (.int .i64 dp) ∧ wx.cell? ⟨q6, 0, none⟩ = some (.int .i64 p') ∧ wx.cell? ⟨q6, 1, none⟩ = some (.int .u32 s') ∧ wx.cell? ⟨q6, 2, none⟩ = some (.int .i64 sp') ∧ wx.cell? ⟨q6, 3, none⟩ = some (.int .u32 d') ∧ wx.cell? ⟨q6, 4, none⟩ = some (.int .i64 dp') ∧ wx.cell? ⟨q9, 0, none⟩ = some (.int .i64 p') ∧ wx.cell? ⟨q9, 1, none⟩ = some (.int .u32 s') ∧ wx.cell? ⟨q9, 2, none⟩ = some (.int .i64 sp') ∧ wx.cell? ⟨q9, 3, none⟩ = some (.int .u32 d') ∧ wx.cell? ⟨q9, 4, none⟩ = some (.int .i64 dp') ∧ Below X6.heap.size X6 wx := by
  have g1 := h1.later hb
  have g2 := h2.later hb
  have g3 := h3.later hb
  exact ⟨g1.c0, g1.c1, g1.c2, g1.c3, g1.c4, g2.c0, g2.c1, g2.c2, g2.c3, g2.c4, g3.c0, g3.c1, g3.c2, g3.c3, g3.c4, hb⟩
set_option maxRecDepth 100000 in
set_option maxHeartbeats 2000000 in
theorem flowsC_any (pr s sp d dp : Int) (hs : 0 ≤ s ∧ s < 4294967296) (hd : 0 ≤ d ∧ d < 4294967296) (hF : fitI [pr, s, sp, d, dp]) (a : Option Addr) (n c : Nat) (l : List Int) (w : World) (hI : InI w a n c l) (hn : n ≤ 17592186043904) :
    Calls Try.prog 7 #[fv pr s sp d dp, .slice a n c] w fun e w' => e = .returned (.bool true) ∧ Below w.heap.size w w' := by
  obtain ⟨j0, hj0, hy0, hy1, hy2⟩ := info_parts info3
  obtain ⟨F, r, E, f, ho⟩ := TOut.some l
  obtain ⟨⟨p', s', sp', d', dp', rfl⟩, hrl⟩ := ho.fvs
  have HRF := Lib.hid (ho.fit hI.fit)
  have CT := Lib.hid (fun W g (h : InI W (some ⟨g, 0, none⟩) n (n + 1) l) => takeFlow_t ho (some ⟨g, 0, none⟩) n (n + 1) W h (by omega))
  have CR := Lib.hid (fun W (h : InI W a n c l) => refTake_t ho a n c W h (by omega))
  have CN := Lib.hid (fun W => num_tout ho W)
  have CI := Lib.hid (fun W g k k' (h : InI W (some ⟨g, 0, none⟩) n k l) (h' : InI W a n k' l) => ints_any l l (some ⟨g, 0, none⟩) a n k n k' W h h' (by omega) true (by simp))
  have CF := Lib.hid (fun W => flowN_t pr s sp d dp W hs hd)
  have CG := Lib.hid (fun W => refFlow_any pr s sp d dp W hs hd)
  have hrn : r.length ≤ 4611686018427387904 := by have := hI.len; omega
  have CJ := Lib.hid (fun W a k c a' c' (h : InI W a k c r) (h' : InI W a' k c' r) (e : k = r.length) => ints_any r r a a' k c k c' W h h' (by omega) true (by simp))
  have CK := Lib.hid (fun W a k c a' c' (h : InI W a k c [pr, s, sp, d, dp]) (h' : InI W a' k c' [pr, s, sp, d, dp]) (e : k = 5) => ints_any [pr, s, sp, d, dp] [pr, s, sp, d, dp] a a' k c k c' W h h' (by omega) true (by simp))
  have HFF := Lib.hid hF
  have HLN := Lib.hid hI.len
  have HFL := Lib.hid hI.fit
  obtain ⟨W, hW⟩ : ∃ W, W = w.alloc (.cells #[.int .i64 pr, .int .u32 s, .int .i64 sp, .int .u32 d, .int .i64 dp] 55) := ⟨_, rfl⟩
  have HBW : Hid (Below w.heap.size w W) := Lib.hid (by rw [hW]; exact bl_al (Below.refl _ _) _)
  have HFW : Hid (FvAt W w.heap.size pr s sp d dp) := Lib.hid (by rw [hW]; exact FvAt.of (heap_alloc_new _ _))
  have HIW := Lib.hid (hI.below HBW.out)
  have HW := Lib.hid hW
  obtain ⟨q2, hq2⟩ : ∃ q, q = w.heap.size := ⟨_, rfl⟩
  rw [← hq2] at HFW
  have HQ2 := Lib.hid hq2
  have HRL := Lib.hid hrl
  clear hI ho hs hd hrl hrn hW hq2 hF
  go_enter Try.func7, Try.ntmps7
  go_wp2_with fail
  rw [← HW.out, ← HQ2.out]
  refine (alive6_any W).mono ?_
  rintro e w1 ⟨rfl, hb⟩
  have HB1 := Lib.hid (bl_tr HBW.out hb)
  have HF1 := Lib.hid (HFW.out.later hb)
  have HI1 := Lib.hid (HIW.out.below hb)
  clear hb HBW HFW HIW HW HQ2
  go_wp2_with (first | (refine wpList_make_own w1 rfl _ _ 22 rfl w1.heap.size 3 j0 (.int .i64 0) 1 Try.underlying22 hj0 hy0 hy1 .i64 .i64 ((n : Int) + 1) (n + 1) rfl rfl (by omega) (by rw [hy2]; omega) (by unfold maxLen; omega) (Nat.le_refl _) ?_) | fail)
  intro w2 hown2 hg2
  have hb2 := (Below.refl w1.heap.size w1).grown hg2 (Nat.le_refl _) (fun k hk => by cases hk)
  have HI2 := Lib.hid (HI1.out.below hb2)
  have HR2 := Lib.hid hb2
  clear hg2 hb2
  obtain ⟨g, hg⟩ : ∃ g, g = w1.heap.size := ⟨_, rfl⟩
  rw [← hg] at hown2 HR2
  rw [← hg]
  have HG := Lib.hid hg
  clear hg
  go_wp2_with (first | (at_builtin; refine wpList_append_fits_any w2 rfl (.tmp 18) (.tmp 19) 22 rfl g 3 j0 1 Try.underlying22 hj0 hy1 g 0 (n + 1) [] rfl hown2 a n c (i64s l) rfl ?c1 HI2.out.zero HI2.out.cells (i64s_one l) ?c2 ?_))
  case c1 => unfold i64s; rw [List.length_map, HI2.out.len, Nat.mul_one]
  case c2 => omega
  intro w3 hown3 hg3
  have hb3 := HR2.out.grown hg3 (by have := HR2.out.size; have := HG.out; omega) (fun k hk => by cases hk; exact Nat.le_refl _)
  have HR3 := Lib.hid hb3
  have HO3 := Lib.hid hown3
  have hs3 : g ≤ w3.heap.size := by have := hb3.size; have := HG.out; omega
  clear hown2 hown3 hg3 hb3 HI2 HR2
  go_wp2_with (first | (at_builtin; refine wpList_append_fits _ rfl (.tmp 20) (.tmp 21) 22 rfl g 3 j0 1 Try.underlying22 hj0 hy1 g n (n + 1) (i64s l) rfl (HO3.out.alloc _) ⟨w3.heap.size, 0, none⟩ 1 1 [.int .i64 (-77)] rfl rfl (one_new w3 _ _) ?c3 ?c4 ?_))
  case c3 => intro u hu; simp at hu; subst hu; rfl
  case c4 => omega
  intro w4 hown4 hg4
  have hb4 := (HR3.out.alloc hs3 (.cells #[.int .i64 (-77)] 3)).grown hg4 (by simp; omega) (fun k hk => by cases hk; exact Nat.le_refl _)
  have HO4 : Hid (w4.ownsRow g 3 1 (.slice (some ⟨g, 0, none⟩) (n + 1) (n + 1)) (n + 1) (i64s (l ++ [-77]))) := Lib.hid (by rw [← i64s_app]; exact hown4)
  rw [HG.out] at hb4
  have HB4 := Lib.hid (bl_tr HB1.out hb4)
  have HF4 := Lib.hid (HF1.out.later hb4)
  have HI4 := Lib.hid (HI1.out.below hb4)
  have HM4 := Lib.hid (mark_in HO4.out HLN.out HFL.out).1
  clear hown4 hg4 hb4 hs3 HO3 HR3 HB1 HF1 HI1 HG
  have i1 : (n : Int) ≤ (n : Int) + 1 := by omega
  go_wp2_with fail
  refine (CT.out w4 g HM4.out).mono ?_
  rintro e w5 ⟨a5, n5, c5, rfl, hn5, o5, hb⟩
  have hb5 := bl_al hb (.cells #[.int .i64 p', .int .u32 s', .int .i64 sp', .int .u32 d', .int .i64 dp'] 55)
  have HX5 := Lib.hid (FvAt.of (heap_alloc_new w5 (.cells #[.int .i64 p', .int .u32 s', .int .i64 sp', .int .u32 d', .int .i64 dp'] 55)))
  have HO5 := Lib.hid (owns_bel HO4.out hb5)
  have HF5 := Lib.hid (HF4.out.later hb5)
  have HI5 := Lib.hid (HI4.out.below hb5)
  have HB5 := Lib.hid (bl_tr HB4.out hb5)
  have HR5 := Lib.hid (o5.alloc (.cells #[.int .i64 p', .int .u32 s', .int .i64 sp', .int .u32 d', .int .i64 dp'] 55))
  have HS5 : Hid (w4.heap.size ≤ w5.heap.size) := Lib.hid hb.size
  have HL5 := Lib.hid hn5
  obtain ⟨X5, hX5⟩ : ∃ X, X = w5.alloc (.cells #[.int .i64 p', .int .u32 s', .int .i64 sp', .int .u32 d', .int .i64 dp'] 55) := ⟨_, rfl⟩
  obtain ⟨q6, hq6⟩ : ∃ q, q = w5.heap.size := ⟨_, rfl⟩
  rw [← hX5] at HO5 HF5 HI5 HB5 HR5 HX5 hb5
  rw [← hq6] at HX5 HS5
  have HW5 := Lib.hid hb5
  have HXE := Lib.hid hX5
  have HQE := Lib.hid hq6
  clear hn5 o5 hb hb5 hX5 hq6 HF4 HM4 CT
  go_upto_region 5 with fail
  rw [← HXE.out, ← HQE.out]
  clear HXE HQE
  go_wp2_with fail
  refine (CR.out X5 HI5.out).mono ?_
  rintro e w6 ⟨a6, n6, c6, rfl, hn6, o6, hb⟩
  have hb6 := bl_al hb (.cells #[.int .i64 p', .int .u32 s', .int .i64 sp', .int .u32 d', .int .i64 dp'] 55)
  have HY6 := Lib.hid (FvAt.of (heap_alloc_new w6 (.cells #[.int .i64 p', .int .u32 s', .int .i64 sp', .int .u32 d', .int .i64 dp'] 55)))
  have HX6 := Lib.hid (HX5.out.later hb6)
  have HO6 := Lib.hid (owns_bel HO5.out hb6)
  have HF6 := Lib.hid (HF5.out.later hb6)
  have HI6 := Lib.hid (HI5.out.below hb6)
  have HB6 := Lib.hid (bl_tr HB5.out hb6)
  have HR6 := Lib.hid (owns_bel HR5.out hb6)
  have HT6 := Lib.hid (own_inI (o6.alloc (.cells #[.int .i64 p', .int .u32 s', .int .i64 sp', .int .u32 d', .int .i64 dp'] 55)) hn6.symm HRF.out)
  have HW6 := Lib.hid (bl_tr HW5.out hb6)
  have HL6 := Lib.hid hn6
  obtain ⟨X6, hX6⟩ : ∃ X, X = w6.alloc (.cells #[.int .i64 p', .int .u32 s', .int .i64 sp', .int .u32 d', .int .i64 dp'] 55) := ⟨_, rfl⟩
  obtain ⟨q9, hq9⟩ : ∃ q, q = w6.heap.size := ⟨_, rfl⟩
  rw [← hX6] at HO6 HF6 HI6 HB6 HR6 HX6 HY6 HT6 HW6
  rw [← hq9] at HY6
  have HXE := Lib.hid hX6
  have HQE := Lib.hid hq9
  clear hn6 o6 hb hb6 hX6 hq9 HB5 HF5 HI5 HO5 HR5 HX5 HW5 CR
  go_upto_region 6 with fail
  rw [← HXE.out, ← HQE.out]
  clear HXE HQE
  have hd0 : Below X6.heap.size X6 X6.drew := (Below.refl _ _).drew
  have HT5 := Lib.hid (own_inI HR6.out HL5.out.symm HRF.out)
  have hnn : n5 = n6 := by rw [HL5.out, HL6.out]
  subst hnn
  have CJ6 := Lib.hid (fun (U : World) (h : Below X6.heap.size X6 U) => CJ.out U a5 n5 c5 a6 c6 (HT5.out.below h) (HT6.out.below h) HL5.out)
  have hff : fitI [pr, s, sp, d, dp] := HFF.out
  have hS0 := fls_of HF6.out HX6.out HY6.out hd0
  go_wp2_with fail
  go_region_held3 (fun wx => wx.cell? ⟨q2, 0, none⟩ = some (.int .i64 pr) ∧ wx.cell? ⟨q2, 1, none⟩ = some (.int .u32 s) ∧ wx.cell? ⟨q2, 2, none⟩ = some (.int .i64 sp) ∧ wx.cell? ⟨q2, 3, none⟩ = some (.int .u32 d) ∧ wx.cell? ⟨q2, 4, none⟩ = some (.int .i64 dp) ∧ wx.cell? ⟨q6, 0, none⟩ = some (.int .i64 p') ∧ wx.cell? ⟨q6, 1, none⟩ = some (.int .u32 s') ∧ wx.cell? ⟨q6, 2, none⟩ = some (.int .i64 sp') ∧ wx.cell? ⟨q6, 3, none⟩ = some (.int .u32 d') ∧ wx.cell? ⟨q6, 4, none⟩ = some (.int .i64 dp') ∧ wx.cell? ⟨q9, 0, none⟩ = some (.int .i64 p') ∧ wx.cell? ⟨q9, 1, none⟩ = some (.int .u32 s') ∧ wx.cell? ⟨q9, 2, none⟩ = some (.int .i64 sp') ∧ wx.cell? ⟨q9, 3, none⟩ = some (.int .u32 d') ∧ wx.cell? ⟨q9, 4, none⟩ = some (.int .i64 dp') ∧ Below X6.heap.size X6 wx) (first | (with_reducible exact hS0) | (with_reducible exact fls_of HF6.out HX6.out HY6.out hb7) | (with_reducible exact fls_of HF6.out HX6.out HY6.out hb8) | (with_reducible exact fls_of HF6.out HX6.out HY6.out hb9) | (with_reducible exact fls_of HF6.out HX6.out HY6.out hb10) | (with_reducible assumption) | fail)
    (first | (go_at_call 27; (with_reducible refine (CJ6.out _ hd0).mono ?_); rintro e w7 ⟨rfl, hb⟩; have hb7 := bl_tr hd0 hb) | (go_at_call 15; (with_reducible refine (CN.out _).mono ?_); rintro e w' ⟨rfl, rfl⟩) | (go_at_call 28; (with_reducible refine (CF.out _).mono ?_); rintro e w8 ⟨a8, n8, c8, rfl, hn8, o8, hb⟩; have hb8 := bl_tr hb7 hb; have HI8 := Lib.hid (own_inI o8 hn8.symm hff)) | (go_at_call 29; (with_reducible refine (CG.out _).mono ?_); rintro e w9 ⟨a9, n9, c9, rfl, hn9, o9, hb⟩; have hb9 := bl_tr hb8 hb; have HI9 := Lib.hid (own_inI o9 hn9.symm hff); have HI8' := Lib.hid (HI8.out.below hb); cases hn8; cases hn9) | (go_at_call 27; (with_reducible refine (CK.out _ a8 5 c8 a9 c9 HI8'.out HI9.out rfl).mono ?_); rintro e w10 ⟨rfl, hb⟩; have hb10 := bl_tr hb9 hb) | fail)
  all_goals
    rename_i hHeld
    have HR10 := Lib.hid (owns_bel HR6.out hb10)
    have HW10 := Lib.hid (bl_tr HW6.out hb10)
    have HM10 : Hid (r.length = n5) := Lib.hid HL5.out.symm
    have HN5 : Hid (n5 ≤ 4611686018427387904) := Lib.hid (by have := HL5.out; have := HRL.out; have := HLN.out; omega)
    clear hHeld hb10 hb9 hb8 hb7 hd0 hS0 CJ6 HR6 HW6 HX6 HY6 HF6 HI6 HO6 HB6 HT5 HT6 HI8 HI9 HI8' hb CJ CK CF CG CN
    go_wp2
    go_loopw [12, 63] (fun v i wr => ∃ (j : Nat) (M : List Int), j ≤ n5 ∧ i = .int .i64 j ∧ Hid (M.length = n5) ∧ Hid (wr.ownsRow w4.heap.size 3 1 (.slice a5 n5 c5) n5 (i64s M)) ∧ Hid (Below w4.heap.size w4 wr)) (fun _ i _ => n5 - (intOf i).toNat)
    case atStart => exact ⟨0, r, by omega, rfl, HM10, HR10, HW10⟩
    case round =>
      obtain ⟨j, M, hj, rfl, hM, hO, hB⟩ := hrel
      have hnb := HN5.out
      clear HR10 HW10 HM10
      by_cases hlt : j < n5
      · obtain ⟨g5, cap5, hv, hg5⟩ := own_shape hO.out (by omega)
        simp only [Value.slice.injEq, true_and] at hv
        obtain ⟨rfl, rfl⟩ := hv
        have hcell := (hO.out.cellAt j (by omega)).trans (i64s_at (by rw [hM.out]; exact hlt))
        have hfr := hO.out.frozenAt j
        obtain ⟨x, hx⟩ : ∃ x, x = M.getD j 0 := ⟨_, rfl⟩
        rw [← hx] at hcell
        have ilt : (j : Int) < (n5 : Int) := by omega
        clear hx
        go_wp2
        go_roundw
        case rel => exact ⟨j + 1, M.set j 0, by omega, by go_num, Lib.hid (by rw [List.length_set]; exact hM.out), Lib.hid (by have h1 := (hO.out.stored j (.int .i64 0)).1; rwa [i64s_set] at h1), Lib.hid (hB.out.setCell hg5 _)⟩
        case measure => simp [intOf]; omega
      · have HE := Lib.hid (mark_in (owns_bel HO4.out hB.out) HLN.out HFL.out)
        have HI11 := Lib.hid (HI4.out.below hB.out)
        have HB11 := Lib.hid (bl_tr HB4.out hB.out)
        have ilt : ¬ (j : Int) < (n5 : Int) := by omega
        have hmk := HE.out.2
        have i1n : (n : Int) < (n : Int) + 1 := by omega
        go_wp2_with fail
        refine (CI.out _ _ _ _ HE.out.1 HI11.out).mono ?_
        rintro e w12 ⟨rfl, hb⟩
        have hmk2 := cell_later hb hmk
        have HB12 := Lib.hid (bl_tr HB11.out hb)
        clear hb hmk
        go_wp2
        go_ret
        exact ⟨rfl, HB12.out⟩
end Go.Proofs.Ytbfcgnggcgodhaa
