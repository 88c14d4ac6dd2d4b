/- The document's Of, Prune and Find. Conditions: the list came in. -/
import Derived.Test.YtanajblldlgalaaDoorRfB
import Derived.Test.YtanajblldlgalaaDoorLdP
import Derived.Test.YtanajblldlgalaaDoorLdF
namespace Go.Proofs.YtanajblldlgalaaDoor
open Go Go.RowKit
set_option linter.unusedVariables false
set_option linter.unusedSimpArgs false

theorem app_side (w : World) (B : Nat) (x : Ls) {m : Nat} (hm : m ≤ 4194304) (hB : B ≤ w.heap.size) :
    Hid (((some (⟨w.heap.size, 0, none⟩ : Addr)) = none → 1 = 0 ∧ 1 = 0) ∧ (∀ ad, (some (⟨w.heap.size, 0, none⟩ : Addr)) = some ad → ∀ j u, (Ls.cs x)[j]? = some u → (w.alloc (.cells #[.int .u32 x.vip, .int .i64 x.first, .int .u32 x.dip, .int .i64 x.exp] tyL)).cell? (ad.add j) = some u) ∧ m + 1 ≤ maxLen ∧ (m + 1) * 32 ≤ 140737488355328 ∧ B ≤ (w.alloc (.cells #[.int .u32 x.vip, .int .i64 x.first, .int .u32 x.dip, .int .i64 x.exp] tyL)).heap.size) := by
  exact Lib.hid ⟨(by intro e; cases e), (by intro ad h; cases h; exact ls_new w x), (by unfold maxLen; omega), (by omega), (by simp; omega)⟩
set_option maxRecDepth 100000 in
set_option maxHeartbeats 4000000 in
theorem refOf_c (l : List Ls) (dip now : Int) (a : Option Addr) (n c : Nat) (w : World) (hI : InL w a n c l) (hn : n ≤ 1048576) :
    Calls Tryd.prog 23 #[.slice a n c, .int .u32 dip, .int .i64 now] w fun e w' => (∃ v, e = .returned v ∧ PkL w.heap.size w' v (l.filter (isO dip now))) ∧ Below w.heap.size w w' := by
  obtain ⟨i0, hi0, hz0, hz1, hz2⟩ := info_parts infoL
  have hlen := hI.len
  have HI := Lib.hid hI
  have HN : Hid (l.take n = l) := Lib.hid (List.take_of_length_le (by omega))
  have P0 : Hid (PkL w.heap.size w (.slice none 0 0) ((l.take 0).filter (isO dip now))) := Lib.hid (pkL_nil _ _)
  clear hI
  go_enter Tryd.func23, Tryd.ntmps23
  go_wp2
  go_loopw [7, 8] (fun pv iv wr => ∃ (i : Nat) (v : Value), v = pv ∧ i ≤ n ∧ iv = .int .i64 i ∧ Hid (PkL w.heap.size wr v ((l.take i).filter (isO dip now))) ∧ Hid (Below w.heap.size w wr)) (fun _ iv _ => n - (intOf iv).toNat)
  case atStart => exact ⟨0, _, rfl, by omega, rfl, P0, Lib.hid (Below.refl _ _)⟩
  case round =>
    obtain ⟨i, v, rfl, hi, rfl, HK, HB⟩ := hrel
    obtain ⟨w2, rfl⟩ : ∃ v, v = wr := ⟨_, rfl⟩
    clear P0
    by_cases hlt : i < n
    · have ii : (i : Int) < (n : Int) := by omega
      have j0 : (0 : Int) ≤ (i : Int) := by omega
      obtain ⟨b, off, rfl⟩ := HI.out.block (by omega)
      have hx := (HI.out.below HB.out).cell hlt
      have HM := Lib.hid (filt_more (p := isO dip now) (l := l) (i := i) (by omega))
      have HL : Hid (((l.take i).filter (isO dip now)).length ≤ i) := Lib.hid (Nat.le_trans (List.length_filter_le _ _) (by rw [List.length_take]; omega))
      obtain ⟨x, ex⟩ : ∃ x, x = l.getD i ls0 := ⟨_, rfl⟩
      rw [← ex] at hx HM
      obtain ⟨m, hm⟩ : ∃ m, m = (l.take i).filter (isO dip now) := ⟨_, rfl⟩
      rw [← hm] at HK HM HL
      obtain ⟨c0, c1, c2, c3⟩ := hx
      obtain ⟨x0, x1, x2, x3⟩ := x
      clear ex hm
      by_cases e : x2 = dip
      · by_cases e2 : now ≤ x3
        · have HPy : Hid (isO dip now ⟨x0, x1, x2, x3⟩ = true) := Lib.hid (by unfold isO livL; rw [decide_eq_true e, decide_eq_true e2]; rfl)
          have q1 : (x2 == dip) = true := by simpa using e
          clear e
          have HNew := Lib.hid (ls_new w2 ⟨x0, x1, x2, x3⟩)
          have HOwn : Hid ((w2.alloc (.cells #[.int .u32 x0, .int .i64 x1, .int .u32 x2, .int .i64 x3] tyL)).ownsRow w.heap.size tyL 4 v m.length (cellsL m)) := Lib.hid (HK.out.alloc _)
          have hs4 := HB.out.size
          have K := app_side w2 w.heap.size ⟨x0, x1, x2, x3⟩ (m := m.length) (by have := HL.out; omega) hs4
          go_wp2_with (at_builtin; refine append_any rfl _ _ 22 rfl w.heap.size tyL i0 (.agg #[.int .u32 0, .int .i64 0, .int .u32 0, .int .i64 0]) 4 32 Tryd.underlying22 hi0 hz0 hz1 hz2 rfl (by decide) _ _ _ rfl HOwn.out (some ⟨w2.heap.size, 0, none⟩) 1 1 (Ls.cs ⟨x0, x1, x2, x3⟩) rfl K.out.1 rfl K.out.2.1 (cs_one _) K.out.2.2.1 K.out.2.2.2.1 K.out.2.2.2.2 ?_)
          intro v2 w5 ho5 hg5
          have HB5 := Lib.hid ((HB.out.alloc hs4 (.cells #[.int .u32 x0, .int .i64 x1, .int .u32 x2, .int .i64 x3] tyL)).grown hg5 (by simp; omega) (fun k hk => own_blkL HOwn.out hk))
          have HK5 : Hid (PkL w.heap.size w5 v2 ((l.take (i + 1)).filter (isO dip now))) := Lib.hid (by
            rw [HM.out, HPy.out]
            unfold PkL
            rw [if_pos rfl, List.length_append, cellsL_app, cellsL_one]
            exact ho5)
          clear ho5 hg5 HOwn HNew HK HM
          go_wp2
          go_roundw
          case rel => exact ⟨i + 1, _, rfl, by omega, by go_num, HK5, HB5⟩
          case measure => simp [intOf]; omega
        · have HPy : Hid (isO dip now ⟨x0, x1, x2, x3⟩ = false) := Lib.hid (by unfold isO livL; simp only; rw [decide_eq_false e2, Bool.and_false])
          have q1 : (x2 == dip) = true := by simpa using e
          clear e
          have HK5 : Hid (PkL w.heap.size w2 v ((l.take (i + 1)).filter (isO dip now))) := Lib.hid (by
            rw [HM.out, HPy.out, if_neg Bool.false_ne_true, List.append_nil]
            exact HK.out)
          clear HM HK
          go_wp2
          go_roundw
          case rel => exact ⟨i + 1, _, rfl, by omega, by go_num, HK5, HB⟩
          case measure => simp [intOf]; omega
      · have HPy : Hid (isO dip now ⟨x0, x1, x2, x3⟩ = false) := Lib.hid (by unfold isO livL; simp only; rw [decide_eq_false e, Bool.false_and])
        have q1 : (x2 == dip) = false := by simpa using e
        clear e
        have HK5 : Hid (PkL w.heap.size w2 v ((l.take (i + 1)).filter (isO dip now))) := Lib.hid (by
          rw [HM.out, HPy.out, if_neg Bool.false_ne_true, List.append_nil]
          exact HK.out)
        clear HM HK
        go_wp2
        go_roundw
        case rel => exact ⟨i + 1, _, rfl, by omega, by go_num, HK5, HB⟩
        case measure => simp [intOf]; omega
    · have ii : ¬ (i : Int) < (n : Int) := by omega
      obtain rfl : i = n := by omega
      go_wp2
      go_ret
      exact ⟨⟨_, rfl, by have := HK.out; rwa [HN.out] at this⟩, HB.out⟩
set_option maxRecDepth 100000 in
set_option maxHeartbeats 4000000 in
theorem refPrune_c (l : List Ls) (now : Int) (a : Option Addr) (n c : Nat) (w : World) (hI : InL w a n c l) (hn : n ≤ 1048576) :
    Calls Tryd.prog 25 #[.slice a n c, .int .i64 now] w fun e w' => (∃ v, e = .returned v ∧ PkL w.heap.size w' v (l.filter (livL now))) ∧ Below w.heap.size w w' := by
  obtain ⟨i0, hi0, hz0, hz1, hz2⟩ := info_parts infoL
  have hlen := hI.len
  have HI := Lib.hid hI
  have HN : Hid (l.take n = l) := Lib.hid (List.take_of_length_le (by omega))
  have P0 : Hid (PkL w.heap.size w (.slice none 0 0) ((l.take 0).filter (livL now))) := Lib.hid (pkL_nil _ _)
  clear hI
  go_enter Tryd.func25, Tryd.ntmps25
  go_wp2
  go_loopw [5, 6] (fun pv iv wr => ∃ (i : Nat) (v : Value), v = pv ∧ i ≤ n ∧ iv = .int .i64 i ∧ Hid (PkL w.heap.size wr v ((l.take i).filter (livL now))) ∧ Hid (Below w.heap.size w wr)) (fun _ iv _ => n - (intOf iv).toNat)
  case atStart => exact ⟨0, _, rfl, by omega, rfl, P0, Lib.hid (Below.refl _ _)⟩
  case round =>
    obtain ⟨i, v, rfl, hi, rfl, HK, HB⟩ := hrel
    obtain ⟨w2, rfl⟩ : ∃ v, v = wr := ⟨_, rfl⟩
    clear P0
    by_cases hlt : i < n
    · have ii : (i : Int) < (n : Int) := by omega
      have j0 : (0 : Int) ≤ (i : Int) := by omega
      obtain ⟨b, off, rfl⟩ := HI.out.block (by omega)
      have hx := (HI.out.below HB.out).cell hlt
      have HM := Lib.hid (filt_more (p := livL now) (l := l) (i := i) (by omega))
      have HL : Hid (((l.take i).filter (livL now)).length ≤ i) := Lib.hid (Nat.le_trans (List.length_filter_le _ _) (by rw [List.length_take]; omega))
      obtain ⟨x, ex⟩ : ∃ x, x = l.getD i ls0 := ⟨_, rfl⟩
      rw [← ex] at hx HM
      obtain ⟨m, hm⟩ : ∃ m, m = (l.take i).filter (livL now) := ⟨_, rfl⟩
      rw [← hm] at HK HM HL
      obtain ⟨c0, c1, c2, c3⟩ := hx
      obtain ⟨x0, x1, x2, x3⟩ := x
      clear ex hm
      by_cases e2 : now ≤ x3
      · have HPy : Hid (livL now ⟨x0, x1, x2, x3⟩ = true) := Lib.hid (by unfold livL; exact decide_eq_true e2)
        have HNew := Lib.hid (ls_new w2 ⟨x0, x1, x2, x3⟩)
        have HOwn : Hid ((w2.alloc (.cells #[.int .u32 x0, .int .i64 x1, .int .u32 x2, .int .i64 x3] tyL)).ownsRow w.heap.size tyL 4 v m.length (cellsL m)) := Lib.hid (HK.out.alloc _)
        have hs4 := HB.out.size
        have K := app_side w2 w.heap.size ⟨x0, x1, x2, x3⟩ (m := m.length) (by have := HL.out; omega) hs4
        go_wp2_with (at_builtin; refine append_any rfl _ _ 22 rfl w.heap.size tyL i0 (.agg #[.int .u32 0, .int .i64 0, .int .u32 0, .int .i64 0]) 4 32 Tryd.underlying22 hi0 hz0 hz1 hz2 rfl (by decide) _ _ _ rfl HOwn.out (some ⟨w2.heap.size, 0, none⟩) 1 1 (Ls.cs ⟨x0, x1, x2, x3⟩) rfl K.out.1 rfl K.out.2.1 (cs_one _) K.out.2.2.1 K.out.2.2.2.1 K.out.2.2.2.2 ?_)
        intro v2 w5 ho5 hg5
        have HB5 := Lib.hid ((HB.out.alloc hs4 (.cells #[.int .u32 x0, .int .i64 x1, .int .u32 x2, .int .i64 x3] tyL)).grown hg5 (by simp; omega) (fun k hk => own_blkL HOwn.out hk))
        have HK5 : Hid (PkL w.heap.size w5 v2 ((l.take (i + 1)).filter (livL now))) := Lib.hid (by
          rw [HM.out, HPy.out]
          unfold PkL
          rw [if_pos rfl, List.length_append, cellsL_app, cellsL_one]
          exact ho5)
        clear ho5 hg5 HOwn HNew HK HM
        go_wp2
        go_roundw
        case rel => exact ⟨i + 1, _, rfl, by omega, by go_num, HK5, HB5⟩
        case measure => simp [intOf]; omega
      · have HPy : Hid (livL now ⟨x0, x1, x2, x3⟩ = false) := Lib.hid (by unfold livL; exact decide_eq_false e2)
        have HK5 : Hid (PkL w.heap.size w2 v ((l.take (i + 1)).filter (livL now))) := Lib.hid (by
          rw [HM.out, HPy.out, if_neg Bool.false_ne_true, List.append_nil]
          exact HK.out)
        clear HM HK
        go_wp2
        go_roundw
        case rel => exact ⟨i + 1, _, rfl, by omega, by go_num, HK5, HB⟩
        case measure => simp [intOf]; omega
    · have ii : ¬ (i : Int) < (n : Int) := by omega
      obtain rfl : i = n := by omega
      go_wp2
      go_ret
      exact ⟨⟨_, rfl, by have := HK.out; rwa [HN.out] at this⟩, HB.out⟩
set_option maxRecDepth 100000 in
set_option maxHeartbeats 4000000 in
theorem refFind_c (l : List Ls) (vip port now : Int) (a : Option Addr) (n c : Nat) (w : World) (hI : InL w a n c l) (hn : n ≤ 1048576) (hp : i64b port) :
    Calls Tryd.prog 21 #[.slice a n c, .int .u32 vip, .int .i64 port, .int .i64 now] w fun e w' => e = .returned (fndR (findL vip port now l)) ∧ Below w.heap.size w w' := by
  have hlen := hI.len
  obtain ⟨W, hW⟩ : ∃ W, W = w.alloc (.cells #[.int .u32 0, .int .i64 0, .int .u32 0, .int .i64 0] tyL) := ⟨_, rfl⟩
  have hb : Below w.heap.size w W := by rw [hW]; exact bl_al (Below.refl _ _) _
  obtain ⟨q, hq⟩ : ∃ q, q = w.heap.size := ⟨_, rfl⟩
  have hx : BxL W q ls0 := by rw [hW, hq]; exact bxL_new w ls0
  have HI := Lib.hid (hI.below hb)
  have HB := Lib.hid hb
  have HX := Lib.hid hx
  have HW := Lib.hid hW
  have HQ : Hid (q = w.heap.size ∧ w.heap.size ≤ q) := Lib.hid ⟨hq, by omega⟩
  have HN : Hid (l.take n = l) := Lib.hid (List.take_of_length_le (by omega))
  have HIn := Lib.hid (fun (f : Int) (hf : i64b f) W => inside_c port f hp hf W)
  have F0 : Hid ((l.take 0).find? (isF vip port now) = none) := Lib.hid rfl
  clear hW hq hx hb hI hp
  go_enter Tryd.func21, Tryd.ntmps21
  go_upto_region 1 with fail
  rw [show w.alloc (.cells #[.int .u32 0, .int .i64 0, .int .u32 0, .int .i64 0] tyL) = W from HW.out.symm, ← HQ.out.1]
  go_wp2
  go_loopw [10] (fun iv wr => ∃ i : Nat, i ≤ n ∧ iv = .int .i64 i ∧ Hid ((l.take i).find? (isF vip port now) = none) ∧ Hid (Below W.heap.size W wr)) (fun iv _ => n - (intOf iv).toNat)
  case atStart => exact ⟨0, by omega, rfl, F0, Lib.hid (Below.refl _ _)⟩
  case round =>
    obtain ⟨i, hi, rfl, HF, HBr⟩ := hrel
    obtain ⟨w2, rfl⟩ : ∃ v, v = wr := ⟨_, rfl⟩
    clear F0
    by_cases hlt : i < n
    · have ii : (i : Int) < (n : Int) := by omega
      have j0 : (0 : Int) ≤ (i : Int) := by omega
      obtain ⟨b, off, rfl⟩ := HI.out.block (by omega)
      have hx := (HI.out.below HBr.out).cell hlt
      have ht := HI.out.ty hlt
      have HH := Lib.hid (fun e => findP_hit (p := isF vip port now) (l := l) (i := i) (by omega) HF.out e)
      have HM := Lib.hid (fun e => findP_miss (p := isF vip port now) (l := l) (i := i) (by omega) HF.out e)
      obtain ⟨x, ex⟩ : ∃ x, x = l.getD i ls0 := ⟨_, rfl⟩
      rw [← ex] at hx ht HH HM
      obtain ⟨w3, g, hw3, hg3, hA, hb3, hg4⟩ := boxed w2 x
      have HX3 := Lib.hid ((HX.out.later HBr.out).later hb3)
      have HB3 := Lib.hid (bl_tr HBr.out hb3)
      have HW3 := Lib.hid (And.intro hw3 hg3)
      have CI := Lib.hid (HIn.out x.first ht.2.1 w3)
      obtain ⟨c0, c1, c2, c3⟩ := hx
      obtain ⟨a0, a1, a2, a3⟩ := hA
      obtain ⟨x0, x1, x2, x3⟩ := x
      obtain ⟨z, hz⟩ : ∃ z, z = decide (x1 ≤ port ∧ port - x1 < 8) := ⟨_, rfl⟩
      rw [← hz] at CI
      have HZ := Lib.hid hz
      clear ex ht hw3 hg3 hb3 hg4 hz
      by_cases e : x0 = vip
      · have q1 : (x0 == vip) = true := by simpa using e
        by_cases e2 : now ≤ x3
        · have HPy : Hid (isF vip port now ⟨x0, x1, x2, x3⟩ = z) := Lib.hid (by unfold isF livL hasP; simp only; rw [decide_eq_true e, decide_eq_true e2, ← HZ.out]; rfl)
          clear e
          cases z with
          | false =>
            have HF2 := Lib.hid (HM.out HPy.out)
            go_upto_region 5 with fail
            rw [show w2.alloc (.cells #[.int .u32 x0, .int .i64 x1, .int .u32 x2, .int .i64 x3] tyL) = w3 from HW3.out.1.symm, ← HW3.out.2]
            clear c0 c1 c2 c3
            go_wp2_with fail
            refine CI.out.mono ?_
            rintro e w9 ⟨rfl, rfl⟩
            clear CI
            go_wp2
            go_roundw
            case rel => exact ⟨i + 1, by omega, by go_num, HF2, HB3⟩
            case measure => simp [intOf]; omega
          | true =>
            have HE := Lib.hid (HH.out HPy.out)
            go_upto_region 5 with fail
            rw [show w2.alloc (.cells #[.int .u32 x0, .int .i64 x1, .int .u32 x2, .int .i64 x3] tyL) = w3 from HW3.out.1.symm, ← HW3.out.2]
            clear c0 c1 c2 c3
            go_wp2_with fail
            refine CI.out.mono ?_
            rintro e w9 ⟨rfl, rfl⟩
            clear CI
            obtain ⟨d0, d1, d2, d3⟩ := HX3.out.at
            obtain ⟨f0, f1, f2, f3⟩ := HX3.out.free
            go_wp2
            refine bodyPost_ret (v := .tuple #[.agg #[.int .u32 x0, .int .i64 x1, .int .u32 x2, .int .i64 x3], .bool true]) (by simp [results, Tryd.results21, go_sem, d0, d1, d2, d3]) rfl ?_
            exact ⟨by rw [show findL vip port now l = some ⟨x0, x1, x2, x3⟩ from HE.out]; rfl, bl_stL (bl_tr HB.out HB3.out) HQ.out.2 ⟨x0, x1, x2, x3⟩⟩
        · have HF2 := Lib.hid (HM.out (by unfold isF livL; simp only; rw [decide_eq_false e2, Bool.false_and, Bool.and_false]))
          clear e CI
          go_upto_region 5 with fail
          rw [show w2.alloc (.cells #[.int .u32 x0, .int .i64 x1, .int .u32 x2, .int .i64 x3] tyL) = w3 from HW3.out.1.symm, ← HW3.out.2]
          clear c0 c1 c2 c3
          go_wp2
          go_roundw
          case rel => exact ⟨i + 1, by omega, by go_num, HF2, HB3⟩
          case measure => simp [intOf]; omega
      · have q1 : (x0 == vip) = false := by simpa using e
        have HF2 := Lib.hid (HM.out (by unfold isF; simp only; rw [decide_eq_false e, Bool.false_and]))
        clear e CI
        go_upto_region 5 with fail
        rw [show w2.alloc (.cells #[.int .u32 x0, .int .i64 x1, .int .u32 x2, .int .i64 x3] tyL) = w3 from HW3.out.1.symm, ← HW3.out.2]
        clear c0 c1 c2 c3
        go_wp2
        go_roundw
        case rel => exact ⟨i + 1, by omega, by go_num, HF2, HB3⟩
        case measure => simp [intOf]; omega
    · have ii : ¬ (i : Int) < (n : Int) := by omega
      obtain rfl : i = n := by omega
      have HE : Hid (findL vip port now l = none) := Lib.hid (by have := HF.out; rwa [HN.out] at this)
      have HX3 := Lib.hid (HX.out.later HBr.out)
      obtain ⟨d0, d1, d2, d3⟩ := HX3.out.at
      obtain ⟨f0, f1, f2, f3⟩ := HX3.out.free
      go_wp2
      refine bodyPost_ret (v := .tuple #[ls0.val, .bool false]) (by simp [results, Tryd.results21, go_sem, d0, d1, d2, d3, ls0]) rfl ?_
      exact ⟨by rw [HE.out]; rfl, bl_stL (bl_tr HB.out HBr.out) HQ.out.2 ls0⟩
end Go.Proofs.YtanajblldlgalaaDoor
