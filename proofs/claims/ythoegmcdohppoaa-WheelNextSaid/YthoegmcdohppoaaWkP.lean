/- Contract of towpathlaw10.WheelPlays: it returns true. Conditions: the script came in. -/
import Derived.Test.YthoegmcdohppoaaTwR
import Derived.Test.YthoegmcdohppoaaQStep
import Derived.Test.YthoegmcdohppoaaWkN
namespace Go.Proofs.Ythoegmcdohppoaa
open Go Go.RowKit
set_option linter.unusedVariables false
set_option linter.unusedSimpArgs false

theorem WNew.no {S : WhS} {w w' : World} {s : Int} {e : Ending} (hs : ¬ OkS s) (h : WNew S w s e w') : e = .returned (.tuple #[.pointer none, errnoT 4]) ∧ Below w.heap.size w w' := by
  rcases h.1 with ⟨h1, _⟩ | ⟨_, h1⟩
  · exact absurd h1 hs
  · exact ⟨h1, h.2⟩
/-- Behind j calls. -/
structure PlW (w0 w : World) (p m j : Nat) (K : Nat → Prop) (ts : List Wy) : Prop where
  two : Two WSt RwS w0 w p m K ts ts
  len : ts.length ≤ 800 * j
/-- Behind one call's switch. -/
def SwW (w0 w1 : World) (p m L : Nat) (K : Nat → Prop) (w : World) : Prop := ∃ ts, Two WSt RwS w0 w p m K ts ts ∧ Kpd K w1 w ∧ ts.length ≤ L
set_option maxRecDepth 100000 in
set_option maxHeartbeats 16000000 in
theorem wheelPlays_t (s : Int) (os : List OpW) (ao : Option Addr) (n c : Nat) (w : World) (hI : SWIn w ao n os) (hn : n ≤ 1152921504606846976) (hl : ∀ j, j < n → (os.getD j opW).n ≤ 1152921504606846976) (hs : I64 s) :
    Calls Try.prog 3 #[.int .i64 s, .slice ao n c] w fun e w' => e = .returned (.bool true) ∧ Below w.heap.size w w' := by
  have en := nilEq
  have eq0 := nilEql
  have e4 := fourEq
  obtain ⟨j0, hj0, hy0, hy1, hy2⟩ := info_parts info3
  have CA := Lib.hid (alive10_any w)
  have CL := Lib.hid (fun U (hU : Below w.heap.size w U) => longW_t ao n c os U (hI.below hU) hn hl)
  have HI := Lib.hid hI
  have HS := Lib.hid hs
  clear hI hl
  unfold I64 at hs
  go_enter Try.func3, Try.ntmps3
  go_wp2_with fail
  refine CA.out.mono ?_
  rintro e w2 ⟨rfl, hb⟩
  have HB2 := Lib.hid hb
  have CN := Lib.hid (wnew_t s w2 HS.out)
  clear hb CA
  go_wp2_with fail
  refine CN.out.mono ?_
  rintro e w3 hW
  by_cases hOS : OkS s
  case neg =>
    obtain ⟨rfl, hb⟩ := WNew.no hOS hW
    have HB3 := Lib.hid (bl_tr HB2.out hb)
    clear hW hb CN
    unfold OkS at hOS
    by_cases q : s < 1
    · go_wp2
      go_ret
      exact ⟨rfl, HB3.out⟩
    · have q2 : 1024 < s := by omega
      go_wp2
      go_ret
      exact ⟨rfl, HB3.out⟩
  obtain ⟨p, F, rfl, hp, hb3⟩ := WNew.yes hOS hW
  have CL3 := Lib.hid (CL.out w3 (bl_tr HB2.out hb3))
  have HP3 := Lib.hid (And.intro hp hb3)
  obtain ⟨q1, q2⟩ : 1 ≤ s ∧ s ≤ 1024 := hOS
  clear hW hp hb3 CN CL hs
  go_wp2_with fail
  refine CL3.out.mono ?_
  rintro e w4 ⟨z, rfl, hb, hz⟩
  have HB4 := Lib.hid (bl_tr (bl_tr HB2.out HP3.out.2) hb)
  have HZ := Lib.hid hz
  have HBB := Lib.hid hb
  clear hb CL3 hz
  cases z with
  | true =>
    go_wp2
    go_ret
    exact ⟨rfl, HB4.out⟩
  | false =>
    have HFW := Lib.hid (HZ.out rfl).2
    have hn8 : n ≤ 800 := (HZ.out rfl).1
    obtain ⟨W, hW⟩ : ∃ W, W = w4.alloc (.cells #[.slice none 0 0] 34) := ⟨_, rfl⟩
    obtain ⟨m, hm⟩ : ∃ m, m = w4.heap.size := ⟨_, rfl⟩
    have hbW : Below w4.heap.size w4 W := by rw [hW]; exact bl_al (Below.refl _ _) _
    have S0 : Hid (PlW w2 W p m 0 Non []) := Lib.hid (by
      obtain ⟨hp, hb3⟩ := HP3.out
      have hb4 := HBB.out
      have hs3 := hb3.size
      have hs4 := hb4.size
      have hM : RwM W w2.heap.size m [] none 0 0 := ⟨by rw [hW, hm]; exact heap_alloc_new _ _, by omega, World.ownsRow_nil _ _ _ _, by intro e; cases e⟩
      refine ⟨⟨⟨F, fun k => k = m ∨ (Value.slice none 0 0).ownBlock = some k, (hp.keep (tch_new hb4) (fun _ _ h => h)).keep (tch_new hbW) (fun _ _ h => h), ⟨none, 0, 0, hM, fun k => Iff.rfl⟩, fun k hf hg => ?_, fun k hk => hk.elim⟩, bl_tr (bl_tr hb3 hb4) hbW, fun k hk => hk.elim⟩, by simp⟩
      have := (hp.blocks k hf).2
      rcases hg with hg | hg
      · omega
      · cases hg)
    have HW := Lib.hid hW
    have HM := Lib.hid hm
    clear HZ hn HP3 HBB hW hm hbW
    go_upto_region 9 with fail
    rw [← HW.out, ← HM.out]
    clear HW HM
    go_wp2
    go_loopw [61] (fun iv wr => ∃ (j : Nat) (ts : List Wy), j ≤ n ∧ iv = .int .i64 j ∧ Hid (PlW w2 wr p m j Non ts)) (fun iv _ => n - (intOf iv).toNat)
    case atStart => exact ⟨0, [], by omega, rfl, S0⟩
    case round =>
      obtain ⟨j, ts, hj, rfl, HP⟩ := hrel
      obtain ⟨wo, hwo⟩ : ∃ v, v = wr := ⟨_, rfl⟩
      rw [← hwo] at HP ⊢
      clear S0 hwo wr
      have htl : ts.length ≤ 640000 := by have := HP.out.len; omega
      by_cases hlj : j < n
      · have ilj : (j : Int) < (n : Int) := by omega
        have j00 : (0 : Int) ≤ (j : Int) := by omega
        have hIr := HI.out.below (bl_tr HB2.out HP.out.two.bel)
        obtain ⟨b, off, rfl⟩ := hIr.block (by omega)
        obtain ⟨o, ho⟩ : ∃ o, o = os.getD j opW := ⟨_, rfl⟩
        obtain ⟨e0, e1, e2⟩ := hIr.cells hlj ho.symm
        have hfw := HFW.out j hlj
        have hti := HI.out.ints j hlj
        have hrow := fun U (hU : Below w.heap.size w U) => (HI.out.below hU).rows j hlj
        rw [← ho] at hfw hti
        simp only [← ho] at hrow
        obtain ⟨X, hX⟩ : ∃ X, X = WOpW wo o := ⟨_, rfl⟩
        obtain ⟨qo, hq⟩ : ∃ q, q = wo.heap.size := ⟨_, rfl⟩
        have hox : OxW X qo o := by rw [hX, hq]; exact OxW.new wo o
        have hbX : Below wo.heap.size wo X := by rw [hX]; exact bl_al (Below.refl _ _) _
        have hT : Two WSt RwS w2 X p m (fun k => k = qo) ts ts := HP.out.two.more okS1 okS2 hbX (fun k hk => .inr ⟨by subst hk hq; exact Nat.le_refl _, by subst hk hq; rw [hX]; simp⟩)
        have HLN := Lib.hid HP.out.len
        obtain ⟨kind, time, ra, rn, rc, ks⟩ := o
        simp only at e0 e1 e2 hfw hti hrow
        obtain ⟨c0, c1, c2⟩ := hox.cell
        simp only at c0 c1 c2
        have hlq : qo < X.heap.size := lt_of_block hox
        have HX := Lib.hid (show X = wo.alloc (.cells #[.int .i64 kind, .int .i64 time, .slice ra rn rc] 37) from hX)
        have HQ := Lib.hid hq
        have HT := Lib.hid hT
        have HOX := Lib.hid hox
        have HROW := Lib.hid hrow
        have HTI := Lib.hid hti
        have HKF := Lib.hid (fun K => kfar_in (K := K) (hrow w2 HB2.out))
        have hkl : ks.length = rn := (hrow w2 HB2.out).len
        have HRX := Lib.hid (hrow X (bl_tr HB2.out hT.bel))
        clear hIr ho hX hox hbX hT hq hrow hti HP
        go_upto_region 12 with fail
        rw [← HX.out, ← HQ.out]
        clear HX HQ e0 e1 e2
        go_cut [10] from 62 to 196 (fun cv wx => ∃ g, cv = .slice (some ⟨g, 0, none⟩) rn (rn + 1) ∧ Hid (MkW wx g rn ks ∧ X.heap.size ≤ g ∧ g < wx.heap.size ∧ Below X.heap.size X wx))
        case first =>
          have hd0 : Below X.heap.size X X.drew := (Below.refl _ _).drew
          have hS0 : X.drew.cell? ⟨qo, 2, none⟩ = some (.slice ra rn rc) := c2
          have hwr : ∀ [Inhabited Nat], IntKind.i64.wrap ((rn : Int) + 1) = (rn : Int) + 1 := by intro _; exact IntWalk.i64_in _ (by omega)
          obtain ⟨w6, hr6, hown6, hg6⟩ := run_make_own (P := Try.prog) X.drew X.heap.size 35 3 j0 (.int .i64 0) 1 Try.underlying35 hj0 hy0 hy1 .i64 .i64 (rn + 1) (by rw [hy2]; omega) (by unfold maxLen; omega) (Nat.le_refl _)
          obtain ⟨v6, hr6', hown6', hg6'⟩ := run_make_own (P := Try.prog) (X.alloc (.cells #[.int .i64 (-77)] 3)).drew X.heap.size 35 3 j0 (.int .i64 0) 1 Try.underlying35 hj0 hy0 hy1 .i64 .i64 (rn + 1) (by rw [hy2]; omega) (by unfold maxLen; omega) (by simp)
          have hcs : ((rn + 1 : Nat) : Int) = (rn : Int) + 1 := by omega
          rw [hcs] at hr6 hr6'
          have hszA : (X.alloc (.cells #[.int .i64 (-77)] 3)).drew.heap.size = X.heap.size + 1 := by simp
          rw [hszA] at hr6' hown6'
          have hl6 := (hown6.lt _ rfl).2
          have hn6 : ∀ j v, [Value.int .i64 (-77)][j]? = some v → v6.cell? ((⟨X.heap.size, 0, none⟩ : Addr).add j) = some v := one_kept hg6' (by simp) (fun j v h => one_newW X _ 3 j v h)
          have HN6 := Lib.hid hn6
          have HLN2 : Hid ((i64s ks).length = rn * 1) := Lib.hid (by unfold i64s; rw [List.length_map, hkl, Nat.mul_one])
          clear hn6
          have h6 := hd0.grown hg6 (Nat.le_refl _) (fun k hk => by cases hk)
          have h6' := ((bl_al (Below.refl X.heap.size X) (.cells #[.int .i64 (-77)] 3)).drew).grown hg6' (by simp) (fun k hk => by cases hk)
          have hSA : (X.alloc (.cells #[.int .i64 (-77)] 3)).drew.cell? ⟨qo, 2, none⟩ = some (.slice ra rn rc) := cell_later ((bl_al (Below.refl X.heap.size X) (.cells #[.int .i64 (-77)] 3)).drew) c2
          have hS6 : w6.cell? ⟨qo, 2, none⟩ = some (.slice ra rn rc) := cell_later h6 c2
          have hS6' : v6.cell? ⟨qo, 2, none⟩ = some (.slice ra rn rc) := cell_later h6' c2
          have hle0 : (0 : Int) ≤ (rn : Int) := by omega
          have hle1 : (rn : Int) ≤ (rn : Int) + 1 := by omega
          have hle2 : rn ≤ rn + 1 := by omega
          go_region_held3 (fun wx => wx.cell? ⟨qo, 2, none⟩ = some (.slice ra rn rc)) (first | (with_reducible exact hS0) | (with_reducible exact hS6) | (with_reducible exact hSA) | (with_reducible exact hS6') | (with_reducible exact hS7) | (with_reducible exact hS8) | go_keep | fail)
            (first | (refine step_append_fits_any rfl (.tmp 69) (.tmp 71) 35 rfl X.heap.size 3 j0 1 Try.underlying35 hj0 hy1 _ 0 (rn + 1) [] rfl (hown6) ra rn rc (i64s ks) rfl HLN2.out HRX.out.zero (HRX.out.below (h6)).cells (i64s_one _) (by omega) ?_; intro w7 hown7 hg7; simp only [Nat.zero_add, List.nil_append] at hown7 ⊢; have h7 := (h6).grown hg7 (by first | exact Nat.le_refl _ | exact h6.size | exact h6'.size | (have := h6.size; simp <;> omega)) (fun k hk => by cases hk; first | exact Nat.le_refl _ | simp); have hS7 := cell_later h7 c2) | (refine step_append_fits_any rfl (.tmp 69) (.tmp 71) 35 rfl X.heap.size 3 j0 1 Try.underlying35 hj0 hy1 _ 0 (rn + 1) [] rfl (hown6') ra rn rc (i64s ks) rfl HLN2.out HRX.out.zero (HRX.out.below (h6')).cells (i64s_one _) (by omega) ?_; intro w7 hown7 hg7; simp only [Nat.zero_add, List.nil_append] at hown7 ⊢; have h7 := (h6').grown hg7 (by first | exact Nat.le_refl _ | exact h6.size | exact h6'.size | (have := h6.size; simp <;> omega)) (fun k hk => by cases hk; first | exact Nat.le_refl _ | simp); have hS7 := cell_later h7 c2) | (refine step_append_fits_any rfl (.tmp 69) (.tmp 71) 35 rfl X.heap.size 3 j0 1 Try.underlying35 hj0 hy1 _ 0 (rn + 1) [] rfl (hown6.alloc _) ra rn rc (i64s ks) rfl HLN2.out HRX.out.zero (HRX.out.below (bl_al h6 _)).cells (i64s_one _) (by omega) ?_; intro w7 hown7 hg7; simp only [Nat.zero_add, List.nil_append] at hown7 ⊢; have h7 := (bl_al h6 _).grown hg7 (by first | exact Nat.le_refl _ | exact h6.size | exact h6'.size | (have := h6.size; simp <;> omega)) (fun k hk => by cases hk; first | exact Nat.le_refl _ | simp); have hS7 := cell_later h7 c2) | (refine step_append_fits rfl (.tmp 72) (.tmp 73) 35 rfl X.heap.size 3 j0 1 Try.underlying35 hj0 hy1 _ rn (rn + 1) (i64s ks) rfl (hown7.alloc _) ⟨w7.heap.size, 0, none⟩ 1 1 [.int .i64 (-77)] rfl rfl (one_newW w7 _ _) (by intro u hu; simp at hu; subst hu; rfl) (by omega) ?_; intro w8 hown8 hg8; have h8 := (bl_al h7 _).grown hg8 (by first | exact h7.size | (have := h7.size; simp <;> omega)) (fun k hk => by cases hk; first | exact Nat.le_refl _ | simp); have hS8 := cell_later h8 c2) | (refine step_append_fits rfl (.tmp 72) (.tmp 73) 35 rfl X.heap.size 3 j0 1 Try.underlying35 hj0 hy1 _ rn (rn + 1) (i64s ks) rfl (hown7) ⟨X.heap.size, 0, none⟩ 1 1 [.int .i64 (-77)] rfl rfl (one_kept hg7 (by simp) HN6.out) (by intro u hu; simp at hu; subst hu; rfl) (by omega) ?_; intro w8 hown8 hg8; have h8 := (h7).grown hg8 (by first | exact h7.size | (have := h7.size; simp <;> omega)) (fun k hk => by cases hk; first | exact Nat.le_refl _ | simp); have hS8 := cell_later h8 c2) | (refine step_append_fits rfl (.tmp 72) (.tmp 73) 35 rfl X.heap.size 3 j0 1 Try.underlying35 hj0 hy1 _ rn (rn + 1) (i64s ks) rfl (hown7) ⟨w6.heap.size, 0, none⟩ 1 1 [.int .i64 (-77)] rfl rfl (one_kept hg7 (fun e => Nat.ne_of_lt hl6 (Option.some.inj e)) (one_newW w6 _ _)) (by intro u hu; simp at hu; subst hu; rfl) (by omega) ?_; intro w8 hown8 hg8; have h8 := (h7).grown hg8 (by first | exact h7.size | (have := h7.size; simp <;> omega)) (fun k hk => by cases hk; first | exact Nat.le_refl _ | simp); have hS8 := cell_later h8 c2) | fail)
          all_goals
            rename_i hHeld
            rw [show [Value.int .i64 (-77)] = i64s [-77] from rfl, i64s_app] at hown8
            have HG8 := Lib.hid (And.intro (mkW_of hown8 hkl HRX.out.fit) (And.intro (hown8.lt _ rfl) h8))
            clear hHeld hown8 hg8 hown7 hg7
            go_wp2
            go_meet
            exact ⟨_, rfl, Lib.hid ⟨HG8.out.1, HG8.out.2.1.1, HG8.out.2.1.2, HG8.out.2.2⟩⟩
        case rest =>
          obtain ⟨g, rfl, HG⟩ := hcut
          obtain ⟨W1, hW1⟩ : ∃ v, v = wc := ⟨_, rfl⟩
          rw [← hW1] at HG ⊢
          clear hW1 wc
          obtain ⟨hMk, hg1, hg2, hb1⟩ := HG.out
          have hT1 : Two WSt RwS w2 W1 p m (fun k => k = qo ∨ k = g) ts ts := HT.out.more okS1 okS2 hb1 (fun k hk => hk.elim .inl (fun e => .inr ⟨by omega, by omega⟩))
          have hox1 : OxW W1 qo ⟨kind, time, ra, rn, rc, ks⟩ := (hb1.block qo hlq).trans HOX.out
          have HT1 := Lib.hid hT1
          have HOX1 := Lib.hid hox1
          have HMK := Lib.hid hMk
          have HK3 := Lib.hid (hT1.key)
          have HC := Lib.hid (show KFar w2 (fun k => k = qo ∨ k = g) (some ⟨g, 0, none⟩) rn from fun b off e _ => by cases e; exact .inr (.inr rfl))
          clear hMk hg1 hg2 hb1 hT1 hox1 HG HT HOX c0 c1 c2 hlq HRX hj0 hy0 hy1 hy2
          obtain ⟨c0, c1, c2⟩ := HOX1.out.cell
          simp only at c0 c1 c2
          go_upto_block 2 with fail
          go_cut [11, 12, 13, 14, 15, 16] from 62 to 196 (fun t _ _ _ _ _ wx => t = .bool true ∧ Hid (SwW w2 W1 p m (ts.length + rn) (fun k => k = qo ∨ k = g) wx))
          case first =>
            have hD0 : Two WSt RwS w2 W1.drew p m (fun k => k = qo ∨ k = g) ts ts := HT1.out.new okS1 okS2 (Below.refl _ _).drew
            have HOX0 := Lib.hid (show OxW W1.drew qo ⟨kind, time, ra, rn, rc, ks⟩ from HOX1.out)
            have HMK0 := Lib.hid (show MkW W1.drew g rn ks from ⟨HMK.out.row.below (Below.refl _ _).drew, HMK.out.mark⟩)
            by_cases hk0 : kind = 0
            · subst hk0
              obtain ⟨r, hr⟩ : ∃ r, r = setR time ks ts := ⟨_, rfl⟩
              have her := setR_err time ks ts
              have hrl := setR_len time ks ts
              have C1 := Lib.hid (hD0.set okS2 time ks (some ⟨g, 0, none⟩) rn (rn + 1) HMK0.out.row HC.out (by omega) HTI.out)
              rw [← hr] at C1 her hrl
              have CN := Lib.hid (fun U => num10_t r.1 her U)
              have hS0 : W1.drew.cell? ⟨qo, 1, none⟩ = some (.int .i64 time) ∧ W1.drew.cell? ⟨qo, 2, none⟩ = some (.slice ra rn rc) := ⟨c1, c2⟩
              have hrr : (r.1 == r.1) = true := by simp
              have HR := Lib.hid hr
              clear her hr hD0
              go_upto_region 17 with fail
              go_region_held3 (fun wx => wx.cell? ⟨qo, 1, none⟩ = some (.int .i64 time) ∧ wx.cell? ⟨qo, 2, none⟩ = some (.slice ra rn rc)) (first | (with_reducible exact hS0) | (with_reducible exact hS5) | (with_reducible exact hS6) | fail)
                (first | (go_at_call 13; (with_reducible refine C1.out.mono ?_); rintro e w5 ⟨rfl, h5, k5⟩; have hox5 := OxW.kpd HOX0.out k5 (.inl rfl); have hS5 := And.intro hox5.cell.2.1 hox5.cell.2.2; have C2 := Lib.hid (h5.symm.rset okS1 time ks ra rn rc (HROW.out _ (bl_tr HB2.out h5.bel)) (HKF.out _) (by omega)); rw [← HR.out] at C2) | (go_at_call 12; (with_reducible refine (CN.out _).mono ?_); rintro e w7 ⟨rfl, rfl⟩) | (go_at_call 14; (with_reducible refine C2.out.mono ?_); rintro e w6 ⟨rfl, h6, k6⟩; have hox6 := OxW.kpd hox5 k6 (.inl rfl); have hS6 := And.intro hox6.cell.2.1 hox6.cell.2.2) | fail)
              have HN := Lib.hid (show SwW w2 W1 p m (ts.length + rn) (fun k => k = qo ∨ k = g) w6 from ⟨r.2, h6.symm, k5.trans k6, by omega⟩)
              clear hS0 hS5 hS6 hox5 hox6 h5 k5 h6 k6 C1 C2 CN HOX0 HR c0 c1 c2
              go_wp2
              go_meet
              exact ⟨rfl, HN⟩
            · have q0 : (kind == 0) = false := by simp [hk0]
              by_cases hk1 : kind = 1
              · subst hk1
                have hrl := cutsT_len ks ts
                obtain ⟨M, hm⟩ : ∃ M, M = cntsT ks ts := ⟨_, rfl⟩
                have C1 := Lib.hid (hD0.cancel okS2 ks (some ⟨g, 0, none⟩) rn (rn + 1) HMK0.out.row HC.out (by omega) (by omega))
                rw [← hm] at C1
                have hS0 : W1.drew.cell? ⟨qo, 2, none⟩ = some (.slice ra rn rc) := c2
                have hrr : ((M : Int) == (M : Int)) = true := by simp
                have HM := Lib.hid hm
                clear hm hD0
                go_upto_region 19 with fail
                go_region_held3 (fun wx => wx.cell? ⟨qo, 2, none⟩ = some (.slice ra rn rc)) (first | (with_reducible exact hS0) | (with_reducible exact hS5) | (with_reducible exact hS6) | fail)
                  (first | (go_at_call 15; (with_reducible refine C1.out.mono ?_); rintro e w5 ⟨rfl, h5, k5⟩; have hox5 := OxW.kpd HOX0.out k5 (.inl rfl); have hS5 := hox5.cell.2.2; have C2 := Lib.hid (h5.symm.rcancel okS1 ks ra rn rc (HROW.out _ (bl_tr HB2.out h5.bel)) (HKF.out _) (by omega) (by omega)); rw [← HM.out] at C2) | (go_at_call 16; (with_reducible refine C2.out.mono ?_); rintro e w6 ⟨rfl, h6, k6⟩; have hox6 := OxW.kpd hox5 k6 (.inl rfl); have hS6 := hox6.cell.2.2) | fail)
                have HN := Lib.hid (show SwW w2 W1 p m (ts.length + rn) (fun k => k = qo ∨ k = g) w6 from ⟨cutsT ks ts, h6.symm, k5.trans k6, by omega⟩)
                clear hS0 hS5 hS6 hox5 hox6 h5 k5 h6 k6 C1 C2 HOX0 HM c0 c1 c2
                go_wp2
                go_meet
                exact ⟨rfl, HN⟩
              · have q1 : (kind == 1) = false := by simp [hk1]
                by_cases hk2 : kind = 2
                · subst hk2
                  have hT1 := HT1.out
                  obtain ⟨x, hx⟩ : ∃ x, x = if rn = 0 then 0 else ks.getD 0 0 := ⟨_, rfl⟩
                  have hrw1 := HROW.out W1 (bl_tr HB2.out hT1.bel)
                  have hxI : I64 x := by
                    rw [hx]
                    split
                    · unfold I64; omega
                    · have := fitI_at hrw1.fit (j := 0) (by omega)
                      unfold I64
                      omega
                  have CA1 := Lib.hid (hT1.at okS2 x (by omega) hxI)
                  obtain ⟨y, hy⟩ : ∃ y, y = atT x ts := ⟨_, rfl⟩
                  rw [← hy] at CA1
                  have HY := Lib.hid hy
                  have hrr : (y.isSome == y.isSome) = true := by simp
                  have hr2 : (y.getD 0 == y.getD 0) = true := by simp
                  have TAIL : Hid (∀ w6, Two RwS WSt w2 w6 m p (fun k => k = qo ∨ k = g) ts ts → Kpd (fun k => k = qo ∨ k = g) W1 w6 → SwW w2 W1 p m (ts.length + rn) (fun k => k = qo ∨ k = g) w6) := Lib.hid (fun w6 h6 k6 => ⟨ts, h6.symm, k6, by omega⟩)
                  clear hD0 HOX0 HMK0 hT1 hy hxI
                  by_cases h0 : rn = 0
                  · rw [if_pos h0] at hx
                    subst h0 hx
                    go_wp2_with fail
                    refine CA1.out.mono ?_
                    rintro e w5 ⟨rfl, h5, k5⟩
                    have CA2 := Lib.hid (h5.symm.rat okS1 0 HK3.out.1 (by omega))
                    rw [← HY.out] at CA2
                    have K5 := Lib.hid k5
                    unfold atR
                    clear CA1 h5 k5
                    go_wp2_with fail
                    refine CA2.out.mono ?_
                    rintro e w6 ⟨rfl, h6, k6⟩
                    have HN := Lib.hid (TAIL.out w6 h6 (K5.out.trans k6))
                    unfold atR
                    clear CA2 h6 k6 K5
                    go_wp2
                    go_meet
                    exact ⟨rfl, HN⟩
                  · rw [if_neg h0] at hx
                    have i0 : (0 : Int) < (rn : Int) := by omega
                    obtain ⟨b1, o1, rfl⟩ := in_blockI hrw1 (by omega)
                    have c3 := in_cellI hrw1 0 (by omega)
                    rw [← hx, Nat.add_zero] at c3
                    clear hx
                    go_wp2_with fail
                    refine CA1.out.mono ?_
                    rintro e w5 ⟨rfl, h5, k5⟩
                    have CA2 := Lib.hid (h5.symm.rat okS1 x HK3.out.1 (by omega))
                    rw [← HY.out] at CA2
                    have K5 := Lib.hid k5
                    unfold atR
                    clear CA1 h5 k5
                    go_wp2_with fail
                    refine CA2.out.mono ?_
                    rintro e w6 ⟨rfl, h6, k6⟩
                    have HN := Lib.hid (TAIL.out w6 h6 (K5.out.trans k6))
                    unfold atR
                    clear CA2 h6 k6 K5
                    go_wp2
                    go_meet
                    exact ⟨rfl, HN⟩
                · have q2' : (kind == 2) = false := by simp [hk2]
                  clear hk0 hk1 hk2
                  have hrl := leftT_len time ts
                  have hdl := dueT_len time ts
                  obtain ⟨L, hL⟩ : ∃ L, L = dueT time ts := ⟨_, rfl⟩
                  have C1 := Lib.hid (hD0.due okS2 time (by omega) HTI.out)
                  rw [← hL] at C1 hdl
                  have hS0 : W1.drew.cell? ⟨qo, 1, none⟩ = some (.int .i64 time) := c1
                  have HL := Lib.hid hL
                  clear hL hD0
                  go_upto_region 15 with fail
                  go_region_held3 (fun wx => wx.cell? ⟨qo, 1, none⟩ = some (.int .i64 time)) (first | (with_reducible exact hS0) | (with_reducible exact hS5) | (with_reducible exact hS6) | (with_reducible exact hS7) | fail)
                    (first | (go_at_call 20; (with_reducible refine C1.out.mono ?_); rintro e w5 ⟨a5, d5, rfl, i5, h5, k5⟩; have hox5 := OxW.kpd HOX0.out k5 (.inl rfl); have hS5 := hox5.cell.2.1; have C2 := Lib.hid (h5.symm.rdue okS1 time HK3.out.1 (by omega) HK3.out.2); rw [← HL.out] at C2) | (go_at_call 21; (with_reducible refine C2.out.mono ?_); rintro e w6 ⟨a6, d6, rfl, i6, h6, k6⟩; have hox6 := OxW.kpd hox5 k6 (.inl (.inl rfl)); have hS6 := hox6.cell.2.1; have C3 := Lib.hid (ints_any L L a5 a6 L.length d5 L.length d6 w6 (inI_kpd i5 k6 (fun b off e => .inr (own_some e))) i6 (by omega) true (by simp))) | (go_at_call 19; (with_reducible refine C3.out.mono ?_); rintro e w7 ⟨rfl, hb7⟩; have hS7 := cell_later hb7 hS6) | fail)
                  have HN := Lib.hid (show SwW w2 W1 p m (ts.length + rn) (fun k => k = qo ∨ k = g) w7 from ⟨leftT time ts, (h6.symm.new okS1 okS2 hb7).less (fun _ h => .inl h), k5.trans (Kpd.trans (fun k hk => k6 k (.inl hk)) (kpd_new (fun k hk => h6.ks k (.inl hk)) hb7)), by omega⟩)
                  clear hS0 hS5 hS6 hS7 hox5 hox6 h5 k5 h6 k6 hb7 i5 i6 C1 C2 C3 HOX0 HL c0 c1 c2
                  go_wp2
                  go_meet
                  exact ⟨rfl, HN⟩
          case rest =>
            obtain ⟨rfl, HSW⟩ := hcut
            obtain ⟨W2, hW2⟩ : ∃ v, v = wc := ⟨_, rfl⟩
            rw [← hW2] at HSW ⊢
            clear hW2 wc
            obtain ⟨ts2, hT2, hk2, hl2⟩ := HSW.out
            have C1 := Lib.hid (hT2.next okS2 (by omega))
            have HMK2 := Lib.hid (And.intro (HMK.out.kpd hk2 (.inr rfl)) (OxW.kpd HOX1.out hk2 (.inl rfl)))
            have hL2 : ts2.length ≤ ts.length + rn := hl2
            clear hT2 hk2 hl2 HSW HT1 HOX1 HMK HK3 c0 c1 c2
            go_wp2_with fail
            refine C1.out.mono ?_
            rintro e w5 ⟨rfl, h5, k5⟩
            have C2 := Lib.hid (h5.symm.rnext okS1 (by omega))
            have HMK5 := Lib.hid (And.intro (HMK2.out.1.kpd k5 (.inr rfl)) (OxW.kpd HMK2.out.2 k5 (.inl rfl)))
            unfold atR
            clear h5 k5 C1 HMK2
            go_wp2_with fail
            refine C2.out.mono ?_
            rintro e w6 ⟨rfl, h6, k6⟩
            unfold atR
            obtain ⟨y, hy⟩ : ∃ y, y = (nextT ts2).getD 0 := ⟨_, rfl⟩
            obtain ⟨z, hz⟩ : ∃ z, z = (nextT ts2).isSome := ⟨_, rfl⟩
            rw [← hy, ← hz]
            have hyy : (y != y) = false := by simp
            have hzz : (z != z) = false := by simp
            have hD6 : Two WSt RwS w2 w6.drew p m (fun k => k = qo ∨ k = g) ts2 ts2 := h6.symm.new okS1 okS2 (Below.refl _ _).drew
            obtain ⟨F2, G2, g1, g2, g3, g4⟩ := hD6.st
            obtain ⟨mao, N, mc, hM, hG⟩ := g2.here
            have hNl := ownT_len hM.row
            have hmk6 := HMK5.out.1.kpd k6 (.inr rfl)
            have hox6 := OxW.kpd HMK5.out.2 k6 (.inl rfl)
            have HOX6 := Lib.hid (show OxW w6.drew qo ⟨kind, time, ra, rn, rc, ks⟩ from hox6)
            have HMK6 := Lib.hid (show MkW w6.drew g rn ks from ⟨hmk6.row.below (Below.refl _ _).drew, hmk6.mark⟩)
            have CLn := Lib.hid (wlen_t w2.heap.size p F2 ts2 w6.drew g1 hD6.bel.size (by omega))
            rw [hNl] at CLn
            have HF2 := Lib.hid (show ¬ F2 m from fun h => g3 m h ((hG m).2 (.inl rfl)))
            have HM0 := Lib.hid hM.c0
            have hS0 : w6.drew.cell? ⟨qo, 2, none⟩ = some (.slice ra rn rc) ∧ w6.drew.cell? ⟨m, 0, none⟩ = some (.slice mao N mc) ∧ w6.drew.cell? ⟨g, rn, none⟩ = some (.int .i64 (-77)) := ⟨hox6.cell.2.2, hM.c0, hmk6.mark⟩
            have hTT := fun (w7 : World) (F3 : Nat → Prop) (q1 : WSt w7 w2.heap.size F3 p ts2) (q2 : ∀ k, F3 k → F2 k ∨ w6.drew.heap.size ≤ k) (q3 : Tch F2 w6.drew w7) => Two.turn okS1 okS2 g1 g2 g3 g4 hD6.bel hD6.ks q1 q2 q3
            have HTT := Lib.hid hTT
            have hnn : ((N : Int) != (N : Int)) = false := by simp
            have v1 : ∀ [Inhabited Nat], IntKind.i64.wrap ((rn : Int) + 1) = (rn : Int) + 1 := by intro _; exact IntWalk.i64_in _ (by omega)
            have hb0 : ¬ ((rn : Int) + 1 < 0) := by omega
            have hb1 : (rn : Int) + 1 ≤ ((rn + 1 : Nat) : Int) := by omega
            have hb2 : ((rn : Int) + 1).toNat = rn + 1 := by omega
            have hb3 : ¬ ((rn : Int) < 0) := by omega
            have hb4 : (0 : Int) ≤ (rn : Int) + 1 := by omega
            have hb5 : (rn : Int) + 1 ≤ (rn : Int) + 1 := Int.le_refl _
            have hb6 : rn + 1 ≤ rn + 1 := Nat.le_refl _
            have hb7 : (rn : Int) < (rn : Int) + 1 := by omega
            have hb8 : (0 : Int) ≤ (rn : Int) := by omega
            have hb9 : rn < rn + 1 := by omega
            clear hD6 g1 g2 g3 g4 hM hG hNl hmk6 hox6 hy hz h6 k6 HMK5 C2 hTT
            go_upto_region 29 with fail
            go_region_held3 (fun wx => wx.cell? ⟨qo, 2, none⟩ = some (.slice ra rn rc) ∧ wx.cell? ⟨m, 0, none⟩ = some (.slice mao N mc) ∧ wx.cell? ⟨g, rn, none⟩ = some (.int .i64 (-77))) (first | (with_reducible exact hS0) | (with_reducible exact hS7) | (with_reducible exact hS8) | fail)
              (first | (go_at_call 24; (with_reducible refine CLn.out.mono ?_); rintro e w7 ⟨rfl, F3, q1, q2, q3⟩; have h7 := HTT.out w7 F3 q1 q2 q3; have ox7 := OxW.kpd HOX6.out h7.2 (.inl rfl); have mk7 := HMK6.out.kpd h7.2 (.inr rfl); have hm7 := q3.cell HM0.out HF2.out; have hS7 := And.intro ox7.cell.2.2 (And.intro hm7 mk7.mark); have CI := Lib.hid (ints_any ks ks (some ⟨g, 0, none⟩) ra rn (rn + 1) rn rc w7 mk7.row (HROW.out w7 (bl_tr HB2.out h7.1.bel)) (by omega) true (by simp))) | (go_at_call 19; (with_reducible refine CI.out.mono ?_); rintro e w8 ⟨rfl, hbI⟩; have hS8 := And.intro (cell_later hbI hS7.1) (And.intro (cell_later hbI hS7.2.1) (cell_later hbI hS7.2.2))) | fail)
            have HN := Lib.hid (show PlW w2 w8 p m (j + 1) Non ts2 from ⟨(h7.1.new okS1 okS2 hbI).less (fun _ h => h.elim), by have := HLN.out; omega⟩)
            clear hS0 hS7 hS8 h7 ox7 mk7 hm7 q1 q2 q3 hbI CI CLn HTT HOX6 HMK6 HM0 HF2
            go_wp2
            go_roundw
            case rel => exact ⟨j + 1, _, by omega, by go_num, HN⟩
            case measure => simp [intOf]; omega
      · have ilj : ¬ ((j : Int) < (n : Int)) := by omega
        have HB := Lib.hid (bl_tr HB2.out HP.out.two.bel)
        clear HP hlj
        go_wp2
        go_ret
        exact ⟨rfl, HB.out⟩
end Go.Proofs.Ythoegmcdohppoaa
