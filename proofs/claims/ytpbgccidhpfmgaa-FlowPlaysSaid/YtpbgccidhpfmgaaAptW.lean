/- Contract of towpathnum's Apart: true. Conditions: the rows are the call's own, each in a block of its own, of at most 2^47 - 4096 bytes; at most 2^20 rows. -/
import Derived.Test.YtpbgccidhpfmgaaAptP
import Derived.Deep.QuietTactic
import Derived.BigQuiet
import Derived.LoopTactic
namespace Go.Proofs.Ytpbgccidhpfmgaa
open Go Go.RowKit
set_option linter.unusedVariables false
set_option linter.unusedSimpArgs false

theorem info26 : (Try.prog.info? 74).map (fun i => (i.zero, i.size, i.bytes)) = some (some (.slice none 0 0), 1, 24) := by kernel_rfl
theorem row_in {w : World} {B n c : Nat} {ao : Option Addr} {l : List Int} (h : w.ownsRow B 5 1 (.slice ao n c) n (u8s l)) (hl : l.length = n) (hf : fit l) : In w ao n c l := by
  have hA := At.own (w := w) (B := B) (v := .slice ao n c) (l := l) (by rw [hl]; exact h)
  rcases h.2 with ⟨e, h0⟩ | ⟨g, cap, cur, e, _, _, h1, _⟩
  · simp only [Value.slice.injEq] at e
    obtain ⟨rfl, rfl, rfl⟩ := e
    exact ⟨hl, Nat.le_refl _, fun _ => rfl, hA, hf⟩
  · simp only [Value.slice.injEq] at e
    obtain ⟨rfl, _, rfl⟩ := e
    exact ⟨hl, h1, (fun e => by cases e), hA, hf⟩

set_option maxRecDepth 100000 in
set_option maxHeartbeats 4000000 in
theorem apart_any (w : World) (B Lb m cp : Nat) (vs : Nat → Value) (ns : Nat → Nat) (hm : m ≤ 1048576) (G : Geo B Lb m vs) (hlists : ∀ i, i < m → w.cell? ⟨Lb, i, none⟩ = some (vs i))
    (hrows : ∀ i, i < m → ∃ L : List Int, L.length = ns i ∧ w.ownsRow B 5 1 (vs i) (ns i) (u8s L)) (hns : ∀ i, i < m → ns i ≤ 140737488351232) (hLb : Lb < w.heap.size) (hB : B ≤ w.heap.size) :
    Calls Try.prog 50 #[.slice (some ⟨Lb, 0, none⟩) m cp] w fun e w' => e = .returned (.bool true) ∧ Below B w w' := by
  obtain ⟨i0, hi0, hz0, hz1, hz2⟩ := info_parts info5
  obtain ⟨j0, hj0, hy0, hy1, hy2⟩ := info_parts info26
  have HM0 : Hid (Mk w B Lb m vs ns 0 0 w) := Lib.hid ⟨hlists, fun i hi => by
    obtain ⟨L, hl, ho⟩ := hrows i hi
    exact ⟨L, hl, ho, fun e => absurd e (by omega), fun _ => by simp [pats]⟩, Below.refl _ _⟩
  have HG := Lib.hid G
  have HNS := Lib.hid hns
  have HLB := Lib.hid hLb
  have HB := Lib.hid hB
  clear G hlists hrows hns hLb hB
  go_enter Try.func50, Try.ntmps50
  go_wp2
  go_loopw [15] (fun i wr => ∃ k : Nat, k ≤ m ∧ i = .int .i64 k ∧ Hid (Mk w B Lb m vs ns k 0 wr)) (fun i _ => m - (intOf i).toNat)
  case atStart => exact ⟨0, by omega, rfl, HM0⟩
  case round =>
    obtain ⟨k, hk, rfl, hM⟩ := hrel
    clear HM0
    by_cases hlt : k < m
    · obtain ⟨L0, hl0, ho0, _⟩ := hM.out.rows k hlt
      obtain ⟨a, c, hv⟩ := own_form ho0
      have hcell := hM.out.lists k hlt
      rw [hv] at hcell
      have HV := Lib.hid hv
      have hN := HNS.out k hlt
      obtain ⟨N, hNe⟩ : ∃ N, N = ns k := ⟨_, rfl⟩
      rw [← hNe] at hcell hN
      have HNE := Lib.hid hNe
      clear hv hl0 ho0 hNe
      go_wp2
      obtain ⟨wo, rfl⟩ : ∃ wo : World, wo = wr := ⟨_, rfl⟩
      go_loopw [22] (fun i wr => ∃ j : Nat, j ≤ N ∧ i = .int .i64 j ∧ Hid (Mk w B Lb m vs ns k j wr)) (fun i _ => N - (intOf i).toNat)
      case atStart => exact ⟨0, by omega, rfl, hM⟩
      case round =>
        obtain ⟨j, hj, rfl, hM2⟩ := hrel
        clear hcell
        by_cases hlj : j < N
        · obtain ⟨L, hl, ho, _⟩ := hM2.out.rows k hlt
          have hjn : j < ns k := by rw [← HNE.out]; exact hlj
          obtain ⟨g, cap, hvg, _⟩ := own_shape ho (by omega)
          rw [HV.out] at hvg
          simp only [Value.slice.injEq] at hvg
          obtain ⟨rfl, _, rfl⟩ := hvg
          have ho' := ho
          rw [HV.out] at ho'
          have hcell := (ho'.cellAt j (by omega)).trans (u8s_at (l := L) (by omega))
          have hfr := ho'.frozenAt j
          obtain ⟨y, hy⟩ : ∃ y, y = L.getD j 0 := ⟨_, rfl⟩
          rw [← hy] at hcell
          have kx : IntKind.u8.wrap (31 * (k : Int) + 7 * (j : Int) + 1) = pat k j := IntKind.wrap_u8' _
          obtain ⟨x, hx⟩ : ∃ x, x = pat k j := ⟨_, rfl⟩
          rw [← hx] at kx
          have HS : Hid (Mk w B Lb m vs ns k (j + 1) (wr.setCell ⟨g, j, none⟩ (.int .u8 x))) := Lib.hid (by rw [hx]; exact hM2.out.store HG.out hlt hjn HV.out)
          clear hl ho ho' hy hx
          go_wp2
          go_roundw
          case rel => exact ⟨j + 1, by omega, by go_num, HS⟩
          case measure => simp [intOf]; omega
        · have hjN : j = ns k := by rw [← HNE.out]; omega
          have HS : Hid (Mk w B Lb m vs ns (k + 1) 0 wr) := Lib.hid (by have h := hM2.out; rw [hjN] at h; exact h.next)
          clear hjN
          go_wp2
          go_roundw
          case rel => exact ⟨k + 1, by omega, by go_num, HS⟩
          case measure => simp [intOf]; omega
    · have hkm : k = m := by omega
      have HMm : Hid (Mk w B Lb m vs ns m 0 wr) := Lib.hid (by have h := hM.out; rw [hkm] at h; exact h)
      obtain ⟨H, hH⟩ : ∃ H, H = wr.heap.size := ⟨_, rfl⟩
      have HHB : Hid (B ≤ H ∧ Lb < H) := Lib.hid (by have := HMm.out.below.size; have := HB.out; have := HLB.out; omega)
      have HG0 : Hid (Gr w B Lb m H vs ns 0 (fun _ => .slice none 0 0) (.slice (some ⟨H, 0, none⟩) 0 0) (wr.alloc (.cells #[] 74))) := Lib.hid (by
        have hMo := HMm.out
        have hHB := HHB.out
        refine ⟨fun i hi => ?_, fun i hi => ?_, fun i _ hi => ?_, fun i hi => absurd hi (by omega), ?_, fun i g hi hg => ?_, hHB.2, fun i hi => absurd hi (by omega), ⟨H, rfl, Nat.le_refl _⟩, fun i j hi => absurd hi (by omega), fun i hi => absurd hi (by omega), by rw [hH]; simp, hMo.below.alloc (by omega) _⟩
        · exact (World.grownBy_alloc wr _ none).cell (hMo.lists i hi) (by simp)
        · obtain ⟨L, hl, ho, h1, _⟩ := hMo.rows i hi
          rw [h1 hi] at ho
          have := At.own (l := pats i (ns i)) (v := vs i) (by rw [pats_len]; exact ho)
          exact this.below (bl_al (Below.refl _ _) _)
        · obtain ⟨L, hl, ho, h1, _⟩ := hMo.rows i hi
          rw [h1 hi] at ho
          exact ho.alloc _
        · have := World.ownsRow_made (base := B) (e := 74) (size := 1) wr #[] 0 (by omega) (by decide) rfl
          rw [hH]
          exact this
        · obtain ⟨L, hl, ho, h1, _⟩ := hMo.rows i hi
          rw [hH]
          exact (ho.lt g hg).2)
      have HHE := Lib.hid hH
      clear hkm hM HMm hH
      go_wp2
      rw [← HHE.out]
      obtain ⟨wp, hwp⟩ : ∃ wp, wp = wr.alloc (.cells #[] 74) := ⟨_, rfl⟩
      rw [← hwp] at HG0
      rw [← hwp]
      clear hwp HHE
      go_loopw [6, 40] (fun v i wr => ∃ (k : Nat) (gs : Nat → Value) (g cap : Nat), k ≤ m ∧ i = .int .i64 k ∧ v = .slice (some ⟨g, 0, none⟩) k cap ∧ Hid (Gr w B Lb m H vs ns k gs v wr)) (fun _ i _ => m - (intOf i).toNat)
      case atStart => exact ⟨0, _, H, 0, by omega, rfl, rfl, HG0⟩
      case round =>
        obtain ⟨k, gs, gg, gcap, hk, rfl, rfl, hR⟩ := hrel
        clear HG0
        by_cases hlt : k < m
        · obtain ⟨a, c, hv⟩ := own_form (hR.out.rest k (Nat.le_refl _) hlt)
          have hcell := hR.out.lists k hlt
          rw [hv] at hcell
          have hN := HNS.out k hlt
          have hW : Gw wr B k (ns k) (vs k) (vs k) (ns k) wr := ⟨hR.out.rest k (Nat.le_refl _) hlt, .inl rfl, World.grownBy.refl _ _, hR.out.old k hlt⟩
          have HVB : Hid (∀ b off M d, vs k = .slice (some ⟨b, off, none⟩) M d → off = 0 ∧ b < wr.heap.size) := Lib.hid (fun b off M d e => by
            have ho := hR.out.rest k (Nat.le_refl _) hlt
            rcases ho.2 with ⟨e2, _⟩ | ⟨g, cap, cur, e2, _⟩
            · rw [e] at e2; cases e2
            · rw [e] at e2
              simp only [Value.slice.injEq, Option.some.injEq] at e2
              obtain ⟨e3, _, _⟩ := e2
              cases e3
              exact ⟨rfl, (ho.lt b (by rw [e]; rfl)).2⟩)
          rw [hv] at hW
          obtain ⟨N, hNe⟩ : ∃ N, N = ns k := ⟨_, rfl⟩
          rw [← hNe] at hcell hN hv hW
          have HV := Lib.hid hv
          have HNE := Lib.hid hNe
          have HW := Lib.hid hW
          clear hv hNe hW
          go_wp2
          obtain ⟨wo, rfl⟩ : ∃ wo : World, wo = wr := ⟨_, rfl⟩
          go_loopw [8] (fun v wr => ∃ (n' : Nat) (ao : Option Addr) (c' : Nat), N ≤ n' ∧ n' ≤ N + 12 ∧ v = .slice ao n' c' ∧ Hid (Gw wo B k N (.slice a N c) v n' wr)) (fun v _ => match v with | .slice _ n' _ => N + 12 - n' | _ => 0)
          case atStart => exact ⟨N, a, c, by omega, by omega, rfl, HW⟩
          case round =>
            obtain ⟨n', ao, c', hn1, hn2, rfl, hW⟩ := hrel
            clear HW hcell
            by_cases hl12 : n' < N + 12
            · have hdec : ((n' : Int) < (N : Int) + 12) := by omega
              have kx : IntKind.u8.wrap (31 * (k : Int) + 7 * (n' : Int) + 1) = pat k n' := IntKind.wrap_u8' _
              obtain ⟨x, hx⟩ : ∃ x, x = pat k n' := ⟨_, rfl⟩
              rw [← hx] at kx
              have HSN : Hid (u8s (pats k n') ++ [Value.int .u8 x] = u8s (pats k (n' + 1))) := Lib.hid (by rw [hx, pats_snoc, ← u8s_app]; rfl)
              have hin := row_in hW.out.own (pats_len k n') (fit_pats k n')
              have HIN := Lib.hid (hin.below (bl_al (Below.refl _ _) (.cells #[.int .u8 x] 5)))
              by_cases hc : n' + 1 ≤ c'
              · obtain ⟨g, hg⟩ : ∃ g, ao = some ⟨g, 0, none⟩ := by
                  rcases hW.out.own.2 with ⟨e, _⟩ | ⟨g, cap, cur, e, _⟩
                  · simp only [Value.slice.injEq] at e
                    omega
                  · simp only [Value.slice.injEq] at e
                    exact ⟨g, e.1⟩
                subst hg
                clear hx hin
                go_wp2_with (at_builtin; refine wpList_append_fits _ rfl (.tmp 52) (.tmp 61) 74 rfl B 5 i0 1 Try.underlying74 hi0 hz1 g n' c' (u8s (pats k n')) rfl (hW.out.alloc _).own ⟨wr.heap.size, 0, none⟩ 1 1 [.int .u8 x] rfl rfl (cell_one_new wr _ _) ?c1 hc ?_)
                case c1 => intro u hu; simp at hu; subst hu; rfl
                intro w2 hown2 hg2
                rw [HSN.out] at hown2
                have HW2 : Hid (Gw wo B k N (.slice a N c) (.slice (some ⟨g, 0, none⟩) (n' + 1) c') (n' + 1) w2) := Lib.hid ((hW.out.alloc _).fits hn1 ⟨a, c, rfl⟩ (fun b off M d e => HVB.out b off M d (by rw [HV.out]; exact e)) rfl hown2 hg2)
                clear hown2 hg2 HIN
                go_wp2
                go_roundw
                case rel => exact ⟨n' + 1, _, _, by omega, by omega, rfl, HW2⟩
                case measure => simp; omega
              · have hnl : (u8s (pats k n')).length = n' * 1 := by unfold u8s; rw [List.length_map, pats_len, Nat.mul_one]
                have HNL := Lib.hid hnl
                have hcf : c' < n' + 1 := by omega
                have HCF := Lib.hid hcf
                have h63 : n' + 1 ≤ maxLen := by unfold maxLen; omega
                have H63 := Lib.hid h63
                have hby : (n' + 1) * 1 ≤ 140737488355328 := by omega
                have HBY := Lib.hid hby
                clear hx hin hnl hcf h63 hby
                go_wp2_with (at_builtin; refine wpList_append_grows _ rfl (.tmp 52) (.tmp 61) 74 rfl 5 i0 (.int .u8 0) 1 1 Try.underlying74 hi0 hz0 hz1 hz2 rfl (by decide) ao n' c' (u8s (pats k n')) rfl HIN.out.zero HNL.out HIN.out.cells ⟨wr.heap.size, 0, none⟩ 1 1 [.int .u8 x] rfl rfl (cell_one_new wr _ _) ?c1 HCF.out H63.out HBY.out ?_)
                case c1 => intro u hu; simp at hu; subst hu; rfl
                intro v2 w2 hown2 hg2
                rw [HSN.out] at hown2
                obtain ⟨a2, c2, rfl⟩ := own_form hown2
                have hs1 : (wr.alloc (.cells #[.int .u8 x] 5)).heap.size = wr.heap.size + 1 := by simp
                rw [← hs1] at hown2
                have HW2 : Hid (Gw wo B k N (.slice a N c) (.slice a2 (n' + 1) c2) (n' + 1) w2) := Lib.hid ((hW.out.alloc _).grows (by have := hW.out.grown.size; have := hR.out.size; have := HHB.out; simp; omega) hown2 hg2)
                clear hown2 hg2 HIN hs1
                go_wp2
                go_roundw
                case rel => exact ⟨n' + 1, _, _, by omega, by omega, rfl, HW2⟩
                case measure => simp; omega
            · have hdec : ¬ ((n' : Int) < (N : Int) + 12) := by omega
              have hnn : n' = N + 12 := by omega
              have HWk : Hid (Gw wo B k (ns k) (vs k) (.slice ao n' c') (ns k + 12) wr) := Lib.hid (by
                have h := hW.out
                rw [hnn] at h ⊢
                rw [← HNE.out, HV.out]
                exact h)
              have hrow : (wr.alloc (.cells #[.slice ao n' c'] 74)).ownsRow B 74 1 (.slice (some ⟨gg, 0, none⟩) k gcap) k ((List.range k).map gs) := by
                refine World.ownsRow.alloc (kept_ne hR.out.row HWk.out.grown (fun x hx e => ?_)) _
                obtain ⟨gb, hgb, hgH⟩ := hR.out.gvb
                have hxs := hR.out.small k x hlt e
                rw [hgb] at hx
                cases hx
                omega
              have HROW := Lib.hid hrow
              have hbase : B ≤ (wr.alloc (.cells #[.slice ao n' c'] 74)).heap.size := by have := HWk.out.grown.size; have := hR.out.size; have := HHB.out; simp; omega
              have HBASE := Lib.hid hbase
              have h63 : k + 1 ≤ maxLen := by unfold maxLen; omega
              have H63 := Lib.hid h63
              have hby : (k + 1) * 24 ≤ 140737488355328 := by omega
              have HBY := Lib.hid hby
              clear hW hnn hrow hbase h63 hby
              go_wp2_with (at_builtin; refine wpList_append_lies _ rfl (.tmp 63) (.tmp 65) 98 rfl B 74 j0 (.slice none 0 0) 1 24 Try.underlying98 hj0 hy0 hy1 hy2 rfl (by decide) _ k ((List.range k).map gs) rfl HROW.out ⟨wr.heap.size, 0, none⟩ 1 1 [.slice ao n' c'] rfl rfl (cell_one_new wr _ _) ?c1 (by decide) H63.out HBY.out HBASE.out _ rfl ?_)
              case c1 => rfl
              intro g3 cap3 w3 hown3 hg3 hat hlt3
              have HR2 := Lib.hid (hR.out.step HG.out hlt HWk.out _ hown3 hg3 (hat.imp id (fun e => by rw [e]; simp)) HHB.out.1)
              clear hown3 hg3 hat hlt3 HROW
              go_wp2
              go_roundw
              case rel => exact ⟨k + 1, _, g3, cap3, by omega, by go_num, rfl, HR2⟩
              case measure => simp [intOf]; omega
        · have hkm : k = m := by omega
          subst hkm
          have HRm := hR
          obtain ⟨wg, rfl⟩ : ∃ wg : World, wg = wr := ⟨_, rfl⟩
          clear hR
          go_wp2
          go_loopw [70] (fun i wr => ∃ q : Nat, q ≤ k ∧ i = .int .i64 q ∧ Hid (Below wg.heap.size wg wr)) (fun i _ => k - (intOf i).toNat)
          case atStart => exact ⟨0, by omega, rfl, Lib.hid (Below.refl _ _)⟩
          case round =>
            obtain ⟨q, hq, rfl, hBl⟩ := hrel
            by_cases hqt : q < k
            · obtain ⟨bk, ck, hgs, hbk⟩ := own_shape (HRm.out.new q hqt) (by omega)
              have c1 := cell_later hBl.out ((HRm.out.row.cellAt q (by omega)).trans (show ((List.range k).map gs)[q]? = some (gs q) by simp [List.getElem?_map, List.getElem?_range hqt]))
              rw [hgs] at c1
              have hN := HNS.out q hqt
              obtain ⟨N, hNe⟩ : ∃ N, N = ns q := ⟨_, rfl⟩
              rw [← hNe] at c1 hN hgs
              have HGS := Lib.hid hgs
              have HNE := Lib.hid hNe
              clear hgs hbk hNe
              go_wp2
              obtain ⟨wo, rfl⟩ : ∃ wo : World, wo = wr := ⟨_, rfl⟩
              go_loopw [77] (fun i wr => ∃ j : Nat, j ≤ N + 12 ∧ i = .int .i64 j ∧ Hid (Below wg.heap.size wg wr)) (fun i _ => N + 12 - (intOf i).toNat)
              case atStart => exact ⟨0, by omega, rfl, hBl⟩
              case round =>
                obtain ⟨j, hj, rfl, hB2⟩ := hrel
                clear c1
                by_cases hjt : j < N + 12
                · have hon := HRm.out.new q hqt
                  rw [HGS.out, ← HNE.out] at hon
                  have d1 := cell_later hB2.out ((hon.cellAt j (by omega)).trans (u8s_at (by rw [pats_len]; omega)))
                  rw [pats_get hjt] at d1
                  have hls := cell_later hB2.out (HRm.out.lists q hqt)
                  have hat := (HRm.out.old q hqt)
                  have kx : IntKind.u8.wrap (31 * (q : Int) + 7 * (j : Int) + 1) = pat q j := IntKind.wrap_u8' _
                  obtain ⟨a, cap, hva, hA⟩ := hat
                  rw [hva, pats_len, ← HNE.out] at hls
                  have ijt : (j : Int) < (N : Int) + 12 := by omega
                  have iqt : (q : Int) < (k : Int) := by omega
                  have w1 : IntKind.i64.wrap (31 * (q : Int)) = 31 * (q : Int) := IntWalk.i64_in _ (by omega)
                  have w2 : IntKind.i64.wrap (7 * (j : Int)) = 7 * (j : Int) := IntWalk.i64_in _ (by omega)
                  have w3 : IntKind.i64.wrap (31 * (q : Int) + 7 * (j : Int)) = 31 * (q : Int) + 7 * (j : Int) := IntWalk.i64_in _ (by omega)
                  have w4 : IntKind.i64.wrap (31 * (q : Int) + 7 * (j : Int) + 1) = 31 * (q : Int) + 7 * (j : Int) + 1 := IntWalk.i64_in _ (by omega)
                  have q0 : 0 ≤ (q : Int) := by omega
                  have j0' : 0 ≤ (j : Int) := by omega
                  obtain ⟨x, hx⟩ : ∃ x, x = pat q j := ⟨_, rfl⟩
                  rw [← hx] at kx d1
                  have qx : (x != x) = false := by simp
                  by_cases hjN : j < N
                  · have ijN : decide ((j : Int) < (N : Int)) = true := decide_eq_true (by omega)
                    have ijN2 : (j : Int) < (N : Int) := by omega
                    rcases hA with h0 | ⟨b, off, rfl, hc⟩
                    · have := congrArg List.length h0; rw [pats_len] at this; simp at this; have := HNE.out; omega
                    have d2 := cell_later hB2.out (hc j (by rw [pats_len, ← HNE.out]; exact hjN))
                    rw [pats_get (by rw [← HNE.out]; exact hjN), ← hx] at d2
                    clear hon hva hc hx
                    go_wp2
                    go_quiet (fail)
                    go_wp2
                    go_roundw
                    case rel => exact ⟨j + 1, by omega, by go_num, Lib.hid (below_drewN hB2.out _)⟩
                    case measure => simp [intOf]; omega
                  · have ijN : decide ((j : Int) < (N : Int)) = false := decide_eq_false (by omega)
                    clear hon hva hA hx
                    go_wp2
                    go_quiet (fail)
                    go_wp2
                    go_roundw
                    case rel => exact ⟨j + 1, by omega, by go_num, Lib.hid (below_drewN hB2.out _)⟩
                    case measure => simp [intOf]; omega
                · go_wp2
                  go_roundw
                  case rel => exact ⟨q + 1, by omega, by go_num, hB2⟩
                  case measure => simp [intOf]; omega
            · have HF := Lib.hid (HRm.out.below.trans (hBl.out.mono (by have := HRm.out.size; have := HHB.out; omega)))
              go_wp2
              go_ret
              exact ⟨rfl, HF.out⟩
end Go.Proofs.Ytpbgccidhpfmgaa
