/- The document's wheel: Cancel. Conditions: the keys came in and lie apart; at most 2^20 timers. -/
import Derived.Test.YthoegmcdohppoaaWrA
import Derived.Test.YthoegmcdohppoaaQStep
namespace Go.Proofs.Ythoegmcdohppoaa
open Go Go.RowKit
set_option linter.unusedVariables false
set_option linter.unusedSimpArgs false

theorem cutsT_step (ks : List Int) (ts : List Wy) {i : Nat} (hi : i < ks.length) : cutsT (ks.take (i + 1)) ts = cutT (ks.getD i 0) (cutsT (ks.take i) ts) := by
  unfold cutsT
  rw [take_more ks 0 hi, List.foldl_append]
  rfl
theorem cntsT_app : ∀ (l m : List Int) (ts : List Wy), cntsT (l ++ m) ts = cntsT l ts + cntsT m (cutsT l ts)
  | [], m, ts => by simp [cntsT, cutsT]
  | k :: l, m, ts => by
    have := cntsT_app l m (cutT k ts)
    rw [List.cons_append, cntsT, cntsT, this]
    unfold cutsT
    rw [List.foldl_cons]
    omega
theorem cntsT_step (ks : List Int) (ts : List Wy) {i : Nat} (hi : i < ks.length) : cntsT (ks.take (i + 1)) ts = cntsT (ks.take i) ts + cntT (ks.getD i 0) (cutsT (ks.take i) ts) := by
  rw [take_more ks 0 hi, cntsT_app]
  simp [cntsT]
theorem cutsT_len : ∀ (ks : List Int) (ts : List Wy), (cutsT ks ts).length ≤ ts.length
  | [], ts => Nat.le_refl _
  | k :: ks, ts => Nat.le_trans (cutsT_len ks (cutT k ts)) (List.length_filter_le _ _)
theorem cntT_le (k : Int) (ts : List Wy) : cntT k ts ≤ ts.length := List.countP_le_length
/-- One timer more, gone over. -/
theorem cut_more {ts : List Wy} {j : Nat} (hj : j < ts.length) (k : Int) :
    (cutT k (ts.take (j + 1)) = if (ts.getD j tm0).2 = k then cutT k (ts.take j) else cutT k (ts.take j) ++ [ts.getD j tm0]) ∧ cntT k (ts.take (j + 1)) = cntT k (ts.take j) + if (ts.getD j tm0).2 = k then 1 else 0 := by
  rw [take_more ts tm0 hj]
  unfold cutT cntT
  rw [List.filter_append, List.countP_append]
  by_cases e : (ts.getD j tm0).2 = k
  · rw [if_pos e, if_pos e, List.filter_cons_of_neg (by simpa using e), List.countP_cons_of_pos (by simpa using e)]
    simp
  · rw [if_neg e, if_neg e, List.filter_cons_of_pos (by simpa using e), List.countP_cons_of_neg (by simpa using e)]
    simp
theorem tm_new (w : World) (t : Wy) : ∀ j u, (csT t)[j]? = some u → (w.alloc (.cells (csT t).toArray tyT)).cell? ((⟨w.heap.size, 0, none⟩ : Addr).add j) = some u := fun j u h => by
  rw [Go.WideShapes.add_plain]
  exact cells_new w (csT t) tyT (0, 0) j u h
theorem own_blkT {w : World} {B n size : Nat} {e : TypeId} {v : Value} {xs : List Value} (h : w.ownsRow B e size v n xs) {k : Nat} (hk : v.ownBlock = some k) : B ≤ k := (h.lt k hk).1
/-- Its new row laid. -/
theorem RwM.put {w w2 : World} {B m n c n2 c2 : Nat} {ts us : List Wy} {ao a2 : Option Addr} (h : RwM w B m ts ao n c) (hB : B ≤ w.heap.size) (hb : Below w.heap.size w w2) (ho : w2.ownsRow w.heap.size tyT 2 (.slice a2 n2 c2) n2 (cellsT us)) :
    RwM (w2.setCell ⟨m, 0, none⟩ (.slice a2 n2 c2)) B m us a2 n2 c2 ∧ Tch (· = m) w (w2.setCell ⟨m, 0, none⟩ (.slice a2 n2 c2)) := by
  have hl := h.lt
  have h2 := h.keep (tch_new hb) (fun h => h) (fun _ _ h => h)
  have ha : ∀ k, (Value.slice a2 n2 c2).ownBlock = some k → w.heap.size ≤ k := fun k hk => own_blkT ho hk
  have ht := tch_set w2 ⟨m, 0, none⟩ (.slice a2 n2 c2)
  refine ⟨⟨one_setCell h2.here, h.hm, own_base (ht.own ho (fun k hk e => ?_)) hB, fun e => ?_⟩, ((tch_new hb).mono (fun _ h => h.elim)).trans ht⟩
  · have := ha k hk
    have e' : k = m := e
    omega
  · have := ha m e
    omega
set_option maxRecDepth 100000 in
set_option maxHeartbeats 4000000 in
theorem refCancel_c (B m : Nat) (F : Nat → Prop) (ts : List Wy) (ks : List Int) (a : Option Addr) (k0 c : Nat) (w : World) (hR : RwS w B F m ts) (hB : B ≤ w.heap.size) (hI : InI w a k0 c ks) (hap : ∀ b off, a = some ⟨b, off, none⟩ → 0 < k0 → ¬ F b) (hn : ts.length ≤ 1048576) (hk : k0 ≤ 1048576) :
    Calls Try.prog 16 #[.pointer (some ⟨m, 0, none⟩), .slice a k0 c] w fun e w' => e = .returned (.int .i64 (cntsT ks ts : Nat)) ∧ ∃ F2, RwTo w B F m (cutsT ks ts) F2 w' := by
  obtain ⟨i0, hi0, hz0, hz1, hz2⟩ := info_parts infoT
  have HI := Lib.hid hI
  have HAP := Lib.hid hap
  have HB := Lib.hid hB
  have HN := Lib.hid hn
  have R0 : Hid (∃ F2, RwTo w B F m (cutsT (ks.take 0) ts) F2 w) := Lib.hid ⟨F, RwTo.same hR (Tch.refl _ _)⟩
  have hlen := hI.len
  clear hR hI hap hn hB
  go_enter Try.func16, Try.ntmps16
  go_wp2
  go_loopw [5, 6] (fun nv iv wr => ∃ (i N : Nat), i ≤ k0 ∧ iv = .int .i64 i ∧ nv = .int .i64 N ∧ N ≤ i * 1048576 ∧ Hid (N = cntsT (ks.take i) ts) ∧ Hid (∃ F2, RwTo w B F m (cutsT (ks.take i) ts) F2 wr)) (fun _ iv _ => k0 - (intOf iv).toNat)
  case atStart => exact ⟨0, 0, by omega, rfl, rfl, by omega, Lib.hid rfl, R0⟩
  case round =>
    obtain ⟨i, N, hi, rfl, rfl, hN, HNc, HR⟩ := hrel
    obtain ⟨w2, rfl⟩ : ∃ v, v = wr := ⟨_, rfl⟩
    clear R0
    by_cases hlt : i < k0
    · have ii : (i : Int) < (k0 : Int) := by omega
      have i0' : (0 : Int) ≤ (i : Int) := by omega
      obtain ⟨F2, hR2⟩ := HR.out
      have hI2 := HI.out.tch hR2.2.2 HAP.out
      obtain ⟨kb, ko, hab⟩ := in_blockI hI2 (by omega)
      obtain ⟨ao, n, c2, hM, hF2⟩ := hR2.1.here
      have hnl := ownT_len hM.row
      have hn20 : n ≤ 1048576 := by
        rw [← hnl]
        exact Nat.le_trans (cutsT_len _ _) HN.out
      have HSt := Lib.hid (And.intro (cutsT_step ks ts (i := i) (by omega)) (cntsT_step ks ts (i := i) (by omega)))
      obtain ⟨us, hus⟩ : ∃ us, us = cutsT (ks.take i) ts := ⟨_, rfl⟩
      obtain ⟨key, hkey⟩ : ∃ key, key = ks.getD i 0 := ⟨_, rfl⟩
      rw [← hus] at hM hnl HSt
      rw [← hkey] at HSt
      have HU := Lib.hid hus
      have HM := Lib.hid hM
      have HR2 := Lib.hid (And.intro hR2 hF2)
      have HI2 := Lib.hid hI2
      have HKey := Lib.hid hkey
      have HB2 : Hid (B ≤ w2.heap.size) := Lib.hid (Nat.le_trans HB.out hR2.2.2.size)
      have O0 : Hid (w2.ownsRow w2.heap.size tyT 2 (.slice none 0 0) 0 (cellsT (cutT key (us.take 0)))) := Lib.hid ⟨rfl, .inl ⟨rfl, rfl⟩⟩
      have HBl0 := Lib.hid (Below.refl w2.heap.size w2)
      have HC0 : Hid (N = cntsT (ks.take i) ts + cntT key (us.take 0)) := Lib.hid (by rw [HNc.out]; simp [cntT])
      subst hab
      clear hR2 hF2 hM hus hkey hI2 HR
      go_wp2
      go_loopw [5, 7, 8] (fun nv lv jv wr => ∃ (j N L : Nat), j ≤ n ∧ jv = .int .i64 j ∧ nv = .int .i64 N ∧ N ≤ i * 1048576 + j ∧ L ≤ j ∧ Hid (N = cntsT (ks.take i) ts + cntT key (us.take j)) ∧ Hid (wr.ownsRow w2.heap.size tyT 2 lv L (cellsT (cutT key (us.take j)))) ∧ Hid (Below w2.heap.size w2 wr)) (fun _ _ jv _ => n - (intOf jv).toNat)
      case atStart => exact ⟨0, N, 0, Nat.zero_le _, rfl, rfl, Nat.le_add_right_of_le hN, Nat.le_refl _, HC0, O0, HBl0⟩
      case round =>
        clear HC0 O0 HBl0 HNc hN
        obtain ⟨j, N, L, hj, rfl, rfl, hN, hL, HC, HO, HBl⟩ := hrel
        obtain ⟨w3, rfl⟩ : ∃ v, v = wr := ⟨_, rfl⟩
        have hM3 := HM.out.keep (tch_new HBl.out) (fun h => h) (fun _ _ h => h)
        have q0 := hM3.c0
        by_cases hlj : j < n
        · have jj : (j : Int) < (n : Int) := by omega
          have j0 : (0 : Int) ≤ (j : Int) := by omega
          obtain ⟨g, rfl, _, c0, c1⟩ := ownT_cell hM3.row hlj
          have k1 := in_cellI (HI2.out.below HBl.out) i hlt
          rw [← HKey.out] at k1
          have HMo := Lib.hid (cut_more (ts := us) (j := j) (by omega) key)
          obtain ⟨tk, htk⟩ : ∃ x, x = (us.getD j tm0).2 := ⟨_, rfl⟩
          obtain ⟨ta, hta⟩ : ∃ x, x = (us.getD j tm0).1 := ⟨_, rfl⟩
          have htt : us.getD j tm0 = (ta, tk) := by rw [hta, htk]
          rw [← htk] at c0
          rw [← hta] at c1
          rw [htt] at HMo
          clear hM3 hta htk htt
          by_cases e : tk = key
          · have qe : (tk == key) = true := by simpa using e
            have HC2 : Hid (N + 1 = cntsT (ks.take i) ts + cntT key (us.take (j + 1))) := Lib.hid (by
              have h := HMo.out.2
              rw [if_pos e] at h
              rw [h, HC.out]
              omega)
            have HO2 : Hid (w3.ownsRow w2.heap.size tyT 2 u7 L (cellsT (cutT key (us.take (j + 1))))) := Lib.hid (by
              have h := HMo.out.1
              rw [if_pos e] at h
              rw [h]
              exact HO.out)
            clear e HMo HC HO
            go_wp2
            go_quiet (fail)
            have HB9 := Lib.hid (below_drewNT HBl.out nq)
            have HO9 : Hid ((w3.drewN nq).ownsRow w2.heap.size tyT 2 u7 L (cellsT (cutT key (us.take (j + 1))))) := Lib.hid HO2.out
            go_wp2
            go_roundw
            case rel => exact ⟨j + 1, N + 1, L, by omega, by go_num, by go_num, by omega, by omega, HC2, HO9, HB9⟩
            case measure => simp [intOf]; omega
          · have qe : (tk == key) = false := by simpa using e
            have HC2 : Hid (N = cntsT (ks.take i) ts + cntT key (us.take (j + 1))) := Lib.hid (by
              have h := HMo.out.2
              rw [if_neg e] at h
              rw [h, HC.out]
              omega)
            have HSA : Hid (cellsT (cutT key (us.take j)) ++ csT (ta, tk) = cellsT (cutT key (us.take (j + 1)))) := Lib.hid (by
              have h := HMo.out.1
              rw [if_neg e] at h
              rw [h, cellsT_app, cellsT_one])
            clear e HMo HC
            go_wp2
            go_quiet (fail)
            obtain ⟨w4, hw4⟩ : ∃ w4, w4 = w3.drewN nq := ⟨_, rfl⟩
            have q4 : w4.cell? ⟨m, 0, none⟩ = some (.slice (some ⟨g, 0, none⟩) n c2) := by rw [hw4]; exact q0
            have c04 : w4.cell? ⟨g, j * 2, none⟩ = some (.int .i64 tk) := by rw [hw4]; exact c0
            have c14 : w4.cell? ⟨g, j * 2 + 1, none⟩ = some (.int .i64 ta) := by rw [hw4]; exact c1
            have HB4 : Hid (Below w2.heap.size w2 w4) := Lib.hid (by rw [hw4]; exact below_drewNT HBl.out nq)
            have HO4 : Hid (w4.ownsRow w2.heap.size tyT 2 u7 L (cellsT (cutT key (us.take j)))) := Lib.hid (by rw [hw4]; exact HO.out)
            have hs4 := HB4.out.size
            rw [← hw4]
            clear hw4 q0 c0 c1 HBl HO k1
            go_wp2_with (at_builtin; refine wpList_append_own _ rfl _ _ 32 rfl w2.heap.size 64 i0 (.agg #[.int .i64 0, .int .i64 0]) 2 16 Try.underlying32 hi0 hz0 hz1 hz2 rfl (by decide) _ _ _ rfl (HO4.out.alloc _) ⟨w4.heap.size, 0, none⟩ 1 1 (csT (ta, tk)) rfl rfl (tm_new w4 (ta, tk)) (csT_one1 _) ?c1 ?c2 ?c3 ?_)
            case c1 => unfold maxLen; omega
            case c2 => omega
            case c3 => simp; omega
            intro v5 w5 ho5 hg5 _
            rw [HSA.out] at ho5
            have HO5 := Lib.hid ho5
            have HB5 := Lib.hid ((HB4.out.alloc hs4 _).grown hg5 (by simp; omega) (fun k hk => own_blkT HO4.out hk))
            clear ho5 hg5 HO4 HB4 HSA
            go_wp2
            go_roundw
            case rel => exact ⟨j + 1, N, L + 1, by omega, by go_num, rfl, by omega, by omega, HC2, HO5, HB5⟩
            case measure => simp [intOf]; omega
        · obtain rfl : j = n := by omega
          have jj : ¬ (j : Int) < (j : Int) := by omega
          obtain ⟨a5, c5, hv5⟩ := own_form HO.out
          subst hv5
          have ht1 : us.take j = us := List.take_of_length_le (by omega)
          rw [ht1, ← HSt.out.1] at HO
          rw [ht1, ← HSt.out.2] at HC
          have f0 := hM3.free
          obtain ⟨hM4, hT4⟩ := HM.out.put HB2.out HBl.out HO.out
          have HR4 : Hid (∃ F2, RwTo w B F m (cutsT (ks.take (i + 1)) ts) F2 (w3.setCell ⟨m, 0, none⟩ (.slice a5 L c5))) := Lib.hid (by
            obtain ⟨hR2, hF2⟩ := HR2.out
            refine ⟨fun k => k = m ∨ (Value.slice a5 L c5).ownBlock = some k, hR2.trans ⟨⟨_, _, _, hM4, fun k => Iff.rfl⟩, fun k hk => ?_, hT4.mono (fun k hk => (hF2 k).2 (.inl hk))⟩⟩
            rcases hk with hk | hk
            · exact .inl ((hF2 k).2 (.inl hk))
            · exact .inr (own_blkT HO.out hk))
          clear hM3 hM4 hT4 HR2 HM HSt ht1 HO HBl
          go_wp2
          go_roundw
          case rel => exact ⟨i + 1, N, by omega, by go_num, rfl, by omega, HC, HR4⟩
          case measure => simp [intOf]; omega
    · obtain rfl : i = k0 := by omega
      have ii : ¬ (i : Int) < (i : Int) := by omega
      have ht : ks.take i = ks := List.take_of_length_le (by omega)
      rw [ht] at HNc HR
      clear ht
      go_wp2
      go_ret
      exact ⟨by rw [← HNc.out]; rfl, HR.out⟩
end Go.Proofs.Ythoegmcdohppoaa
