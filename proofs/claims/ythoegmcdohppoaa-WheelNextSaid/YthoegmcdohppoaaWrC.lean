/- The document's wheel: Set. Conditions: the keys came in and lie apart; few timers, few keys. -/
import Derived.Test.YthoegmcdohppoaaWrB
import Derived.Deep.AppendLies
import Derived.Deep.RegionLaw
namespace Go.Proofs.Ythoegmcdohppoaa
open Go Go.RowKit
set_option linter.unusedVariables false
set_option linter.unusedSimpArgs false

theorem putsT_step (a : Int) (ks : List Int) (ts : List Wy) {i : Nat} (hi : i < ks.length) : putsT a (ks.take (i + 1)) ts = putT a (putsT a (ks.take i) ts) (ks.getD i 0) := by
  unfold putsT
  rw [take_more ks 0 hi, List.foldl_append]
  rfl
theorem putT_len (a : Int) (ts : List Wy) (k : Int) : (putT a ts k).length ≤ ts.length + 1 := by
  unfold putT
  rw [List.length_append]
  have := List.length_filter_le (fun t : Wy => t.2 != k) ts
  unfold cutT
  simp only [List.length_cons, List.length_nil]
  omega
theorem putsT_len (a : Int) : ∀ (ks : List Int) (ts : List Wy), (putsT a ks ts).length ≤ ts.length + ks.length
  | [], ts => by simp [putsT]
  | k :: ks, ts => by
    have h1 := putsT_len a ks (putT a ts k)
    have h2 := putT_len a ts k
    unfold putsT at *
    rw [List.foldl_cons, List.length_cons]
    omega
theorem RwM.app {W w7 w8 : World} {B m n c g8 c8 : Nat} {us : List Wy} {ao : Option Addr} {t : Wy} (hM : RwM W B m us ao n c) (h7 : Tch Non W w7) (hT : Tch (fun k => (Value.slice ao n c).ownBlock = some k) w7 w8)
    (ho : w8.ownsRow B tyT 2 (.slice (some ⟨g8, 0, none⟩) (n + 1) c8) (n + 1) (cellsT us ++ csT t)) (hl : (Value.slice ao n c).ownBlock = some g8 ∨ W.heap.size ≤ g8) :
    RwM (w8.setCell ⟨m, 0, none⟩ (.slice (some ⟨g8, 0, none⟩) (n + 1) c8)) B m (us ++ [t]) (some ⟨g8, 0, none⟩) (n + 1) c8 ∧ Tch (fun k => k = m ∨ (Value.slice ao n c).ownBlock = some k) W (w8.setCell ⟨m, 0, none⟩ (.slice (some ⟨g8, 0, none⟩) (n + 1) c8)) := by
  have hlt := hM.lt
  have hgm : g8 ≠ m := by
    rcases hl with hl | hl
    · exact fun e => hM.away (by rw [hl, e])
    · omega
  have h8 : w8.heap[m]? = some (.cells #[.slice ao n c] 34 (0, 0)) := hT.at (h7.at hM.here (fun h => h)) (fun e => hM.away e)
  have ht := tch_set w8 ⟨m, 0, none⟩ (.slice (some ⟨g8, 0, none⟩) (n + 1) c8)
  rw [← cellsT_one, ← cellsT_app] at ho
  refine ⟨⟨one_setCell h8, hM.hm, ht.own ho (fun k hk e => ?_), fun e => ?_⟩, ((h7.mono (fun _ h => h.elim)).trans (hT.mono (fun k hk => .inr hk))).trans (ht.mono (fun k hk => .inl hk))⟩
  · cases hk
    exact hgm e
  · cases e
    exact hgm rfl
set_option maxRecDepth 100000 in
set_option maxHeartbeats 4000000 in
theorem refSet_c (B m : Nat) (F : Nat → Prop) (ts : List Wy) (at' : Int) (ks : List Int) (a : Option Addr) (k0 c : Nat) (w : World) (hR : RwS w B F m ts) (hB : B ≤ w.heap.size) (hI : InI w a k0 c ks) (hap : ∀ b off, a = some ⟨b, off, none⟩ → 0 < k0 → ¬ F b) (hn : ts.length + k0 ≤ 1048576) (ha : 0 ≤ at' ∧ at' ≤ 1099511627776) :
    Calls Try.prog 14 #[.pointer (some ⟨m, 0, none⟩), .int .i64 at', .slice a k0 c] w fun e w' => e = .returned (.int .i64 0) ∧ ∃ F2, RwTo w B F m (putsT at' ks ts) F2 w' := by
  obtain ⟨j0, hj0, hy0, hy1, hy2⟩ := info_parts infoT
  have HI := Lib.hid hI
  have HAP := Lib.hid hap
  have HB := Lib.hid hB
  have HN := Lib.hid hn
  have R0 : Hid (∃ F2, RwTo w B F m (putsT at' (ks.take 0) ts) F2 w) := Lib.hid ⟨F, RwTo.same hR (Tch.refl _ _)⟩
  have hlen := hI.len
  have hroom := hI.room
  have a1 : ¬ at' < 0 := by omega
  have a2 : ¬ (1099511627776 : Int) < at' := by omega
  have hk20 : k0 ≤ 1048576 := by omega
  clear hR hI hap hn hB ha
  go_enter Try.func14, Try.ntmps14
  go_wp2
  go_loopw [7] (fun iv wr => ∃ i : Nat, i ≤ k0 ∧ iv = .int .i64 i ∧ Hid (∃ F2, RwTo w B F m (putsT at' (ks.take i) ts) F2 wr)) (fun iv _ => k0 - (intOf iv).toNat)
  case atStart => exact ⟨0, by omega, rfl, R0⟩
  case round =>
    obtain ⟨i, hi, rfl, HR⟩ := hrel
    obtain ⟨w2, rfl⟩ : ∃ v, v = wr := ⟨_, rfl⟩
    clear R0
    by_cases hlt : i < k0
    · have ii : (i : Int) < (k0 : Int) := by omega
      have i0' : (0 : Int) ≤ (i : Int) := by omega
      have i1 : (i : Int) + 1 ≤ (k0 : Int) := by omega
      have i2 : (i : Int) + 1 ≤ (c : Int) := by omega
      have i3 : (i : Int) ≤ (i : Int) + 1 := by omega
      have i4 : (k0 : Int) ≤ (c : Int) := by omega
      have hci : ¬ c = i := by omega
      obtain ⟨F2, hR2⟩ := HR.out
      have hI2 := HI.out.tch hR2.2.2 HAP.out
      obtain ⟨kb, ko, hab⟩ := in_blockI hI2 (by omega)
      subst hab
      have hsub : InI w2 (some ⟨kb, ko + i, none⟩) 1 (c - i) [ks.getD i 0] := by
        have h1 := AtI.sub hI2.here (by rw [hlen]) i (i + 1) (by omega) (by omega) 1 (c - i) (ko + i) (by omega) rfl
        have h2 : (ks.drop i).take 1 = [ks.getD i 0] := by
          rw [List.drop_eq_getElem_cons (by omega), List.getD_eq_getElem?_getD, List.getElem?_eq_getElem (by omega)]
          rfl
        rw [h2] at h1
        exact ⟨rfl, by omega, (fun e => by cases e), h1, fun x hx => hI2.fit x (by
          rw [List.mem_singleton] at hx
          rw [hx, List.getD_eq_getElem?_getD, List.getElem?_eq_getElem (by omega)]
          exact List.getElem_mem _)⟩
      have hls : (putsT at' (ks.take i) ts).length ≤ 1048576 := by
        have := putsT_len at' (ks.take i) ts
        have := HN.out
        rw [List.length_take] at *
        omega
      have CC := Lib.hid (refCancel_c B m F2 (putsT at' (ks.take i) ts) [ks.getD i 0] (some ⟨kb, ko + i, none⟩) 1 (c - i) w2 hR2.1 (Nat.le_trans HB.out hR2.2.2.size) hsub (fun b off e _ hb => by
        cases e
        rcases hR2.2.1 kb hb with h | h
        · exact HAP.out kb ko rfl (by omega) h
        · have := block_lt_of_cell (in_cellI HI.out 0 (by omega))
          simp only at this
          omega) hls (by omega))
      have HST := Lib.hid (putsT_step at' ks ts (i := i) (by omega))
      have HR2 := Lib.hid hR2
      clear hR2 hI2 hsub HR
      go_wp2_with fail
      refine CC.out.mono ?_
      rintro e w3 ⟨rfl, F3, hR3⟩
      have hR3' := HR2.out.trans hR3
      obtain ⟨ao, n, c3, hM, hF3⟩ := hR3.1.here
      obtain ⟨us, hus⟩ : ∃ us, us = cutsT [ks.getD i 0] (putsT at' (ks.take i) ts) := ⟨_, rfl⟩
      obtain ⟨key, hkey⟩ : ∃ key, key = ks.getD i 0 := ⟨_, rfl⟩
      rw [← hus] at hM hR3'
      have hnl := ownT_len hM.row
      have hn20 : n ≤ 1048576 := by
        rw [← hnl, hus]
        exact Nat.le_trans (cutsT_len _ _) hls
      have hU2 : us ++ [(at', key)] = putsT at' (ks.take (i + 1)) ts := by
        rw [HST.out, hus, hkey]
        rfl
      have hI3 := HI.out.tch hR3'.2.2 HAP.out
      have k1 := in_cellI hI3 i hlt
      rw [← hkey] at k1
      have q0 := hM.c0
      have qf := hM.free
      have HM := Lib.hid hM
      have HF3 := Lib.hid hF3
      have HR3 := Lib.hid hR3'
      have HU2 := Lib.hid hU2
      have HB3 : Hid (B ≤ w3.heap.size) := Lib.hid (Nat.le_trans HB.out hR3'.2.2.size)
      have hTA : Tch Non w3 (w3.alloc (.cells #[.int .i64 key, .int .i64 at'] tyT)).drew := tch_new ((bl_al (Below.refl _ _) _).drew)
      have HTA := Lib.hid hTA
      have qa := hTA.cell q0 (fun h => h)
      have HQH := Lib.hid (hTA.at hM.here (fun h => h))
      have HA0 : Hid (¬ (Value.slice ao n c3).ownBlock = some m) := Lib.hid hM.away
      have HN5 := Lib.hid (tm_new w3 (at', key))
      have HOL := Lib.hid (show (w3.alloc (.cells #[.int .i64 key, .int .i64 at'] tyT)).drew.ownsRow B tyT 2 (.slice ao n c3) n (cellsT us) from hM.row.alloc _)
      have HC1 : Hid (∀ u ∈ ([.int .i64 key, .int .i64 at'] : List Value), u.oneCell' = true) := Lib.hid (csT_one1 (at', key))
      have HML := Lib.hid hM.lt
      clear hR3 hR3' hM hF3 hus hkey hnl hU2 hI3 hTA CC HST HR2 hls
      go_upto_region 7 with fail
      go_region_law (first
        | (refine step_append_lies _ rfl (.tmp 31) (.tmp 38) 32 rfl B tyT j0 (.agg #[.int .i64 0, .int .i64 0]) 2 16 Try.underlying32 hj0 hy0 hy1 hy2 rfl (by decide) _ n (cellsT us) rfl HOL.out ⟨w3.heap.size, 0, none⟩ 1 1 [.int .i64 key, .int .i64 at'] rfl rfl HN5.out HC1.out (by decide) (by unfold maxLen; omega) (by omega) (by have := HB3.out; simp; omega) _ rfl ?_; intro g8 c8 w8 hown8 hg8 hlie hlt8; have hT8 := tch_grown hg8; have h8 := hT8.at HQH.out (fun e => HA0.out e.symm); have e08 := cell_of_one h8; have ef8 := free_of_one h8)
        | fail)
      all_goals
        have hlx : (Value.slice ao n c3).ownBlock = some g8 ∨ w3.heap.size ≤ g8 := hlie.imp (fun h => h) (fun h => by rw [h]; simp)
        obtain ⟨hM9, hT9⟩ := HM.out.app (t := (at', key)) HTA.out (hT8.mono (fun k hk => hk.symm)) hown8 hlx
        rw [HU2.out] at hM9
        have HR9 : Hid (∃ F2, RwTo w B F m (putsT at' (ks.take (i + 1)) ts) F2 (w8.setCell ⟨m, 0, none⟩ (.slice (some ⟨g8, 0, none⟩) (n + 1) c8))) := Lib.hid (by
          refine ⟨fun k => k = m ∨ (Value.slice (some ⟨g8, 0, none⟩) (n + 1) c8).ownBlock = some k, HR3.out.trans ⟨⟨_, _, _, hM9, fun k => Iff.rfl⟩, fun k hk => ?_, hT9.mono (fun k hk => (HF3.out k).2 hk)⟩⟩
          rcases hk with hk | hk
          · exact .inl ((HF3.out k).2 (.inl hk))
          · cases hk
            rcases hlx with h | h
            · exact .inl ((HF3.out _).2 (.inr h))
            · exact .inr h)
        clear hown8 hg8 hlie hlt8 hT8 h8 e08 ef8 hlx hM9 hT9 q0 qf qa k1 HR3 HF3
        go_wp2
        go_roundw
        case rel => exact ⟨i + 1, by omega, by go_num, HR9⟩
        case measure => simp [intOf]; omega
    · obtain rfl : i = k0 := by omega
      have ii : ¬ (i : Int) < (i : Int) := by omega
      have ht : ks.take i = ks := List.take_of_length_le (by omega)
      rw [ht] at HR
      clear ht
      go_wp2
      go_ret
      exact ⟨rfl, HR.out⟩
end Go.Proofs.Ythoegmcdohppoaa
