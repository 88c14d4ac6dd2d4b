/- Contract of queue's Put, where a queue is a channel in a struct. -/
import Derived.Test.YtdjeacmonlgdhaaQdP
import Derived.Laws.Pointers
import Derived.Deep.LoopGhost
namespace Go.Proofs.Ytdjeacmonlgdhaa
open Go Go.Conc Go.RowKit
set_option linter.unusedVariables false
set_option linter.unusedSimpArgs false

/-- Behind j rows put. -/
structure PuI (w0 w : World) (B : Nat) (F : Nat → Prop) (q size : Nat) (vs : List Value) (ps qs : List (List Int)) (j : Nat) : Prop where
  st : ∃ us, QSt w B F q size (vs ++ us) (ps ++ qs.take j) ∧ ∀ u ∈ us, ∀ k, u.ownBlock = some k → w0.heap.size ≤ k
  tch : Tch F w0 w
theorem pu_end {w w' : World} {B : Nat} {F : Nat → Prop} {q size j : Nat} {vs : List Value} {ps qs : List (List Int)} (h : PuI w w' B F q size vs ps qs j) (hj : j = fits ps.length size qs.length) : QPut w B F q size vs ps qs (.returned (.int .i64 j)) w' := by
  subst hj
  obtain ⟨us, hs, hn⟩ := h.st
  exact ⟨us, rfl, hs, h.tch, hn⟩
set_option maxRecDepth 100000 in
set_option maxHeartbeats 2000000 in
theorem put_q (B : Nat) (F : Nat → Prop) (q size : Nat) (vs us : List Value) (ps qs : List (List Int)) (ao : Option Addr) (n c : Nat) (w : World) (hQ : QSt w B F q size vs ps) (hB : B ≤ w.heap.size) (hI : ∀ w', Tch F w w' → RsP w' ao n us qs) (hn : n ≤ 1048576) (hp : ∀ p ∈ qs, p.length ≤ 1048576) :
    Calls Try.prog 13 #[.pointer (some ⟨q, 0, none⟩), .slice ao n c] w (QPut w B F q size vs ps qs) := by
  have HQ := Lib.hid hQ.le
  have HB := Lib.hid hB
  have HI := Lib.hid hI
  have HP := Lib.hid hp
  have HQL : Hid (qs.length = n) := Lib.hid (hI w (Tch.refl _ _)).len
  have P0 : Hid (PuI w w B F q size vs ps qs 0) := Lib.hid ⟨⟨[], by simpa using hQ, fun u hu => by cases hu⟩, Tch.refl _ _⟩
  have hch := hQ.inn
  obtain ⟨c0, s0, r0, hF0, hq0, hc0⟩ := hch
  have CH := Lib.hid (held_t q c0 w hq0)
  have HF0 := Lib.hid hF0
  clear hQ hB hI hp hq0 hc0 hF0
  go_enter Try.func13, Try.ntmps13
  go_wp2
  go_step3
  go_wp2_with fail
  refine CH.out.mono ?_
  rintro e w0 ⟨rfl, rfl⟩
  clear CH
  go_wp2
  go_step3
  go_wp2
  go_loopg [6, 13] n (fun g u i wr => ∃ j : Nat, j + g = n ∧ j ≤ size - ps.length ∧ u = .int .i64 j ∧ i = .int .i64 j ∧ Hid (PuI w wr B F q size vs ps qs j))
  case atStart => exact ⟨0, by omega, by omega, rfl, rfl, P0⟩
  case round =>
    obtain ⟨j, hjg, hjs, rfl, rfl, HU⟩ := hrel
    clear P0
    cases gk with
    | zero =>
      have ilj : ¬ ((j : Int) < (n : Int)) := by omega
      have HE := Lib.hid (pu_end HU.out (show j = fits ps.length size qs.length by rw [HQL.out]; unfold fits; omega))
      go_wp2
      go_ret
      exact HE.out
    | succ g =>
      have ilj : (j : Int) < (n : Int) := by omega
      have j0 : (0 : Int) ≤ (j : Int) := by omega
      have hjn : j < n := by omega
      obtain ⟨vs1, hst, hnew⟩ := HU.out.st
      obtain ⟨c1', s, r, hF, h1, h2⟩ := hst.inn
      obtain rfl : c0 = c1' := by
        have h5 := (HF0.out c1').1 ((hF c1').2 (.inr rfl))
        have h6 := chan_ne h1 h2
        omega
      have hrs := HI.out wr HU.out.tch
      rcases hrs.here with h0 | ⟨b, off, rfl, hc⟩
      · omega
      obtain ⟨a1, k1, c1, e1, hi1⟩ := hrs.rows j hjn
      have hcj := hc j hjn
      rw [e1] at hcj
      have hpl := HP.out (qs.getD j []) (by rw [List.getD_eq_getElem?_getD, List.getElem?_eq_getElem (by rw [HQL.out]; omega)]; exact List.getElem_mem _)
      have hpk := hi1.len
      have CC := Lib.hid (bclone_t (qs.getD j []) a1 k1 c1 wr hi1 (by omega))
      have HST := Lib.hid hst
      have HNW := Lib.hid hnew
      have HFF := Lib.hid hF
      have H2 := Lib.hid h2
      have HPK := Lib.hid hpk
      have HFI := Lib.hid hi1.fit
      have HH1 := Lib.hid h1
      have HTK : Hid (qs.take (j + 1) = qs.take j ++ [qs.getD j []]) := Lib.hid (take_moreL qs [] (by rw [HQL.out]; omega))
      have HSZ : Hid ((vs ++ vs1).length = ps.length + j) := Lib.hid (by
        have := hst.rows.len
        rw [this, List.length_append, List.length_take, HQL.out]
        omega)
      have HBW : Hid (B ≤ wr.heap.size) := Lib.hid (Nat.le_trans HB.out HU.out.tch.size)
      clear hrs hc hi1 hpl hpk hst hnew hF e1
      by_cases hfull : ps.length + j < size
      · go_upto_region 7 with fail
        go_wp2_with fail
        refine CC.out.mono ?_
        rintro e w1 ⟨ua, uc, rfl, hu, hb⟩
        have hu' : w1.ownsRow wr.heap.size 5 1 (.slice ua k1 uc) (qs.getD j []).length (u8s (qs.getD j [])) := by rw [HPK.out]; exact hu
        obtain ⟨q1, q2, q3⟩ := q_push HST.out HBW.out HFF.out HH1.out H2.out (by
          rw [List.length_append, List.length_take, HQL.out]
          omega) hu' HFI.out hb
        have hc1 : w1.heap[c0]? = some (.chan size (vs ++ vs1).toArray false s r false) := (hb.block c0 (lt_of_block H2.out)).trans H2.out
        have hrm : (vs ++ vs1).toArray.size < size := by rw [List.size_toArray, HSZ.out]; omega
        obtain ⟨W, hW⟩ : ∃ W, W = w1.setChan c0 size ((vs ++ vs1).toArray.push (.slice ua k1 uc)) false (s + 1) r false := ⟨_, rfl⟩
        rw [← hW] at q1 q2
        have HU9 : Hid (PuI w W B F q size vs ps qs (j + 1)) := Lib.hid ⟨⟨vs1 ++ [.slice ua k1 uc], by
          rw [HTK.out, ← List.append_assoc, ← List.append_assoc]
          exact q1, fun u hu => (List.mem_append.1 hu).elim (HNW.out u) (fun h k hk => by
          rw [List.mem_singleton] at h
          rw [h] at hk
          exact Nat.le_trans HU.out.tch.size (q3 k hk))⟩, HU.out.tch.trans q2⟩
        have HW := Lib.hid hW
        have HC1 := Lib.hid hc1
        have HRM := Lib.hid hrm
        clear hu hu' q1 q2 q3 hb hc1 hrm hW CC h1 h2 hcj
        go_upto_region 8 with fail
        refine wp_region_comm (w' := W) (.tuple #[goInt 0, .bool false]) ?h ?h2
        case h =>
          rw [HW.out]
          exact comm_send (c := c0) (z := .slice none 0 0) rfl rfl (by simp [go_sem, execOp, scase, Act.eval]) HC1.out HRM.out
        go_wp2
        go_roundg g
        case measure => omega
        case rel => exact ⟨j + 1, by omega, by omega, by go_num, by go_num, HU9⟩
      · have HJE : Hid (j = size - ps.length) := Lib.hid (by have := HQ.out; omega)
        clear hjs
        go_upto_region 7 with fail
        go_wp2_with fail
        refine CC.out.mono ?_
        rintro e w1 ⟨ua, uc, rfl, hu, hb⟩
        have HC1 : Hid (w1.heap[c0]? = some (.chan size (vs ++ vs1).toArray false s r false)) := Lib.hid ((hb.block c0 (lt_of_block H2.out)).trans H2.out)
        have HRM : Hid (size ≤ (vs ++ vs1).toArray.size) := Lib.hid (by rw [List.size_toArray, HSZ.out]; omega)
        have tb := tch_new hb
        have HE := Lib.hid (pu_end (w := w) (w' := w1) (j := j) ⟨⟨vs1, HST.out.keep tb (fun _ _ h => h) (fun _ _ _ _ h => h), HNW.out⟩, HU.out.tch.trans (tb.mono (fun _ h => h.elim))⟩ (show j = fits ps.length size qs.length by rw [HQL.out]; have := HJE.out; unfold fits; omega))
        clear hu hb tb CC h1 h2 hcj
        go_upto_region 8 with fail
        refine wp_region_comm (w' := w1) (.tuple #[goInt (-1), .bool false]) ?g ?g2
        case g => exact comm_full (c := c0) (v := .slice ua k1 uc) (z := .slice none 0 0) rfl rfl (by simp [go_sem, execOp, scase, Act.eval]) HC1.out HRM.out
        go_wp2
        go_ret
        exact HE.out
end Go.Proofs.Ytdjeacmonlgdhaa
