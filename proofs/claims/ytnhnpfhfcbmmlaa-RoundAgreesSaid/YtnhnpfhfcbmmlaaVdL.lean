/- Read. Condition: the row came in, of at most 2^20 bytes. -/
import Derived.Test.YtnhnpfhfcbmmlaaVdC
namespace Go.Proofs.Ytnhnpfhfcbmmlaa
open Go Go.RowKit
set_option linter.unusedVariables false
set_option linter.unusedSimpArgs false

structure GotRd (w : World) (b : List Int) (e : Ending) (w' : World) : Prop where
  yes : IsLog b → ∃ ao c vs, e = .returned (.tuple #[.slice ao (decL b).length c, .nilIface]) ∧ OwC w' w.heap.size (decL b) ao c vs
  no : ¬ IsLog b → e = .returned (.tuple #[.slice none 0 0, errnoF 3])
  bel : Below w.heap.size w w'
theorem OwC.one {w w' : World} {B c q : Nat} {ls : List Cm} {ao : Option Addr} {vs : List Value} {cs : Array Value} {t : TypeId} {fr : Nat × Nat} (h : OwC w B ls ao c vs) (ht : Tch (· = q) w w') (hq : w.heap[q]? = some (.cells cs t fr)) (h1 : tyC ≠ t) (h2 : tyE ≠ t) : OwC w' B ls ao c vs :=
  ⟨ht.own h.own (fun g hg e => own_ne_box h.own hq h1 g hg e), h.vlen, h.ends.tch ht (fun j hj g hg e => by
    obtain ⟨a2, c2, e2, ho⟩ := h.ends j hj
    rw [e2] at hg
    exact own_ne_box ho hq h2 g hg e)⟩
theorem RdA.box {w : World} {B q : Nat} {b : List Int} (h : RdA w B q b) : ∃ cs, w.heap[q]? = some (.cells cs tyN (0, 0)) := by
  obtain ⟨a, n, c, h⟩ := h
  exact ⟨_, h.here⟩
set_option maxRecDepth 100000 in
set_option maxHeartbeats 4000000 in
theorem read_log (b : List Int) (a : Option Addr) (n c : Nat) (w : World) (hI : In w a n c b) (hn : n ≤ 1048576) :
    Calls Try.prog 24 #[.slice a n c] w (GotRd w b) := by
  obtain ⟨i0, hi0, hz0, hz1, hz2⟩ := info_parts infoC
  obtain ⟨w1, hw1⟩ : ∃ W, W = w.alloc (.cells #[.slice a n c] tyN) := ⟨_, rfl⟩
  have hR := rdA_new w w.heap.size hI (Nat.le_refl _) hn (in_blk hI)
  rw [← hw1] at hR
  have hb1 : Below w.heap.size w w1 := by rw [hw1]; exact bl_al (Below.refl _ _) _
  obtain ⟨q, hq⟩ : ∃ q, q = w.heap.size := ⟨_, rfl⟩
  have HQ : Hid (q = w.heap.size) := Lib.hid hq
  have hR' : RdA w1 w.heap.size q b := by rw [hq]; exact hR
  have HW1 := Lib.hid (And.intro hw1 hq)
  have HR := Lib.hid hR'
  have HB := Lib.hid hb1
  have HI := Lib.hid hI
  clear hw1 hR hb1 hq hR' hI
  go_enter Try.func24, Try.ntmps24
  go_upto_region 2 with fail
  rw [show w.alloc (.cells #[.slice a n c] tyN) = w1 from HW1.out.1.symm, ← HW1.out.2]
  obtain ⟨M, hM⟩ : ∃ M, M = rd b := ⟨_, rfl⟩
  obtain ⟨mm, hmm⟩ : ∃ mm : Int, mm = min M 256 := ⟨_, rfl⟩
  have HCN : Hid (cntL (rd b) = mm.toNat) := Lib.hid (by rw [hmm, hM]; rfl)
  have h64 : mm ≤ 256 := by omega
  have hmin : ∀ (ts : Array TypeId) (ty : TypeId) (V : World), (Builtin.min_ ts ty #[.int .i64 M, .int .i64 256]).run Try.prog V = .ok (.int .i64 mm) V := by
    intro ts ty V
    rw [run_min_int2, hmm, show (if (256 : Int) < M then (256 : Int) else M) = min M 256 by split <;> omega]
  go_wp2_with fail
  refine (read_a w.heap.size q b w1 HR.out HB.out.size).mono ?_
  rintro e w2 ⟨rfl, hR', hT'⟩
  have HL0 : Hid (∃ ao cc vs, (Value.slice none 0 0 = .slice ao 0 cc) ∧ OwC w2 w.heap.size (rdCs 0 (rest b)) ao cc vs ∧ RdA w2 w.heap.size q (restCs 0 (rest b)) ∧ Below w.heap.size w w2) := Lib.hid ⟨none, 0, [], rfl, owC_nil _ _, hR', HB.out.trans (hT'.below (fun k hk => by rw [hk, HQ.out]; exact Nat.le_refl _) HB.out.size)⟩
  rw [← hM]
  clear hR' hT' hM hmm HR HB
  go_wp2
  go_loopw [5, 11] (fun rv iv wr => ∃ i : Nat, (i : Int) ≤ max mm 0 ∧ iv = .int .i64 i ∧ Hid (∃ ao cc vs, rv = .slice ao i cc ∧ OwC wr w.heap.size (rdCs i (rest b)) ao cc vs ∧ RdA wr w.heap.size q (restCs i (rest b)) ∧ Below w.heap.size w wr)) (fun _ iv _ => 256 - (intOf iv).toNat)
  case atStart => exact ⟨0, by omega, rfl, HL0⟩
  case round =>
    obtain ⟨i, hi, rfl, HL⟩ := hrel
    obtain ⟨w3, rfl⟩ : ∃ v, v = wr := ⟨_, rfl⟩
    clear HL0 hmin
    obtain ⟨ao, cc, vs, erv, hO, hR, hB⟩ := HL.out
    subst erv
    have HO := Lib.hid hO
    have HR := Lib.hid hR
    have HB := Lib.hid hB
    clear HL hO hR hB
    by_cases hlt : (i : Int) < mm
    · have HMO := Lib.hid (rdCs_more i (rest b))
      have HLN : Hid ((rdCs i (rest b)).length = i) := Lib.hid (rdCs_len _ _)
      go_wp2_with fail
      refine (readCommand_c w.heap.size q (restCs i (rest b)) w3 HR.out HB.out.size).mono ?_
      rintro e w4 ⟨⟨a2, c2, rfl, hE⟩, hR4, hT4⟩
      obtain ⟨cs, hbq⟩ := HR.out.box
      have hO4 := HO.out.one hT4 hbq (by decide) (by decide)
      have HO4 := Lib.hid hO4
      have HE4 := Lib.hid (own_base hE HB.out.size)
      have HR4 := Lib.hid hR4
      have HB4 := Lib.hid (HB.out.trans (hT4.below (fun k hk => by rw [hk, HQ.out]; exact Nat.le_refl _) HB.out.size))
      obtain ⟨x, hx⟩ : ∃ x, x = rdC (restCs i (rest b)) := ⟨_, rfl⟩
      rw [← hx] at HE4 HMO ⊢
      obtain ⟨m, hm⟩ : ∃ m, m = x.es.length := ⟨_, rfl⟩
      rw [← hm] at HE4 ⊢
      have HM := Lib.hid hm
      clear hE hR4 hT4 hO4 hbq hx hm HO HR HB
      have HOO : Hid ((w4.alloc (.cells (x.arr (.slice a2 m c2)) tyC)).ownsRow w.heap.size tyC 12 (.slice ao i cc) i (cellsC (rdCs i (rest b)) vs)) := Lib.hid (by have := HO4.out.own; rw [HLN.out] at this; exact this.alloc _)
      have HNN := Lib.hid (cs_new w4 x (.slice a2 m c2))
      have HO1 := Lib.hid (cs_one1 x (v := .slice a2 m c2) rfl)
      have hi2 : i ≤ 256 := by omega
      go_wp2_with (at_builtin; refine wpList_append_own _ rfl (.tmp 13) (.tmp 15) 22 rfl w.heap.size tyC i0 _ 12 104 Try.underlying22 hi0 hz0 hz1 hz2 rfl (by decide) _ i (cellsC (rdCs i (rest b)) vs) rfl HOO.out ⟨w4.heap.size, 0, none⟩ 1 1 (x.cs (.slice a2 m c2)) rfl rfl HNN.out HO1.out (by unfold maxLen; omega) (by omega) (by have := HB4.out.size; simp; omega) ?_)
      intro v8 w8 hown8 hg8 _
      obtain ⟨a8, c8, rfl⟩ := own_form hown8
      have hb7 := bl_al (Below.refl w4.heap.size w4) (.cells (x.arr (.slice a2 m c2)) tyC)
      have hO7 := HO4.out.later hb7
      have hE7 := owns_bel HE4.out hb7
      have hR7 := HR4.out.keep (tch_new hb7) (fun _ h => h.elim)
      have hT8 := tch_grown hg8
      obtain ⟨cs7, hbq7⟩ := hR7.box
      have hR8 := hR7.keep hT8 (fun k hk => ⟨(HOO.out.lt k hk.symm).1, own_ne_box HOO.out hbq7 (by decide) k hk.symm⟩)
      have HF : Hid (∃ ao cc vs, (Value.slice a8 (i + 1) c8 = .slice ao (i + 1) cc) ∧ OwC w8 w.heap.size (rdCs (i + 1) (rest b)) ao cc vs ∧ RdA w8 w.heap.size q (restCs (i + 1) (rest b)) ∧ Below w.heap.size w w8) := Lib.hid (by
        have e2 := HM.out
        refine ⟨a8, c8, vs ++ [.slice a2 m c2], rfl, ?_, ?_, (HB4.out.alloc HB4.out.size _).grown hg8 (by have := HB4.out.size; simp; omega) (fun k hk => (HOO.out.lt k hk).1)⟩
        · rw [HMO.out.1]
          refine hO7.more (x := x) (a2 := a2) (c2 := c2) (by rw [← e2]) (by rw [← e2]; exact hE7) ?_ (by rw [HLN.out]; exact hg8)
          rw [HLN.out]
          exact hown8
        · rw [HMO.out.2]
          exact hR8)
      clear hown8 hg8 hb7 hO7 hE7 hR7 hT8 hbq7 hR8 HOO HNN HO1
      go_wp2
      go_roundw
      case rel => exact ⟨i + 1, by omega, by go_num, HF⟩
      case measure => simp [intOf]; omega
    · have HIN : Hid (rdCs i (rest b) = decL b) := Lib.hid (by unfold decL; rw [HCN.out, show mm.toNat = i by omega])
      rw [HIN.out] at HO
      have hlen : (decL b).length = i := by rw [← HIN.out]; exact rdCs_len _ _
      have HLN := Lib.hid hlen
      have HTY := Lib.hid (decL_ty HI.out.fit)
      have hIC : InC w3 ao i cc (decL b) vs := by have h := HO.out.in HTY.out; rwa [HLN.out] at h
      have HIC := Lib.hid hIC
      have HI3 := Lib.hid (HI.out.below HB.out)
      have HL := Lib.hid (decL_len b)
      clear hlen hIC HR HIN
      go_wp2_with fail
      refine (wr_c (decL b) vs ao i cc w3 HIC.out (by omega)).mono ?_
      intro e w4 hW
      have HB4 := Lib.hid (bl_tr HB.out hW.bel)
      have HO4 := Lib.hid (HO.out.later hW.bel)
      by_cases hg : GoodL (decL b)
      · obtain ⟨a4, c4, rfl, hown⟩ := hW.yes hg
        have HG := Lib.hid hg
        have q0 := nilNe
        have HA4 := Lib.hid (At.own hown)
        have HI4 := Lib.hid (HI3.out.below hW.bel)
        obtain ⟨k, hk⟩ : ∃ k, k = (bytesL (decL b)).length := ⟨_, rfl⟩
        rw [← hk]
        have HK := Lib.hid hk
        clear hW hown hk hg
        obtain ⟨z, hz⟩ : ∃ z, z = decide (bytesL (decL b) = b) := ⟨_, rfl⟩
        have CE := equal_c (bytesL (decL b)) b a4 a k n c4 c w4 (by rw [HK.out]; exact HA4.out) HI4.out.here HK.out.symm HI4.out.len (fit_bytesL _) HI.out.fit
        rw [← hz] at CE
        have CE := Lib.hid CE
        have HZ := Lib.hid hz
        clear hz
        go_wp2_with fail
        refine CE.out.mono ?_
        rintro e w5 ⟨rfl, rfl⟩
        cases z with
        | true =>
          have HIL : Hid (IsLog b) := Lib.hid ⟨HG.out, of_decide_eq_true HZ.out.symm⟩
          go_wp2
          go_ret2
          exact ⟨fun _ => ⟨ao, cc, vs, by rw [HLN.out]; rfl, HO4.out⟩, fun h => absurd HIL.out h, HB4.out⟩
        | false =>
          have HIL : Hid (¬ IsLog b) := Lib.hid (fun h => of_decide_eq_false HZ.out.symm h.2)
          go_wp2
          go_ret2
          exact ⟨fun h => absurd h HIL.out, fun _ => rfl, HB4.out⟩
      · have e1 := hW.no hg
        subst e1
        have q9 := nine_neq
        have HIL : Hid (¬ IsLog b) := Lib.hid (fun h => hg h.1)
        clear hW hg
        go_wp2
        go_ret2
        exact ⟨fun h => absurd h HIL.out, fun _ => rfl, HB4.out⟩
end Go.Proofs.Ytnhnpfhfcbmmlaa
