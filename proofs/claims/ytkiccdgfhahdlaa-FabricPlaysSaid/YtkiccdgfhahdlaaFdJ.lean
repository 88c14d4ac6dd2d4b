/- Waiting. -/
import Derived.Test.YtkiccdgfhahdlaaFdI
namespace Go.Proofs.Ytkiccdgfhahdlaa
open Go Go.RowKit
set_option linter.unusedVariables false
set_option linter.unusedSimpArgs false

/-- Behind j letters of Waiting. -/
structure WgI (w0 w : World) (ls : List Lt) (j : Nat) (a : Option Addr) (c : Nat) (us : List Value) : Prop where
  own : w.ownsRow w0.heap.size tyL 5 (.slice a j c) j (cellsL (ls.take j) us)
  rows : Rws w w0.heap.size us ((ls.take j).map (·.bs))
  apart : us.Pairwise Aprt
  bel : Below w0.heap.size w0 w
theorem WgI.len {w0 w : World} {ls : List Lt} {j c : Nat} {a : Option Addr} {us : List Value} (h : WgI w0 w ls j a c us) : us.length = (ls.take j).length := by simpa using h.rows.len
/-- A round of Waiting. -/
theorem WgI.step {w0 wr W1 w3 w8 : World} {ls : List Lt} {j c g8 c8 c7 nb : Nat} {a a7 : Option Addr} {us : List Value} (h : WgI w0 wr ls j a c us) (hj : j < ls.length) (hf : fit (ls.getD j lt0).bs) (hnb : nb = (ls.getD j lt0).bs.length)
    (hb1 : Below wr.heap.size wr W1) (h7 : w3.ownsRow W1.heap.size 5 1 (.slice a7 nb c7) nb (u8s (ls.getD j lt0).bs)) (hb3 : Below W1.heap.size W1 w3)
    (hr : w8.ownsRow w0.heap.size tyL 5 (.slice (some ⟨g8, 0, none⟩) (j + 1) c8) (j + 1) (cellsL (ls.take j) us ++ (ls.getD j lt0).cs (.slice a7 nb c7))) (T : Tch (fun k => some k = (Value.slice a j c).ownBlock) w3 w8) :
    WgI w0 w8 ls (j + 1) (some ⟨g8, 0, none⟩) c8 (us ++ [.slice a7 nb c7]) := by
  have hrow := fun k (hk : (Value.slice a j c).ownBlock = some k) => h.own.lt k hk
  have hb : Below wr.heap.size wr w3 := bl_tr hb1 hb3
  have e : ls.take (j + 1) = ls.take j ++ [ls.getD j lt0] := by
    rw [List.take_succ_eq_append_getElem hj]
    congr 2
    rw [List.getD_eq_getElem?_getD, List.getElem?_eq_getElem hj]
    rfl
  have hs0 := h.bel.size
  have hs1 := hb1.size
  refine ⟨?_, ?_, ?_, ?_⟩
  · rw [e, cellsL_app h.len, cellsL_one]
    exact hr
  · rw [e, List.map_append]
    refine Rws.app ((h.rows.keep (tch_new hb) (fun _ _ _ _ h => h)).keep T (fun v hv k hk e2 => ?_)) ⟨⟨own_base (T.own (by rw [← hnb]; exact h7) (fun k hk e2 => ?_)) (by omega), hf⟩, trivial⟩
    · obtain ⟨l, n, ho⟩ := rws_form h.rows v hv
      exact own_kinds h.own ho (by decide) k e2.symm hk
    · have := (h7.lt k hk).1
      have := (hrow k e2.symm).2
      omega
  · rw [List.pairwise_append]
    refine ⟨h.apart, List.pairwise_singleton _ _, fun v hv u hu => ?_⟩
    rw [List.mem_singleton] at hu
    subst hu
    intro k hk hk2
    obtain ⟨l, n, ho⟩ := rws_form h.rows v hv
    have := (ho.lt k hk).2
    have := (h7.lt k hk2).1
    omega
  · exact h.bel.trans ((hb.mono hs0).trans (T.below (fun k hk => (hrow k hk.symm).1) (Nat.le_trans hs0 hb.size)))
set_option maxRecDepth 100000 in
set_option maxHeartbeats 2000000 in
theorem fwaiting_c (B f last : Nat) (F : Nat → Prop) (ls : List Lt) (w : World) (hL : FSt w B F f ls last) (h4 : ls.length ≤ 4096) (hp : ∀ l ∈ ls, l.bs.length ≤ 1048576) :
    Calls Try.prog 28 #[.pointer (some ⟨f, 0, none⟩)] w (FWtg w ls) := by
  obtain ⟨j0, hj0, hy0, hy1, hy2⟩ := info_parts infoL
  have HFI := Lib.hid (And.intro hL.fits hp)
  have HNV := Lib.hid (fun (j : Nat) (hj : j < ls.length) => hL.nthv hj)
  obtain ⟨ao, n, c, vs, hM, hF⟩ := hL.here
  have hn := hM.len
  have HM := Lib.hid hM
  have HN := Lib.hid hn
  have B0 : Hid (∃ us, WgI w w ls 0 none 0 us) := Lib.hid ⟨[], World.ownsRow_nil _ _ _ _, trivial, .nil, Below.refl _ _⟩
  have hn4 : n ≤ 4096 := by omega
  have CU := Lib.hid (fund_c f n c ao w hM.c0)
  clear hL hM hF hn h4 hp
  go_enter Try.func28, Try.ntmps28
  go_wp2_with fail
  refine CU.out.mono ?_
  rintro e w1 ⟨rfl, rfl⟩
  clear CU
  go_wp2
  go_loopw [3, 9] (fun v i wr => ∃ (j : Nat) (a : Option Addr) (d : Nat), j ≤ n ∧ i = .int .i64 j ∧ v = .slice a j d ∧ Hid (∃ us, WgI w wr ls j a d us)) (fun _ i _ => n - (intOf i).toNat)
  case atStart => exact ⟨0, none, 0, by omega, rfl, rfl, B0⟩
  case round =>
    obtain ⟨j, a, d, hj, rfl, rfl, HB⟩ := hrel
    clear B0
    obtain ⟨us, hw⟩ := HB.out
    clear HB
    by_cases hlj : j < n
    · have hjl : j < ls.length := by have := HN.out; omega
      obtain ⟨ao', n', c', vs', g, hM', hF', rfl, hn', hcap', hmem, hc, ho⟩ := HNV.out j hjl
      obtain ⟨rfl, rfl, rfl⟩ : ao = some ⟨g, 0, none⟩ ∧ n = n' ∧ c = c' := by
        have := HM.out.c0.symm.trans hM'.c0
        cases this
        exact ⟨rfl, rfl, rfl⟩
      have hT0 := tch_new hw.bel
      have c0 := hT0.cell (hc 0 (by omega)) (fun h => h)
      have c1 := hT0.cell (hc 1 (by omega)) (fun h => h)
      have c2 := hT0.cell (hc 2 (by omega)) (fun h => h)
      have c3 := hT0.cell (hc 3 (by omega)) (fun h => h)
      have c4 := hT0.cell (hc 4 (by omega)) (fun h => h)
      have hlm : ls.getD j lt0 ∈ ls := by rw [List.getD_eq_getElem?_getD, List.getElem?_eq_getElem hjl]; exact List.getElem_mem hjl
      have hlf := HFI.out.1 _ hlm
      have hlb := HFI.out.2 _ hlm
      have ho1 := hT0.own ho (fun _ _ h => h)
      obtain ⟨l, hl⟩ : ∃ l, l = ls.getD j lt0 := ⟨_, rfl⟩
      have hST := Lib.hid (fun (W1 w3 w8 : World) (g8 c8 c7 nb : Nat) (a7 : Option Addr) => WgI.step (W1 := W1) (w3 := w3) (w8 := w8) (g8 := g8) (c8 := c8) (c7 := c7) (nb := nb) (a7 := a7) hw hjl hlf)
      rw [← hl] at hST
      obtain ⟨v, hv⟩ : ∃ v, v = vs'.getD j undef := ⟨_, rfl⟩
      rw [← hl] at c0 c1 c2 c3 hlf hlb
      rw [← hv] at c4
      rw [Nat.add_zero] at c0
      rw [← hl, ← hv] at ho1
      obtain ⟨av, cv, hv2⟩ := own_form ho1
      obtain ⟨nb, hnb⟩ : ∃ k, k = l.bs.length := ⟨_, rfl⟩
      rw [← hnb] at hv2 ho1
      rw [hv2] at c4 ho1
      obtain ⟨W1, hW1⟩ : ∃ W1, W1 = wr.alloc (.cells #[.int .i64 l.id, .int .i64 l.frm, .int .i64 l.dst, .bool l.ctl, .slice av nb cv] tyL) := ⟨_, rfl⟩
      have hx1 : Bx W1 wr.heap.size l (.slice av nb cv) := by rw [hW1]; exact Bx.new wr l _
      have hb1 : Below wr.heap.size wr W1 := by rw [hW1]; exact bl_al (Below.refl _ _) _
      have CC := Lib.hid (lclone_c l av nb cv W1 (own_in ((tch_new hb1).own ho1 (fun _ _ h => h)) hnb.symm hlf) (by omega))
      obtain ⟨b0, b1, b2, b3, b4⟩ := hx1.cell
      have HW1 := Lib.hid hW1
      obtain ⟨p, hp⟩ : ∃ p, p = wr.heap.size := ⟨_, rfl⟩
      rw [← hp] at b0 b1 b2 b3 b4
      have HP := Lib.hid hp
      have ij : (j : Int) < (n : Int) := by omega
      have i0 : (0 : Int) ≤ (j : Int) := by omega
      have HB1 := Lib.hid hb1
      have HNB := Lib.hid hnb
      have HWG := Lib.hid hw
      have hjn : j < n := hlj
      unfold Lt.val at CC
      clear hM' hF' hn' hcap' hmem hc ho hT0 hlm hlf hlb ho1 hl hv hv2 v hx1 hW1 hp hnb hb1 hw hjl
      go_upto_region 5 with fail
      rw [← HW1.out, ← HP.out]
      clear c0 c1 c2 c3 c4 HW1
      go_wp2_with fail
      refine CC.out.mono ?_
      rintro e w3 ⟨a7, c7, rfl, h7, hb3⟩
      clear CC b0 b1 b2 b3 b4
      have hb : Below wr.heap.size wr w3 := bl_tr HB1.out hb3
      have HO := Lib.hid ((tch_new hb).own HWG.out.own (fun _ _ h => h))
      have HZ : Hid (w.heap.size ≤ w3.heap.size) := Lib.hid (Nat.le_trans HWG.out.bel.size hb.size)
      have HN5 := Lib.hid (new5 w3 [.int .i64 l.id, .int .i64 l.frm, .int .i64 l.dst, .bool l.ctl, .slice a7 nb c7] tyL)
      have HC1 : Hid (∀ u ∈ [.int .i64 l.id, .int .i64 l.frm, .int .i64 l.dst, .bool l.ctl, Value.slice a7 nb c7], u.oneCell' = true) := Lib.hid (fun u hu => by
        simp only [List.mem_cons, List.not_mem_nil, or_false] at hu
        rcases hu with rfl | rfl | rfl | rfl | rfl <;> rfl)
      have H7 := Lib.hid (And.intro h7 hb3)
      clear h7 hb3 hb
      go_wp2_with (at_builtin; refine wpList_append_lies _ rfl (.tmp 13) (.tmp 16) 28 rfl w.heap.size tyL j0 (.agg #[.int .i64 0, .int .i64 0, .int .i64 0, .bool false, .slice none 0 0]) 5 56 Try.underlying28 hj0 hy0 hy1 hy2 rfl (by decide) _ j (cellsL (ls.take j) us) rfl (HO.out.alloc _) ⟨w3.heap.size, 0, none⟩ 1 1 [.int .i64 l.id, .int .i64 l.frm, .int .i64 l.dst, .bool l.ctl, .slice a7 nb c7] rfl rfl HN5.out HC1.out (by decide) ?c2 ?c3 ?c4 _ rfl ?_)
      case c2 => unfold maxLen; omega
      case c3 => omega
      case c4 => have := HZ.out; simp; omega
      intro g8 c8 w8 hown hg hlie hlt
      have hT8 : Tch (fun k => some k = (Value.slice a j d).ownBlock) w3 w8 := ((tch_alloc w3 _).mono (fun _ h => h.elim)).trans (tch_grown hg)
      have HB9 : Hid (∃ us, WgI w w8 ls (j + 1) (some ⟨g8, 0, none⟩) c8 us) := Lib.hid ⟨_, hST.out W1 w3 w8 g8 c8 c7 nb a7 HNB.out HB1.out H7.out.1 H7.out.2 hown hT8⟩
      clear hown hg hlie hlt hT8 HO HZ HN5 HC1 H7 HB1 HWG hST
      go_wp2
      go_roundw
      case rel => exact ⟨j + 1, _, _, by omega, by go_num, rfl, HB9⟩
      case measure => simp [intOf]; omega
    · have ij : ¬ (j : Int) < (n : Int) := by omega
      have hjn : j = ls.length := by have := HN.out; omega
      have HE : Hid (FWtg w ls (.returned (.slice a j d)) wr) := Lib.hid (by
        have h1 := hw.own
        have h2 := hw.rows
        rw [List.take_of_length_le (by omega)] at h1 h2
        rw [hjn] at h1 ⊢
        exact ⟨a, d, us, rfl, h1, h2, hw.apart, hw.bel⟩)
      clear hw hjn
      go_wp2
      go_ret
      exact HE.out
end Go.Proofs.Ytkiccdgfhahdlaa
