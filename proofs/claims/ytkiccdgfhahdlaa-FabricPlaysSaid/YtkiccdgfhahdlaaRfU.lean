/- The document's fabric: Take where there is a letter. Conditions: those stated. -/
import Derived.Test.YtkiccdgfhahdlaaRfT
namespace Go.Proofs.Ytkiccdgfhahdlaa
open Go Go.RowKit
set_option linter.unusedVariables false
set_option linter.unusedSimpArgs false

theorem addr_add (g o i : Nat) : (⟨g, o, none⟩ : Addr).add i = ⟨g, o + i, none⟩ := by
  unfold Addr.add
  split
  · rename_i h0; rw [h0]; rfl
  · rfl
theorem LsM.cellN {w : World} {B m last n c : Nat} {ls : List Lt} {g : Nat} {vs : List Value} (h : LsM w B m ls last (some ⟨g, 0, none⟩) n c vs) {i : Nat} {u : Value} (hi : (cellsL ls vs)[i]? = some u) : w.cell? ⟨g, i, none⟩ = some u := by
  have hl := h.row.1
  have hlt : i < (cellsL ls vs).length := by
    rcases Nat.lt_or_ge i (cellsL ls vs).length with h1 | h1
    · exact h1
    · rw [List.getElem?_eq_none h1] at hi; cases hi
  rcases h.row.2 with ⟨e, h0⟩ | ⟨g', cap, cur, e, _, hg, h1, h2, h3, h4⟩
  · cases e
  · cases e
    rw [cell_of_row w g i _ _ _ hg, ← Array.getElem?_toList, ← hi, ← h4, List.getElem?_take, if_pos (by omega)]
theorem LsM.takeN {w : World} {B m last n c : Nat} {ls : List Lt} {g : Nat} {vs : List Value} (h : LsM w B m ls last (some ⟨g, 0, none⟩) n c vs) (j : Nat) : ∀ i u, (cellsL (ls.take j) (vs.take j))[i]? = some u → w.cell? ((⟨g, 0, none⟩ : Addr).add i) = some u := fun i u hu => by
  rw [addr_add, Nat.zero_add]
  rw [← cellsL_take h.vlen, List.getElem?_take] at hu
  split at hu
  · exact h.cellN hu
  · cases hu
theorem LsM.dropN {w : World} {B m last n c : Nat} {ls : List Lt} {g : Nat} {vs : List Value} (h : LsM w B m ls last (some ⟨g, 0, none⟩) n c vs) (j : Nat) : ∀ i u, (cellsL (ls.drop j) (vs.drop j))[i]? = some u → w.cell? ((⟨g, j * 5, none⟩ : Addr).add i) = some u := fun i u hu => by
  rw [addr_add]
  rw [← cellsL_drop h.vlen, List.getElem?_drop] at hu
  exact h.cellN hu
set_option maxRecDepth 100000 in
set_option maxHeartbeats 4000000 in
theorem refTake_some (B m last : Nat) (F : Nat → Prop) (ls : List Lt) (n : Int) (w : World) (hL : LSt w B F m ls last) (hB : B ≤ w.heap.size) (h0 : 0 < ls.length) (h4 : ls.length ≤ 4096) :
    Calls Try.prog 19 #[.pointer (some ⟨m, 0, none⟩), .int .i64 n] w (RTke w B F m (ls.getD (plc n ls.length) lt0) 0 (ls.eraseIdx (plc n ls.length)) last) := by
  obtain ⟨j0, hj0, hy0, hy1, hy2⟩ := info_parts infoL
  obtain ⟨W, hW⟩ : ∃ W, W = w.alloc (.cells zeroL tyL) := ⟨_, rfl⟩
  have hz : Bx W w.heap.size lt0 (.slice none 0 0) := by rw [hW]; exact Bx.new w lt0 _
  have hT : Tch Non w W := by rw [hW]; exact tch_alloc _ _
  have hbW : Below w.heap.size w W := by rw [hW]; exact bl_al (Below.refl _ _) _
  have CN := Lib.hid (refNth_some B m last F ls n W (hL.keep hT (fun _ _ h => h)) h0 h4)
  have hjp := plc_lt n h0
  obtain ⟨j, hj⟩ : ∃ j, j = plc n ls.length := ⟨_, rfl⟩
  have CP := Lib.hid (fun U => refPlace_some n ls.length h0 (by omega) U)
  rw [← hj] at CN hjp CP
  rw [← hj]
  obtain ⟨q, hq⟩ : ∃ q, q = w.heap.size := ⟨_, rfl⟩
  have HW := Lib.hid hW
  have HQ := Lib.hid hq
  have HZ := Lib.hid hz
  have HL := Lib.hid hL
  have HBW := Lib.hid hbW
  have HBB := Lib.hid hB
  obtain ⟨l, hl⟩ : ∃ l, l = ls.getD j lt0 := ⟨_, rfl⟩
  rw [← hl] at CN
  rw [← hl]
  clear hz hT hL hW hq hbW hj hB hl
  go_enter Try.func19, Try.ntmps19
  go_upto_region 1 with fail
  rw [← HW.out, ← HQ.out]
  go_wp2_with fail
  refine CN.out.mono ?_
  rintro e w1 ⟨v, rfl, ho, hv, ht⟩
  obtain ⟨av, cv, rfl⟩ := own_form ho
  have hb1 : Below w.heap.size w w1 := HBW.out.trans (ht.below (fun k hk => hk.elim) HBW.out.size)
  obtain ⟨nb, hnb⟩ : ∃ k, k = l.bs.length := ⟨_, rfl⟩
  rw [← hnb] at ho hv
  rw [← hnb]
  obtain ⟨Y, hY⟩ : ∃ Y, Y = w1.alloc (.cells #[.int .i64 l.id, .int .i64 l.frm, .int .i64 l.dst, .bool l.ctl, .slice av nb cv] tyL) := ⟨_, rfl⟩
  have hTY : Tch Non w1 Y := by rw [hY]; exact tch_alloc _ _
  have hY1 : Bx Y w1.heap.size l (.slice av nb cv) := by rw [hY]; exact Bx.new w1 l _
  have hqY : Bx Y q lt0 (.slice none 0 0) := by rw [HQ.out]; exact (HZ.out.keep ht (fun h => h)).keep hTY (fun h => h)
  have hbY : Below w.heap.size w Y := by rw [hY]; exact bl_al hb1 _
  have hoY := hTY.own ho (fun _ _ h => h)
  have hLY := HL.out.keep (tch_new hbY) (fun _ _ h => h)
  obtain ⟨ao, N, c, vs, hM, hF⟩ := hLY.here
  have hN := hM.len
  obtain ⟨g, rfl, _⟩ := hM.cell (j := j) (i := 0) (by omega) (by omega)
  have hcap : N ≤ c := by
    rcases hM.row.2 with ⟨e, _⟩ | ⟨g', cap', cur, e, _, _, h1, _⟩
    · cases e
    · cases e
      exact h1
  have hM2 := hM
  rw [hN] at CP hjp h0 h4
  obtain ⟨p, hp⟩ : ∃ p, p = w1.heap.size := ⟨_, rfl⟩
  rw [← hp] at hY1
  have e0 := hM.c0
  have ef := hM.free
  have hmp : m ≠ p ∧ m ≠ q := by
    have h1 : m < w.heap.size := by obtain ⟨_, _, _, _, hM', _⟩ := HL.out.here; exact hM'.lt
    have := hb1.size
    have := HQ.out
    omega
  have HMY := Lib.hid hM
  have HF := Lib.hid hF
  have HY1 := Lib.hid hY1
  have HQY := Lib.hid hqY
  have HBY := Lib.hid hbY
  have HO := Lib.hid hoY
  have HV := Lib.hid hv
  have HP := Lib.hid hp
  have HY := Lib.hid hY
  have HLN := Lib.hid hN
  have HMP := Lib.hid hmp
  have HNB := Lib.hid hnb
  clear ho hv ht hb1 hp hY hTY hqY hbY hY1 CN hoY hLY hM hF hN hM2 hmp hnb
  unfold Lt.val
  go_upto_region 4 with fail
  rw [← HY.out, ← HP.out]
  clear HP HY
  go_wp2_with fail
  refine (CP.out _).mono ?_
  rintro e w2 ⟨rfl, rfl⟩
  clear CP
  go_upto_region 5 with fail
  have hmY : m < Y.heap.size := HMY.out.lt
  have hqY : q < Y.heap.size := HQY.out.lt
  have i1 : (0 : Int) ≤ (j : Int) := by omega
  have i2 : (j : Int) ≤ (c : Int) := by omega
  have i3 : (j : Int) + 1 ≤ (N : Int) := by omega
  have i4 : (j : Int) + 1 ≤ (c : Int) := by omega
  have i5 : (0 : Int) ≤ (j : Int) + 1 := by omega
  have i6 : (N : Int) ≤ (c : Int) := by omega
  have vj : ∀ [Inhabited Nat], IntKind.i64.wrap ((j : Int) + 1) = (j : Int) + 1 := by intro _; exact IntWalk.i64_in _ (by omega)
  have HD : Hid (Below Y.heap.size Y (Y.alloc (.cells #[] tyL)).drew) := Lib.hid ((bl_al (Below.refl _ _) _).drew)
  have own0 := Lib.hid (World.ownsRow_made (base := Y.heap.size) (e := tyL) (size := 5) Y #[] 0 (Nat.le_refl _) (by decide) rfl)
  have HVL := HMY.out.vlen
  have HON := Lib.hid (cellsL_one1 (ls := ls.take j) (vs := vs.take j) (fun v hv => HMY.out.rows.cells v (List.mem_of_mem_take hv)))
  have HON2 := Lib.hid (cellsL_one1 (ls := ls.drop (j + 1)) (vs := vs.drop (j + 1)) (fun v hv => HMY.out.rows.cells v (List.mem_of_mem_drop hv)))
  have HL1 : Hid ((cellsL (ls.take j) (vs.take j)).length = j * 5) := Lib.hid (by
    rw [cellsL_len (by rw [List.length_take, List.length_take, HVL]), List.length_take]
    have := HLN.out
    omega)
  have HL2 : Hid ((cellsL (ls.drop (j + 1)) (vs.drop (j + 1))).length = (N - (j + 1)) * 5) := Lib.hid (by
    rw [cellsL_len (by rw [List.length_drop, List.length_drop, HVL]), List.length_drop]
    have := HLN.out
    omega)
  have HC1 := Lib.hid (fun U (ht : Tch Non Y U) i u hu => ht.cell ((HMY.out.takeN j) i u hu) (fun h => h))
  have HC2 := Lib.hid (fun U (ht : Tch Non Y U) i u hu => ht.cell ((HMY.out.dropN (j + 1)) i u hu) (fun h => h))
  have HTD := Lib.hid (tch_new HD.out)
  have e01 := HTD.out.cell e0 (fun h => h)
  clear HVL
  have HC3 : Hid (∀ U, Tch Non Y U → ∀ ad, (if c = j + 1 then some (⟨g, 0, none⟩ : Addr) else some ⟨g, (j + 1) * 5, none⟩) = some ad → ∀ i u, (cellsL (ls.drop (j + 1)) (vs.drop (j + 1)))[i]? = some u → U.cell? (ad.add i) = some u) := Lib.hid (fun U ht ad e i u hu => by
    split at e
    · have hz : (cellsL (ls.drop (j + 1)) (vs.drop (j + 1))).length = 0 := by rw [HL2.out]; omega
      rw [List.getElem?_eq_none (by omega)] at hu
      cases hu
    · cases e
      exact HC2.out U ht i u hu)
  have HNN : Hid ((if c = j + 1 then some (⟨g, 0, none⟩ : Addr) else some ⟨g, (j + 1) * 5, none⟩) = none → N - (j + 1) = 0 ∧ c - (j + 1) = 0) := Lib.hid (fun e => by split at e <;> cases e)
  have HFR := Lib.hid (fun U (ht : Tch Non Y U) => (frozen_keep ht e0 (fun h => h) 0).trans (ef 0))
  go_region_law (first
    | (refine step_append_own_any rfl (.tmp 27) (.tmp 33) 28 rfl Y.heap.size tyL j0 (.agg #[.int .i64 0, .int .i64 0, .int .i64 0, .bool false, .slice none 0 0]) 5 56 Try.underlying28 hj0 hy0 hy1 hy2 rfl (by decide) _ 0 [] rfl own0.out _ j _ (cellsL (ls.take j) (vs.take j)) rfl HL1.out (fun e => by cases e) (fun ad e i u hu => by cases e; exact HC1.out _ HTD.out i u hu) HON.out (by unfold maxLen; omega) (by omega) (by simp) ?_; intro v7 w7 hown7 hg7; simp only [Nat.zero_add, List.nil_append] at hown7 ⊢; obtain ⟨a7, c7, rfl⟩ := own_form hown7; have hb7 := HD.out.grown hg7 (by simp) (fun k hk => by cases hk; exact Nat.le_refl _); have e07 := cell_later hb7 e0; have ht7 := tch_new hb7)
    | (refine step_append_own_any rfl (.tmp 34) (.tmp 41) 28 rfl Y.heap.size tyL j0 (.agg #[.int .i64 0, .int .i64 0, .int .i64 0, .bool false, .slice none 0 0]) 5 56 Try.underlying28 hj0 hy0 hy1 hy2 rfl (by decide) _ j (cellsL (ls.take j) (vs.take j)) rfl hown7 _ (N - (j + 1)) _ (cellsL (ls.drop (j + 1)) (vs.drop (j + 1))) rfl HL2.out HNN.out (HC3.out _ ht7) HON2.out (by unfold maxLen; omega) (by omega) (by have := hb7.size; simp; omega) ?_; intro v8 w8 hown8 hg8; obtain ⟨a8, c8, rfl⟩ := own_form hown8; have hb8 := hb7.grown hg8 hb7.size (fun k hk => (hown7.lt k hk).1); have e08 := cell_later hb8 e0; have ef8 := HFR.out _ (tch_new hb8))
    | fail)
  all_goals
    obtain ⟨hM9, hT9, hR9⟩ := take_step HMY.out (Nat.le_trans HBB.out HBY.out.size) (by rw [HLN.out]; exact hjp) hown8 hb8
    obtain ⟨Z, hZ⟩ : ∃ Z, Z = w8.setCell ⟨m, 0, none⟩ (.slice a8 (j + (N - (j + 1))) c8) := ⟨_, rfl⟩
    rw [← hZ] at hM9 hT9
    rw [← hZ]
    have hpZ := HY1.out.keep hT9 (fun e => HMP.out.1 e.symm)
    have hqZ := HQY.out.keep hT9 (fun e => HMP.out.2 e.symm)
    obtain ⟨y0, y1, y2, y3, y4⟩ := hpZ.cell
    obtain ⟨q0, q1, q2, q3, q4⟩ := hqZ.cell
    have qf := hqZ.free
    have HM9 := Lib.hid hM9
    have HT9 := Lib.hid hT9
    have HR9 := Lib.hid hR9
    clear hown7 hg7 hb7 e07 ht7 hown8 hg8 hb8 e08 ef8 hM9 hT9 hR9 hZ hpZ hqZ e0 ef e01 hmY hqY vj i1 i2 i3 i4 i5 i6 own0 HON HON2 HL1 HL2 HC1 HC2 HC3 HNN HFR HTD HD
    go_wp2
    all_goals
      refine bodyPost_ret (v := .tuple #[l.val (.slice av nb cv), .int .i64 0]) (by simp [results, Try.results19, go_sem, q0, q1, q2, q3, q4, Lt.val]) rfl ?_
      have hTq := setL_tch Z q (.int .i64 l.id) (.int .i64 l.frm) (.int .i64 l.dst) (.bool l.ctl) (.slice av nb cv)
      have hmw : m < w.heap.size := by obtain ⟨_, _, _, _, hM', _⟩ := HL.out.here; exact hM'.lt
      have hqw := HQ.out
      have hRq : ∀ k, RfB a8 (j + (N - (j + 1))) c8 (vs.eraseIdx j) k → k ≠ q := fun k hk e => by
        rcases HR9.out k hk with h | h
        · have h2 := (HL.out.blocks k ((HF.out k).2 (.inr h))).2
          omega
        · have := HQY.out.lt
          omega
      refine ⟨_, rfl, ?_, fun k => k = m ∨ RfB a8 (j + (N - (j + 1))) c8 (vs.eraseIdx j) k, ⟨_, _, _, _, HM9.out.keep hTq HMP.out.2 hRq, fun k => Iff.rfl⟩, fun k hk => ?_, ?_⟩
      · rw [← HNB.out]
        refine hTq.own (HT9.out.own HO.out (fun k hk e => ?_)) (fun k hk e => ?_)
        · exact (HV.out k hk).2 e
        · have h2 := (HL.out.blocks k (HV.out k hk).1).2
          omega
      · rcases hk with hk | hk
        · exact .inl ((HF.out k).2 (.inl hk))
        · rcases HR9.out k hk with h | h
          · exact .inl ((HF.out k).2 (.inr h))
          · exact .inr (Nat.le_trans HBY.out.size h)
      · exact (((tch_new HBY.out).mono (fun _ h => h.elim)).trans (HT9.out.mono (fun k hk => (HF.out k).2 (.inl hk)))).trans' hTq (fun k hk e => by omega)
end Go.Proofs.Ytkiccdgfhahdlaa
