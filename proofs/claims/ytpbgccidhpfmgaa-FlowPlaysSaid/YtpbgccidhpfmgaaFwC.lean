/- The document's table: an entry cut out. Conditions: the place is one; at most 2^20 entries. -/
import Derived.Test.YtpbgccidhpfmgaaFwL
import Derived.Test.YtpbgccidhpfmgaaQStB
import Derived.Deep.RegionLaw
import Derived.Deep.AppendLies
namespace Go.Proofs.Ytpbgccidhpfmgaa
open Go Go.RowKit
set_option linter.unusedVariables false
set_option linter.unusedSimpArgs false

theorem addr_addE (g o i : Nat) : (⟨g, o, none⟩ : Addr).add i = ⟨g, o + i, none⟩ := by
  unfold Addr.add
  split
  · rename_i h0; rw [h0]; rfl
  · rfl
theorem cellsE_erase (l : List En) (j : Nat) : cellsE (l.eraseIdx j) = cellsE (l.take j) ++ cellsE (l.drop (j + 1)) := by
  rw [List.eraseIdx_eq_take_drop_succ, cellsE_app]
theorem cellsE_take (l : List En) (j : Nat) : (cellsE l).take (j * 10) = cellsE (l.take j) := by
  by_cases h : j ≤ l.length
  · conv => lhs; rw [← List.take_append_drop j l, cellsE_app]
    rw [List.take_append_of_le_length (by rw [cellsE_len, List.length_take]; omega), List.take_of_length_le (by rw [cellsE_len, List.length_take]; omega)]
  · rw [List.take_of_length_le (by rw [cellsE_len]; omega), List.take_of_length_le (by omega)]
theorem cellsE_drop (l : List En) (j : Nat) (h : j ≤ l.length) : (cellsE l).drop (j * 10) = cellsE (l.drop j) := by
  conv => lhs; rw [← List.take_append_drop j l, cellsE_app]
  rw [List.drop_append_of_le_length (by rw [cellsE_len, List.length_take]; omega), List.drop_of_length_le (by rw [cellsE_len, List.length_take]; omega)]
  rfl
theorem RtM.cellN {w : World} {B m n c : Nat} {qt qu : Int} {l : List En} {g : Nat} (h : RtM w B m qt qu l (some ⟨g, 0, none⟩) n c) {i : Nat} {u : Value} (hi : (cellsE l)[i]? = some u) : w.cell? ⟨g, i, none⟩ = some u := by
  have hl := h.row.1
  have hlt : i < (cellsE l).length := by
    rcases Nat.lt_or_ge i (cellsE l).length with h1 | h1
    · exact h1
    · rw [List.getElem?_eq_none h1] at hi; cases hi
  rcases h.row.2 with ⟨e, h0⟩ | ⟨g', cap, cur, e, _, hg, h1, h2, h3, h4⟩
  · cases e
  · cases e
    rw [cell_of_row w g i _ _ _ hg, ← Array.getElem?_toList, ← hi, ← h4, List.getElem?_take, if_pos (by omega)]
theorem RtM.takeN {w : World} {B m n c : Nat} {qt qu : Int} {l : List En} {g : Nat} (h : RtM w B m qt qu l (some ⟨g, 0, none⟩) n c) (j : Nat) : ∀ i u, (cellsE (l.take j))[i]? = some u → w.cell? ((⟨g, 0, none⟩ : Addr).add i) = some u := fun i u hu => by
  rw [addr_addE, Nat.zero_add]
  rw [← cellsE_take, List.getElem?_take] at hu
  split at hu
  · exact h.cellN hu
  · cases hu
theorem RtM.dropN {w : World} {B m n c : Nat} {qt qu : Int} {l : List En} {g : Nat} (h : RtM w B m qt qu l (some ⟨g, 0, none⟩) n c) (j : Nat) (hj : j ≤ l.length) : ∀ i u, (cellsE (l.drop j))[i]? = some u → w.cell? ((⟨g, j * 10, none⟩ : Addr).add i) = some u := fun i u hu => by
  rw [addr_addE]
  rw [← cellsE_drop l j hj, List.getElem?_drop] at hu
  exact h.cellN hu
theorem frozen_keepE {T : Nat → Prop} {w w' : World} {p : Nat} {v : Value} (ht : Tch T w w') (hc : w.cell? ⟨p, 0, none⟩ = some v) (hn : ¬ T p) (o : Nat) : w'.frozen? ⟨p, o, none⟩ = w.frozen? ⟨p, o, none⟩ := by
  unfold World.frozen?
  rw [ht.block p (block_lt_of_cell hc) hn]
set_option maxRecDepth 100000 in
set_option maxHeartbeats 4000000 in
theorem refCut_c (B m : Nat) (F : Nat → Prop) (qt qu : Int) (l : List En) (j : Nat) (w : World) (hR : RtS w B F m qt qu l) (hB : B ≤ w.heap.size) (hj : j < l.length) (hn : l.length ≤ 1048576) :
    Calls Try.prog 60 #[.pointer (some ⟨m, 0, none⟩), .int .i64 j] w fun e w' => e = .returned (.tuple #[]) ∧ ∃ F2, RtTo w B F m qt qu (l.eraseIdx j) F2 w' := by
  obtain ⟨j0, hj0, hy0, hy1, hy2⟩ := info_parts infoE
  obtain ⟨ao, N, c, hM, hF⟩ := hR.here
  have hN := ownE_len hM.row
  obtain ⟨g, rfl, _, _⟩ := ownE_cell hM.row (j := j) (by omega)
  have hcap : N ≤ c := by
    rcases hM.row.2 with ⟨e, _⟩ | ⟨g', cap', cur, e, _, _, h1, _⟩
    · cases e
    · cases e
      exact h1
  have e0 := hM.c0
  have ef := hM.free
  have HM := Lib.hid hM
  have HF := Lib.hid hF
  have HBB := Lib.hid hB
  have hmY : m < w.heap.size := hM.lt
  have i1 : (0 : Int) ≤ (j : Int) := by omega
  have i2 : (j : Int) ≤ (c : Int) := by omega
  have i3 : (j : Int) + 1 ≤ (N : Int) := by omega
  have i4 : (j : Int) + 1 ≤ (c : Int) := by omega
  have i5 : (0 : Int) ≤ (j : Int) + 1 := by omega
  have i6 : (N : Int) ≤ (c : Int) := by omega
  have vj : ∀ [Inhabited Nat], IntKind.i64.wrap ((j : Int) + 1) = (j : Int) + 1 := by intro _; exact IntWalk.i64_in _ (by omega)
  have HD : Hid (Below w.heap.size w (w.alloc (.cells #[] tyE)).drew) := Lib.hid ((bl_al (Below.refl _ _) _).drew)
  have own0 := Lib.hid (World.ownsRow_made (base := w.heap.size) (e := tyE) (size := 10) w #[] 0 (Nat.le_refl _) (by decide) rfl)
  have HON := Lib.hid (cellsE_one1 (l.take j))
  have HON2 := Lib.hid (cellsE_one1 (l.drop (j + 1)))
  have HL1 : Hid ((cellsE (l.take j)).length = j * 10) := Lib.hid (by rw [cellsE_len, List.length_take]; omega)
  have HL2 : Hid ((cellsE (l.drop (j + 1))).length = (N - (j + 1)) * 10) := Lib.hid (by rw [cellsE_len, List.length_drop]; omega)
  have HC1 := Lib.hid (fun U (ht : Tch Non w U) i u hu => ht.cell ((hM.takeN j) i u hu) (fun h => h))
  have HC2 := Lib.hid (fun U (ht : Tch Non w U) i u hu => ht.cell ((hM.dropN (j + 1) (by omega)) i u hu) (fun h => h))
  have HTD := Lib.hid (tch_new HD.out)
  have e01 := HTD.out.cell e0 (fun h => h)
  have HC3 : Hid (∀ U, Tch Non w U → ∀ ad, (if c = j + 1 then some (⟨g, 0, none⟩ : Addr) else some ⟨g, (j + 1) * 10, none⟩) = some ad → ∀ i u, (cellsE (l.drop (j + 1)))[i]? = some u → U.cell? (ad.add i) = some u) := Lib.hid (fun U ht ad e i u hu => by
    split at e
    · have hz : (cellsE (l.drop (j + 1))).length = 0 := by rw [HL2.out]; omega
      rw [List.getElem?_eq_none (by omega)] at hu
      cases hu
    · cases e
      exact HC2.out U ht i u hu)
  have HNN : Hid ((if c = j + 1 then some (⟨g, 0, none⟩ : Addr) else some ⟨g, (j + 1) * 10, none⟩) = none → N - (j + 1) = 0 ∧ c - (j + 1) = 0) := Lib.hid (fun e => by split at e <;> cases e)
  have HFR := Lib.hid (fun U (ht : Tch Non w U) => (frozen_keepE ht e0 (fun h => h) 0).trans ef)
  have HER := Lib.hid (cellsE_erase l j)
  have HLN := Lib.hid (And.intro hN hn)
  have hN20 : N ≤ 1048576 := by omega
  have hjN : j < N := by omega
  clear hM hF hR hN hn hB
  go_enter Try.func60, Try.ntmps60
  go_region_law (first
    | (refine step_append_own_any rfl (.tmp 5) (.tmp 11) 32 rfl w.heap.size tyE j0 (.agg #[.int .i64 0, .int .u32 0, .int .i64 0, .int .u32 0, .int .i64 0, .int .u32 0, .int .i64 0, .bool false, .bool false, .int .i64 0]) 10 72 Try.underlying32 hj0 hy0 hy1 hy2 rfl (by decide) _ 0 [] rfl own0.out _ j _ (cellsE (l.take j)) rfl HL1.out (fun e => by cases e) (fun ad e i u hu => by cases e; exact HC1.out _ HTD.out i u hu) HON.out (by unfold maxLen; omega) (by omega) (by simp) ?_; intro v7 w7 hown7 hg7; simp only [Nat.zero_add, List.nil_append] at hown7 ⊢; obtain ⟨a7, c7, rfl⟩ := own_form hown7; have hb7 := HD.out.grown hg7 (by simp) (fun k hk => by cases hk; exact Nat.le_refl _); have e07 := cell_later hb7 e0; have ht7 := tch_new hb7)
    | (refine step_append_own_any rfl (.tmp 12) (.tmp 19) 32 rfl w.heap.size tyE j0 (.agg #[.int .i64 0, .int .u32 0, .int .i64 0, .int .u32 0, .int .i64 0, .int .u32 0, .int .i64 0, .bool false, .bool false, .int .i64 0]) 10 72 Try.underlying32 hj0 hy0 hy1 hy2 rfl (by decide) _ j (cellsE (l.take j)) rfl hown7 _ (N - (j + 1)) _ (cellsE (l.drop (j + 1))) rfl HL2.out HNN.out (HC3.out _ ht7) HON2.out (by unfold maxLen; omega) (by omega) (by have := hb7.size; simp; omega) ?_; intro v8 w8 hown8 hg8; obtain ⟨a8, c8, rfl⟩ := own_form hown8; have hb8 := hb7.grown hg8 hb7.size (fun k hk => (hown7.lt k hk).1); have e08 := cell_later hb8 e0; have ef8 := HFR.out _ (tch_new hb8))
    | fail)
  all_goals
    rw [← HER.out] at hown8
    obtain ⟨hM9, hT9⟩ := HM.out.put HBB.out hb8 hown8
    have HQ : Hid (∃ F2, RtTo w B F m qt qu (l.eraseIdx j) F2 (w8.setCell ⟨m, 0, none⟩ (.slice a8 (j + (N - (j + 1))) c8))) := Lib.hid (by
      refine ⟨fun k => k = m ∨ (Value.slice a8 (j + (N - (j + 1))) c8).ownBlock = some k, ⟨⟨_, _, _, hM9, fun k => Iff.rfl⟩, fun k hk => ?_, hT9.mono (fun k hk => (HF.out k).2 (.inl hk))⟩⟩
      rcases hk with hk | hk
      · exact .inl ((HF.out k).2 (.inl hk))
      · exact .inr (own_blkE hown8 hk))
    clear hown7 hg7 hb7 e07 ht7 hown8 hg8 hb8 e08 hM9 hT9 e0 e01 hmY vj i1 i2 i3 i4 i5 i6 own0 HON HON2 HL1 HL2 HC1 HC2 HC3 HNN HFR HTD HD
    go_wp2
    all_goals
      go_end0
      exact ⟨rfl, HQ.out⟩
end Go.Proofs.Ytpbgccidhpfmgaa
