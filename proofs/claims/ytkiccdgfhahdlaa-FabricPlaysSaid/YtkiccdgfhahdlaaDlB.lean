/- Contract of slices.Delete of one letter. Conditions: the row is the call's own. -/
import Derived.Test.YtkiccdgfhahdlaaDlA
import Derived.Test.YtkiccdgfhahdlaaRfU
import Derived.Deep.RegionLaw
import Derived.Lib.SliceRun
namespace Go.Proofs.Ytkiccdgfhahdlaa
open Go Go.RowKit
set_option linter.unusedVariables false
set_option linter.unusedSimpArgs false

abbrev zL : List Value := [.int .i64 0, .int .i64 0, .int .i64 0, .bool false, .slice none 0 0]
theorem zeroVL (w : World) : (zeroValue tyL).run Try.prog w = .ok (.agg #[.int .i64 0, .int .i64 0, .int .i64 0, .bool false, .slice none 0 0]) w := by kernel_rfl
/-- clear of one letter. -/
theorem run_clear1 (w : World) (ty : TypeId) (b o c : Nat) (hc : ∀ j, j < 5 → (w.cell? ⟨b, o + j, none⟩).isSome = true) (hf : ∀ j, j < 5 → w.frozen? ⟨b, o + j, none⟩ = false) :
    (Builtin.clear_ #[28] ty #[.slice (some ⟨b, o, none⟩) 1 c]).run Try.prog w = .ok (.tuple #[]) (w.setCells b o zL) := by
  have hst := run_storeCells_cells (P := Try.prog) b o zL 0 w (by simpa using hc) (by simpa using hf) (by intro v hv'; simp only [List.mem_cons, List.not_mem_nil, or_false] at hv'; rcases hv' with rfl | rfl | rfl | rfl | rfl <;> rfl)
  simp only [Nat.add_zero] at hst
  simp [Builtin.clear_, run_underlying Try.underlying28, zeroVL, Value.cells, Builtin.zeroCells]
  have e : (List.map (fun i => zL[i % 5]?.getD default) (List.range 5)) = zL := rfl
  unfold zL at e hst ⊢
  rw [e, hst]
  rfl
set_option maxRecDepth 100000 in
set_option maxHeartbeats 2000000 in
theorem delete_t (B g n c j : Nat) (ls : List Lt) (vs : List Value) (w : World) (h : w.ownsRow B tyL 5 (.slice (some ⟨g, 0, none⟩) n c) n (cellsL ls vs)) (hv : vs.length = ls.length) (h1c : ∀ v ∈ vs, v.oneCell' = true) (hj : j < n) (hn : n ≤ 4611686018427387904) :
    Calls Try.prog 41 #[.slice (some ⟨g, 0, none⟩) n c, .int .i64 j, .int .i64 ((j : Int) + 1)] w fun e w' => e = .returned (.slice (some ⟨g, 0, none⟩) (n - 1) c) ∧ w'.ownsRow B tyL 5 (.slice (some ⟨g, 0, none⟩) (n - 1) c) (n - 1) (cellsL (ls.eraseIdx j) (vs.eraseIdx j)) ∧ Tch (· = g) w w' := by
  obtain ⟨jL, hjL, hy0, hy1, hy2⟩ := info_parts infoL
  have hl : n = ls.length := by have := h.1; rw [cellsL_len hv] at this; omega
  have hcap : n ≤ c := by
    rcases h.2 with ⟨e, _⟩ | ⟨g', cap, cur, e, _, _, h1, _⟩
    · cases e
    · cases e; exact h1
  have hd : w.drew.ownsRow B tyL 5 (.slice (some ⟨g, 0, none⟩) n c) n (cellsL ls vs) := h
  obtain ⟨news, hnews⟩ : ∃ news, news = cellsL (ls.drop (j + 1)) (vs.drop (j + 1)) := ⟨_, rfl⟩
  have hnl : news.length = (n - (j + 1)) * 5 := by rw [hnews, cellsL_len (by rw [List.length_drop, List.length_drop, hv]), List.length_drop, hl]
  obtain ⟨A, hA, hsrc⟩ : ∃ A : Addr, (if c = j + 1 then some (⟨g, 0, none⟩ : Addr) else some ⟨g, (j + 1) * 5, none⟩) = some A ∧ Hid (∀ t u, news[t]? = some u → w.drew.cell? (A.add t) = some u) := by
    by_cases hc : c = j + 1
    · refine ⟨⟨g, 0, none⟩, by simp [hc], fun t u hu => ?_⟩
      have h0 : news.length = 0 := by rw [hnl]; omega
      rw [List.length_eq_zero_iff.1 h0] at hu
      simp at hu
    · refine ⟨⟨g, (j + 1) * 5, none⟩, by simp [hc], fun t u hu => ?_⟩
      rw [addr_add]
      have hlt : t < news.length := by
        rcases Nat.lt_or_ge t news.length with h9 | h9
        · exact h9
        · rw [List.getElem?_eq_none h9] at hu; cases hu
      rw [hd.cellAt ((j + 1) * 5 + t) (by omega), ← hu, hnews, ← cellsL_drop hv, List.getElem?_drop]
  have s1 : Hid (news.length = (n - (j + 1)) * 5) := Lib.hid hnl
  have s2 : Hid (∀ u ∈ news, u.oneCell' = true) := Lib.hid (by rw [hnews]; exact cellsL_one1 (fun v hv => h1c v (List.mem_of_mem_drop hv)))
  have s3 : Hid (∀ t, t < news.length → (w.drew.cell? ⟨g, 0 + j * 5 + t, none⟩).isSome = true ∧ w.drew.frozen? ⟨g, 0 + j * 5 + t, none⟩ = false) := Lib.hid (fun t ht => by
    rw [Nat.zero_add]
    refine ⟨?_, hd.frozenAt _⟩
    rw [hd.cellAt (j * 5 + t) (by omega), List.getElem?_eq_getElem (by rw [h.1]; omega)]
    rfl)
  obtain ⟨W1, hW1⟩ : ∃ W1, W1 = w.drew.setCells g (0 + j * 5) news := ⟨_, rfl⟩
  have hr1 : W1.ownsRow B tyL 5 (.slice (some ⟨g, 0, none⟩) (n - 1) c) (n - 1) (cellsL (ls.eraseIdx j) (vs.eraseIdx j)) := by
    rw [hW1, Nat.zero_add, hnews]
    exact del_row hd hv hj
  have ht1 : Tch (· = g) w W1 := by rw [hW1]; exact ((tch_new (Below.refl w.heap.size w).drew).mono (fun _ h => h.elim)).trans (setCells_tch g news (0 + j * 5) w.drew)
  obtain ⟨k, rfl⟩ : ∃ k, n = k + 1 := ⟨n - 1, by omega⟩
  simp only [Nat.add_sub_cancel] at hr1 ⊢
  have hcell : ∀ t, t < 5 → (W1.cell? ⟨g, k * 5 + t, none⟩).isSome = true ∧ W1.frozen? ⟨g, k * 5 + t, none⟩ = false := fun t ht => by
    refine ⟨?_, hr1.frozenAt _⟩
    rcases hr1.2 with ⟨e, _⟩ | ⟨g', cap, cur, e, _, hg, _, _, h3, _⟩
    · cases e
    · cases e
      rw [cell_of_row W1 g (k * 5 + t) _ _ _ hg, Array.getElem?_eq_getElem (by omega)]
      rfl
  have hcl := fun ty => run_clear1 W1 ty g (k * 5) (c - k) (fun t ht => (hcell t ht).1) (fun t ht => (hcell t ht).2)
  have hr2 := tail_row hr1 zL (Nat.le_refl _) (show k * 5 + 5 ≤ c * 5 by omega)
  have HE := Lib.hid (And.intro hr2 (ht1.trans (setCells_tch g zL (k * 5) W1)))
  have hW : Hid (W1 = w.drew.setCells g (0 + j * 5) news) := Lib.hid hW1
  have q0 : ((j : Int) == (j : Int) + 1) = false := by rw [beq_eq_false_iff_ne]; omega
  have i1 : (0 : Int) ≤ (j : Int) := by omega
  have i2 : (j : Int) ≤ (c : Int) := by omega
  have i3 : (j : Int) + 1 ≤ (k : Int) + 1 := by omega
  have i4 : (j : Int) ≤ (j : Int) + 1 := by omega
  have i5 : (j : Int) + 1 ≤ (c : Int) := by omega
  have i6 : (k : Int) + 1 ≤ (c : Int) := by omega
  have i7 : (k : Int) ≤ (k : Int) + 1 := by omega
  have i8 : (k : Int) ≤ (c : Int) := by omega
  have i9 : ¬ c = k := by omega
  have hjk : j + (k - j) = k := by omega
  have i10 : (0 : Int) ≤ (j : Int) + 1 := by omega
  have S1 : Hid (news.length = (k - j) * 5) := Lib.hid (by rw [s1.out]; omega)
  have HA := Lib.hid hA
  clear h hv h1c hl hd hnews hnl hA hW1 hr1 ht1 hcell hr2
  go_enter Try.func41, Try.ntmps41
  go_upto_region 5 with fail
  go_region_law (first
    | (refine step_append_room rfl (.tmp 22) (.tmp 25) 28 rfl tyL jL 5 Try.underlying28 hjL hy1 g 0 j c rfl A (k - j) (c - (j + 1)) news (congrArg (fun x => Value.slice x (k - j) (c - (j + 1))) HA.out) S1.out hsrc.out s2.out (by omega) s3.out ?_; rw [hjk, ← hW.out])
    | fail)
  all_goals
    clear s1 S1 s2 s3 hsrc hW
    go_wp2
    all_goals
      go_ret
      first
        | exact ⟨rfl, HE.out.1, HE.out.2⟩
        | (subst h; exact ⟨rfl, HE.out.1, HE.out.2⟩)
end Go.Proofs.Ytkiccdgfhahdlaa
