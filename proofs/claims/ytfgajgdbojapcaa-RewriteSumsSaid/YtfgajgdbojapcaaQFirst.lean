/- A law on regions that draw their order: a call that leaves all but the draws as it was may be taken first, where what else may come up only makes memory. No conditions but those stated. -/
import Derived.OrdersHeld
import Derived.Deep.Draws
import Derived.Deep.RegionHeld
namespace Go.Proofs.Ytfgajgdbojapcaa
open Go
set_option linter.unusedVariables false
set_option linter.unusedSimpArgs false

section
variable {P : Program} {ops : Array Oper} {Q : Exit → Act → World → Prop} {md : Region.Mode} {S : World → Prop}

/-- It makes memory, and minds no draw. -/
def Deaf (P : Program) (o : Oper) : Prop := o.guard = none ∧ (∀ cs b, o.op ≠ .select cs b) ∧ ∀ (a : Act) (w : World), ¬ o.asks P a w ∧ ∃ (v : Value) (w1 : World), ∀ k, (execOp a.eval o).run P (w.drewN k) = .ok (.value v) (w1.drewN k)
/-- A call that answers v and draws. -/
def YieldsQ (P : Program) (ops : Array Oper) (S : World → Prop) (o : Oper) (v : Value) (a : Act) : Prop :=
  Region.wanted o (yielded ops a.tmps) = true ∧ ∃ f args, ∀ w, S w → (execOp a.eval o).run P w = .ok (.enter f args) w ∧ Calls P f args w (fun e w' => e = .returned v ∧ ∃ k, w' = w.drewN k)
theorem YieldsQ.wpOp {i : Nat} {o : Oper} {v : Value} {a : Act} (hi : ops[i]? = some o) (hy : YieldsQ P ops S o v a) {K : Act → World → Prop} {w : World} (hS : S w) (h : ∀ k, K (a.put o.dst v) (w.drewN k)) : wpOp P ops Q i K a w := by
  obtain ⟨hw, f, args, hc⟩ := hy
  obtain ⟨h1, h2⟩ := hc w hS
  unfold Go.wpOp
  simp only [hi, hw, if_true]
  left
  unfold Oper.wp
  rw [h1, Oper.upon_enter]
  refine h2.mono ?_
  rintro e w' ⟨rfl, k, rfl⟩
  exact h k
theorem YieldsQ.of_same {o : Oper} {v : Value} {a a' : Act} (hy : YieldsQ P ops S o v a) (he : execOp a'.eval o = execOp a.eval o) (hw : Region.wanted o (yielded ops a'.tmps) = Region.wanted o (yielded ops a.tmps)) : YieldsQ P ops S o v a' := by
  unfold YieldsQ at *
  rw [he, hw]
  exact hy
theorem wanted_free {o : Oper} (h : o.guard = none) (f : Nat → Option Bool) : Region.wanted o f = true := by
  unfold Region.wanted
  rw [h]

theorem wpAnyH_quiet {i : Nat} {oi : Oper} {v : Value} {blk : List Nat} (hi : ops[i]? = some oi) (hsi : ∀ cs b, oi.op ≠ .select cs b) (hSd : ∀ w k, S w → S (w.drewN k))
    (hblk : ∀ j ∈ blk, ∀ oj, ops[j]? = some oj → ∃ e ∈ oj.after, Region.binds md e = true ∧ (e.on = i ∨ e.on ∈ blk)) :
    ∀ (fuel : Nat) (listed : Array Bool) (a : Act) (w : World), (∀ j ∈ blk, listed.getD j false = false) →
      (∀ j oj, ops[j]? = some oj → j ≠ i → listed.getD j true = false → j ∉ blk → oi.apart ops oj = true ∧ Deaf P oj) →
      i ∈ Region.ready md ops listed → YieldsQ P ops S oi v a → S w →
      (∀ k, wpAnyH P md ops Q S fuel (listed.setIfInBounds i true) (a.put oi.dst v) (w.drewN k)) → wpAnyH P md ops Q S (fuel + 1) listed a w := by
  intro fuel
  induction fuel with
  | zero =>
    intro listed a w _ _ hr hy hS H
    refine ⟨fun h => (by rw [h] at hr; cases hr), fun j hj => ?_⟩
    by_cases hji : j = i
    · subst hji; exact hy.wpOp hi hS (fun k => ⟨hSd _ k hS, H k⟩)
    · have := ready_mono hj hji
      rw [(H 0).1] at this
      cases this
  | succ fuel ih =>
    intro listed a w hbl hfree hr hy hS H
    refine ⟨fun h => (by rw [h] at hr; cases hr), fun j hj => ?_⟩
    by_cases hji : j = i
    · subst hji; exact hy.wpOp hi hS (fun k => ⟨hSd _ k hS, H k⟩)
    · obtain ⟨hjun, oj, hoj, hall⟩ := mem_ready.1 hj
      have hi0 : listed.getD i false = false := by
        have h0 := (mem_ready.1 hr).1
        rcases Nat.lt_or_ge i listed.size with h' | h'
        · simp [h'] at h0 ⊢; exact h0
        · simp [Array.getElem?_eq_none h']
      have hjb : j ∉ blk := fun hb => by
        obtain ⟨e, he, hbi, ho⟩ := hblk j hb oj hoj
        have h1 := hall e he hbi
        rcases ho with ho | ho
        · rw [ho, hi0] at h1; cases h1
        · rw [hbl _ ho] at h1; cases h1
      obtain ⟨hap, hg, hsj, hd⟩ := hfree j oj hoj hji hjun hjb
      obtain ⟨h1, h2, h3⟩ := Oper.apart_spec hap
      obtain ⟨hna, v1, w1, hrun⟩ := hd a w
      have step : ∀ k, S (w1.drewN k) ∧ wpAnyH P md ops Q S fuel ((listed.setIfInBounds j true).setIfInBounds i true) ((a.put oj.dst v1).put oi.dst v) (w1.drewN k) := fun k => by
        have hk := (H k).2 j (ready_mono hj hji)
        unfold wpOp at hk
        simp only [hoj, wanted_free hg, if_true] at hk
        rcases hk with hk | ⟨ha, _⟩
        · unfold Oper.wp at hk
          rw [execOp_put oj hsj a oi.dst v h1, hrun k, Oper.upon_value] at hk
          refine ⟨hk.1, ?_⟩
          rw [Array.setIfInBounds_comm _ _ hji, ← Act.put_comm a v v1 h2]
          exact hk.2
        · exact absurd ha (hd _ _).1
      unfold wpOp
      simp only [hoj, wanted_free hg, if_true]
      left
      unfold Oper.wp
      have h0 := hrun 0
      rw [World.drewN_zero, World.drewN_zero] at h0
      rw [h0, Oper.upon_value]
      have hS1 : S w1 := (step 0).1
      refine ⟨hS1, ih (listed.setIfInBounds j true) (a.put oj.dst v1) w1 ?_ ?_ (ready_mono hr (Ne.symm hji)) (hy.of_same (execOp_put oi hsi a oj.dst v1 h3) (wanted_put oi a oj.dst v1 h3)) hS1 (fun k => (step k).2)⟩
      · intro m hm
        have hne : j ≠ m := fun e => hjb (e ▸ hm)
        rw [getD_set_ne false hne]
        exact hbl m hm
      · intro m om hm hmi hun hmb
        refine hfree m om hm hmi ?_ hmb
        by_cases hjm : j = m
        · subst hjm; exact hjun
        · rw [getD_set_ne true hjm] at hun; exact hun

/-- The same, with what the kernel reckons as Bools. -/
theorem wpAnyH_call {i : Nat} {oi : Oper} {v : Value} (blk rest : List Nat) {fuel : Nat} {listed : Array Bool} {a : Act} {w : World} (hi : ops[i]? = some oi) (hs : Region.noSelect ops = true) (hSd : ∀ w k, S w → S (w.drewN k))
    (hblk : (blk.all fun j => match ops[j]? with | some oj => (oj.after.any fun e => Region.binds md e && (e.on == i || blk.contains e.on)) && !(listed.getD j false) | none => !(listed.getD j false)) = true)
    (hrest : ((List.range ops.size).all fun j => j == i || listed.getD j true || blk.contains j || rest.contains j) = true)
    (hdeaf : ∀ j ∈ rest, ∀ oj, ops[j]? = some oj → oi.apart ops oj = true ∧ Deaf P oj)
    (hr : (Region.ready md ops listed).contains i = true) (hy : YieldsQ P ops S oi v a) (hS : S w)
    (h : ∀ k, wpAnyH P md ops Q S fuel (listed.setIfInBounds i true) (a.put oi.dst v) (w.drewN k)) : wpAnyH P md ops Q S (fuel + 1) listed a w := by
  rw [List.all_eq_true] at hblk hrest
  refine wpAnyH_quiet (blk := blk) hi (fun cs b => Region.noSelect_spec hs i oi cs b hi) hSd ?_ fuel listed a w ?_ ?_ (by simpa using hr) hy hS h
  · intro j hj oj ho
    have := hblk j hj
    simp only [ho, Bool.and_eq_true] at this
    obtain ⟨e, he, hb⟩ := Array.any_eq_true'.1 this.1
    simp only [Bool.and_eq_true, Bool.or_eq_true, beq_iff_eq, List.contains_iff_mem] at hb
    exact ⟨e, he, hb.1, hb.2⟩
  · intro j hj
    have := hblk j hj
    cases ho : ops[j]? with
    | none => simpa [ho] using this
    | some oj =>
      simp only [ho, Bool.and_eq_true, Bool.not_eq_true'] at this
      exact this.2
  · intro j oj ho hji hun hjb
    have := hrest j (List.mem_range.2 (Array.getElem?_eq_some_iff.1 ho).1)
    simp only [Bool.or_eq_true, beq_iff_eq, List.contains_iff_mem] at this
    rcases this with ((h1 | h1) | h1) | h1
    · exact absurd h1 hji
    · rw [hun] at h1; cases h1
    · exact absurd h1 hjb
    · exact hdeaf j h1 oj ho
/-- The two laws, with the place of the answer said. -/
theorem takeD {i d : Nat} {oi : Oper} {v : Value} {fuel : Nat} {listed : Array Bool} {a : Act} {w : World} (hi : ops[i]? = some oi) (hd : oi.dst = some d)
    (hs : Region.noSelect ops = true) (hf : Region.free md ops listed i = true) (hr : (Region.ready md ops listed).contains i = true)
    (hQ : ∀ c a w, Q (.panic c) (a.put (some d) v) w → Q (.panic c) a w) (hg : oi.guard = none) (hy : ∀ w, S w → (execOp a.eval oi).run P w = .ok (.value v) w) (hS : S w)
    (h : wpAnyH P md ops Q S fuel (listed.setIfInBounds i true) (a.put (some d) v) w) : wpAnyH P md ops Q S (fuel + 1) listed a w :=
  wpAnyH_take hi hs hf hr (by rw [hd]; exact hQ) (.inl ⟨wanted_free hg _, hy⟩) hS (by rw [hd]; exact h)
theorem callD {i d : Nat} {oi : Oper} {v : Value} (blk rest : List Nat) {fuel : Nat} {listed : Array Bool} {a : Act} {w : World} (hi : ops[i]? = some oi) (hd : oi.dst = some d) (hs : Region.noSelect ops = true)
    (hblk : (blk.all fun j => match ops[j]? with | some oj => (oj.after.any fun e => Region.binds md e && (e.on == i || blk.contains e.on)) && !(listed.getD j false) | none => !(listed.getD j false)) = true)
    (hrest : ((List.range ops.size).all fun j => j == i || listed.getD j true || blk.contains j || rest.contains j) = true)
    (hr : (Region.ready md ops listed).contains i = true) (hSd : ∀ w k, S w → S (w.drewN k))
    (hdeaf : ∀ j ∈ rest, ∀ oj, ops[j]? = some oj → oi.apart ops oj = true ∧ Deaf P oj) (hg : oi.guard = none)
    (f : FuncId) (args : Array Value) (hy : ∀ w, (execOp a.eval oi).run P w = .ok (.enter f args) w) (hC : ∀ w, S w → Calls P f args w (fun e w' => e = .returned v ∧ ∃ k, w' = w.drewN k)) (hS : S w)
    (h : ∀ k, wpAnyH P md ops Q S fuel (listed.setIfInBounds i true) (a.put (some d) v) (w.drewN k)) : wpAnyH P md ops Q S (fuel + 1) listed a w :=
  wpAnyH_call blk rest hi hs hSd hblk hrest hdeaf hr ⟨wanted_free hg _, f, args, fun w hw => ⟨hy w, hC w hw⟩⟩ hS (by rw [hd]; exact h)
/-- One operation that answers a value. -/
theorem wpOp_value {i d : Nat} {o : Oper} {v : Value} {a : Act} {w w1 : World} {K : Act → World → Prop} (hi : ops[i]? = some o) (hd : o.dst = some d) (hg : o.guard = none) (hrun : (execOp a.eval o).run P w = .ok (.value v) w1) (h : K (a.put (some d) v) w1) : wpOp P ops Q i K a w := by
  rw [← hd] at h
  unfold wpOp
  simp only [hi, wanted_free hg, if_true]
  left
  unfold Oper.wp
  rw [hrun, Oper.upon_value]
  exact h
theorem wpOp_call {i d : Nat} {o : Oper} {a : Act} {w : World} {K : Act → World → Prop} {f : FuncId} {args : Array Value} (hi : ops[i]? = some o) (hd : o.dst = some d) (hg : o.guard = none) (hrun : (execOp a.eval o).run P w = .ok (.enter f args) w)
    (hC : Calls P f args w (fun e w' => ∃ v, e = .returned v ∧ K (a.put (some d) v) w')) : wpOp P ops Q i K a w := by
  rw [← hd] at hC
  unfold wpOp
  simp only [hi, wanted_free hg, if_true]
  left
  unfold Oper.wp
  rw [hrun, Oper.upon_enter]
  refine hC.mono ?_
  rintro e w' ⟨v, rfl, h⟩
  exact h
theorem wpOp_skip {i : Nat} {o : Oper} {a : Act} {w w1 : World} {K : Act → World → Prop} (hi : ops[i]? = some o) (hd : o.dst = none) (hg : o.guard = none) (hrun : (execOp a.eval o).run P w = .ok .skip w1) (h : K a w1) : wpOp P ops Q i K a w := by
  have h : K (a.put o.dst undef) w1 := by rw [hd]; exact h
  unfold wpOp
  simp only [hi, wanted_free hg, if_true]
  left
  unfold Oper.wp
  rw [hrun, Oper.upon_skip]
  exact h
end
end Go.Proofs.Ytfgajgdbojapcaa
