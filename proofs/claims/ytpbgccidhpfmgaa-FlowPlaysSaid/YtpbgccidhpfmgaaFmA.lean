/- A map from flows to entries: what it reads as, in memory. No conditions but those stated. -/
import Derived.Test.YtpbgccidhpfmgaaFcS
import Derived.Maps.OwnSet
import Derived.Maps.RangeWalk
import Derived.DeepKeys4
namespace Go.Proofs.Ytpbgccidhpfmgaa
open Go Go.RowKit Go.Maps
set_option linter.unusedVariables false
set_option linter.unusedSimpArgs false

abbrev DE := DataW En
abbrev tyM : TypeId := 106
abbrev tyT : TypeId := 108
theorem laidF : laidOutB Try.prog = true := by kernel_rfl
theorem rowF : (tyF : TypeId) < Try.prog.types.size := of_decide_eq_true (by kernel_rfl)
theorem wideF : (match Try.prog.underlying tyF with | some (.array _ _) | some (.struct _) => true | _ => false) = true := by rw [Try.underlying38]
set_option maxRecDepth 100000 in
theorem lawF : Keyed Try.prog tyF := Keyed.of_law (deep_law_laid laidF (m := 3) (by omega) rowF (by kernel_rfl) wideF)
theorem zeroM (w : World) : (zeroValue tyE).run Try.prog w = .ok en0.val w := by kernel_rfl
def KeyAt (f : Fl) (kl : Lit) : Prop := keyOf Try.prog tyF f.val = some kl
theorem val_inj {f g : Fl} (h : f.val = g.val) : f = g := by
  cases f; cases g
  simp only [Fl.val, Value.agg.injEq, Array.mk.injEq, List.cons.injEq, Value.int.injEq] at h
  obtain ⟨⟨_, rfl⟩, ⟨_, rfl⟩, ⟨_, rfl⟩, ⟨_, rfl⟩, ⟨_, rfl⟩, _⟩ := h
  rfl
theorem KeyAt.inj {f g : Fl} {kl : Lit} (h : KeyAt f kl) (h2 : KeyAt g kl) : f = g := val_inj (lawF.inj h h2)
theorem KeyAt.ne {f g : Fl} {kl kg : Lit} (h : KeyAt f kl) (h2 : KeyAt g kg) (hn : g ≠ f) : kg ≠ kl := fun e => hn (h2.inj (e ▸ h))
theorem KeyAt.one {f : Fl} {kl kg : Lit} (h : KeyAt f kl) (h2 : KeyAt f kg) : kl = kg := by unfold KeyAt at *; rw [h] at h2; exact Option.some.inj h2
theorem wfN {n : Int} (h : InN n) : (Lit.int .i64 n).wf = true := WalkArith.wf_i64 (by unfold InN at h; omega)
theorem wf32 {n : Int} (h : In32 n) : (Lit.int .u32 n).wf = true := by unfold In32 at h; simp [Lit.wf, IntKind.min, IntKind.max, IntKind.bits, IntKind.signed]; omega
theorem keyT : Try.prog.keyType tyF = true := by kernel_rfl
theorem formF (f : Fl) : f.val.formed Try.prog tyF = true := by
  have : Try.prog.cellsOf tyF = 5 := by kernel_rfl
  simp [Value.formed, Try.underlying38, this]
set_option maxRecDepth 100000 in
theorem keyF {f : Fl} (h : FitF f) : ∃ kl, KeyAt f kl := by
  have h0 := wfN h.p
  have h1 := wf32 h.s
  have h2 := wfN h.sp
  have h3 := wf32 h.d
  have h4 := wfN h.dp
  have c5 : Try.prog.cellsOf tyF = 5 := by kernel_rfl
  have ci : Try.prog.cellsOf 3 = 1 := by kernel_rfl
  have ca : Try.prog.cellsOf 36 = 1 := by kernel_rfl
  obtain ⟨m, hm⟩ : ∃ m, Try.prog.types.size + 1 = m + 1 + 1 := by
    have h9 : 0 < Try.prog.types.size := Nat.lt_of_le_of_lt (Nat.zero_le _) rowF
    generalize Try.prog.types.size = n at h9
    exact ⟨n - 1, by omega⟩
  unfold KeyAt keyOf
  simp only [Try.underlying38]
  rw [if_pos (by rw [keyT, formF]; rfl), hm]
  unfold Program.keyLits
  simp only [Try.underlying38, Value.cells]
  rw [if_pos ⟨by rw [c5]; rfl, by simp⟩]
  simp [Program.keyLits, Try.underlying3, Try.underlying36, ci, ca, h0, h1, h2, h3, h4]
/-- How an entry reads. -/
def enOf : List Value → Option En
  | [.int .i64 p, .int .u32 s, .int .i64 sp, .int .u32 d, .int .i64 dp, .int .u32 dip, .int .i64 ep, .bool tr, .bool cl, .int .i64 la] => some ⟨⟨p, s, sp, d, dp⟩, dip, ep, tr, cl, la⟩
  | _ => none
def rdE (v : Value) : Option (DE × List MemPlace) := match v with
  | .agg a => (enOf a.toList).map fun e => (.held e, [])
  | _ => none
theorem rdE_val (e : En) : rdE e.val = some (.held e, []) := rfl
theorem enOf_inv {l : List Value} {e : En} (h : enOf l = some e) : l = csE e := by
  unfold enOf at h
  split at h
  · cases h; rfl
  · cases h
theorem rdE_inv {v : Value} {y : DE × List MemPlace} (h : rdE v = some y) : ∃ e : En, v = e.val ∧ y = (.held e, []) := by
  unfold rdE at h
  split at h
  · rename_i a
    obtain ⟨e, h1, rfl⟩ := Option.map_eq_some_iff.1 h
    refine ⟨e, ?_, rfl⟩
    have := enOf_inv h1
    have h2 : a = (csE e).toArray := by rw [← this]
    rw [h2]
    rfl
  · cases h
set_option maxRecDepth 100000 in
theorem keyF_inv {key : Value} {kl : Lit} (h : keyOf Try.prog tyF key = some kl) : ∃ x : Fl, key = x.val ∧ KeyAt x kl := by
  have h0 := h
  have c5 : Try.prog.cellsOf tyF = 5 := by kernel_rfl
  have ci : Try.prog.cellsOf 3 = 1 := by kernel_rfl
  have ca : Try.prog.cellsOf 36 = 1 := by kernel_rfl
  have ui := Try.underlying3
  have ua := Try.underlying36
  have one : ∀ (d : Nat) (t : TypeId) (q : IntKind) (v : Value) (ls : List Lit), Try.prog.underlying t = some (.int q) → Try.prog.keyLits d t [v] = some ls → ∃ n, v = .int q n := by
    intro d t q v ls ht h
    cases d with
    | zero => simp [Program.keyLits] at h
    | succ d =>
      unfold Program.keyLits at h
      simp only [ht] at h
      split at h <;> first | cases h | skip
      all_goals simp_all
  unfold keyOf at h
  simp only [Try.underlying38] at h
  split at h
  · rename_i hc
    simp only [Bool.and_eq_true] at hc
    obtain ⟨_, hf⟩ := hc
    unfold Value.formed at hf
    split at hf
    · rename_i cs
      simp only [Try.underlying38, c5, beq_iff_eq] at hf
      obtain ⟨l⟩ := cs
      simp only [List.size_toArray] at hf
      match l, hf with
      | [v0, v1, v2, v3, v4], _ =>
        obtain ⟨ls, h1, _⟩ := Option.map_eq_some_iff.1 h
        unfold Program.keyLits at h1
        simp only [Try.underlying38, Value.cells] at h1
        rw [if_pos ⟨by rw [c5]; rfl, by simp⟩] at h1
        simp only [ci, ca, List.mapM_cons, List.mapM_nil, List.drop, List.take, Option.map_eq_some_iff, Option.bind_eq_bind, Option.bind_eq_some_iff, Option.pure_def, Option.some.injEq] at h1
        obtain ⟨_, ⟨l0, e0, _, ⟨l1, e1, _, ⟨l2, e2, _, ⟨l3, e3, _, ⟨l4, e4, _⟩, _⟩, _⟩, _⟩, _⟩, _⟩ := h1
        obtain ⟨p, rfl⟩ := one _ _ _ _ _ ui e0
        obtain ⟨s, rfl⟩ := one _ _ _ _ _ ua e1
        obtain ⟨sp, rfl⟩ := one _ _ _ _ _ ui e2
        obtain ⟨d, rfl⟩ := one _ _ _ _ _ ua e3
        obtain ⟨dp, rfl⟩ := one _ _ _ _ _ ui e4
        exact ⟨⟨p, s, sp, d, dp⟩, rfl, h0⟩
    · cases hf
    · simp [Try.underlying38] at hf
  · cases h
end Go.Proofs.Ytpbgccidhpfmgaa
