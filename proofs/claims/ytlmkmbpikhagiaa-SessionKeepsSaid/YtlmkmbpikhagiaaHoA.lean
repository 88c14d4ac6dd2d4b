/- A listener by itself.
 Conditions: those stated. -/
import Derived.Test.YtlmkmbpikhagiaaSeP
namespace Go.Proofs.Ytlmkmbpikhagiaa
open Go Go.RowKit Go.Lib
set_option linter.unusedVariables false
set_option linter.unusedSimpArgs false

/-- A listener in new memory. -/
def L1 (w0 w : World) (p : Nat) (l : List Se) : Prop := Below w0.heap.size w0 w ∧ (∃ F, LiS w F w0.heap.size p l) ∧ Few l
section
variable {w0 w w' : World} {p : Nat} {l l' : List Se}
theorem L1.below (h : L1 w0 w p l) (hb : Below w.heap.size w w') : L1 w0 w' p l := by
  obtain ⟨h0, ⟨F, hl⟩, hf⟩ := h
  exact ⟨bl_tr h0 hb, ⟨F, hl.below hb⟩, hf⟩
theorem L1.to {F : Nat → Prop} (h0 : Below w0.heap.size w0 w) (hl : LiS w F w0.heap.size p l) (ht : LiTo w F w0.heap.size p l' w') (hf : Few l') : L1 w0 w' p l' :=
  ⟨((tch_below h0).trans (ht.2.mono (fun k hk => (hl.blocks k hk).1))).below (fun _ h => h) (Nat.le_refl _), ⟨_, ht.1⟩, hf⟩
theorem l1_rec {m : Mg} {a : Option Addr} {n c : Nat} {b : Option Addr} {k d : Nat} (fr now : Int) (h : L1 w0 w p l) (hI : InI w a n c m.nums) (hn : n ≤ 4611686018427387904) (hfr : i64c fr) :
    Calls Try.prog 30 #[.pointer (some ⟨p, 0, none⟩), .int .i64 fr, mval m.kind a n c b k d, .int .i64 now] w fun e w' => L1 w0 w' p (recF l fr m now).1 ∧ AnsM w' w.heap.size (recF l fr m now).2 e := by
  obtain ⟨h0, ⟨F, hl⟩, hf⟩ := h
  exact (recL_c fr m a n c b k d now F w0.heap.size p l w hl h0.size hI hn hfr).mono (fun e w' hh => ⟨L1.to h0 hl hh.1 (few_rec hf fr m now), hh.2⟩)
theorem l1_tick (now : Int) (h : L1 w0 w p l) :
    Calls Try.prog 23 #[.pointer (some ⟨p, 0, none⟩), .int .i64 now] w fun e w' => ∃ a n c, e = .returned (.slice a n c) ∧ n = (muxesOf (goneP now) l).length ∧ w'.ownsRow w.heap.size 3 1 (.slice a n c) n (i64s (muxesOf (goneP now) l)) ∧ L1 w0 w' p (l.filter (fun e => !goneP now e)) := by
  obtain ⟨h0, ⟨F, hl⟩, hf⟩ := h
  refine (tickL_c now F w0.heap.size p l w hl h0.size).mono (fun e w' hh => ?_)
  obtain ⟨a, n, c, he, hn, ho, ht⟩ := hh
  exact ⟨a, n, c, he, hn, ho, L1.to h0 hl ht (fun e he => hf e (List.mem_filter.1 he).1)⟩
theorem l1_muxes (vip : Int) (h : L1 w0 w p l) :
    Calls Try.prog 27 #[.pointer (some ⟨p, 0, none⟩), .int .u32 vip] w fun e w' => ∃ a n c, e = .returned (.slice a n c) ∧ n = (muxesOf (anP vip) l).length ∧ Below w.heap.size w w' := by
  obtain ⟨h0, ⟨F, hl⟩, hf⟩ := h
  refine (muxes_c vip F w0.heap.size p l w hl (fun e he => Nat.le_trans (hf e he) (by decide))).mono (fun e w' hh => ?_)
  obtain ⟨a, n, c, he, hn, ho, hb⟩ := hh
  exact ⟨a, n, c, he, hn, hb⟩
theorem l1_sess (h : L1 w0 w p l) :
    Calls Try.prog 28 #[.pointer (some ⟨p, 0, none⟩)] w fun e w' => ∃ a n c, e = .returned (.slice a n c) ∧ n = l.length ∧ Below w.heap.size w w' := by
  obtain ⟨h0, ⟨F, hl⟩, hf⟩ := h
  refine (sess_c F w0.heap.size p l w hl).mono (fun e w' hh => ?_)
  obtain ⟨a, n, c, he, hn, ho, hb⟩ := hh
  exact ⟨a, n, c, he, by rw [hn]; unfold muxesOf; rw [List.length_map, List.filter_eq_self.2 (fun _ _ => rfl)], hb⟩
end
/-- Its mux's one session. -/
def one (M b now : Int) (vs : List Int) : List Se := [⟨M, b, now, vs⟩]
theorem ok_1 {k b : Int} (hb : IsTm b) : OkR ⟨k, [b], []⟩ := ⟨by simp, .inl (by simp), hb, show VipsN ([] : List Int) by decide⟩
theorem ho_1 {M b now : Int} (hM : IsMux M) (hb : IsTm b) (hn : IsTm now) : recF [] M ⟨10, [b], []⟩ now = (one M b now [], some ⟨11, [b], []⟩) := by
  unfold recF
  rw [if_pos ⟨ok_1 hb, hM, hn⟩, if_pos rfl]
  rfl
theorem find_one (M b now : Int) (vs : List Int) : findS M (one M b now vs) = some ⟨M, b, now, vs⟩ := by
  unfold findS one
  simp
theorem put_one (M b now b2 now2 : Int) (vs vs2 : List Int) : putS ⟨M, b2, now2, vs2⟩ (one M b now vs) = one M b2 now2 vs2 := by
  unfold putS one
  simp
theorem ho_2 {M b now vip : Int} (hM : IsMux M) (hb : IsTm b) (hn : IsTm now) : ∃ vs, (recF (one M b now []) M ⟨12, [b, vip], []⟩ now).1 = one M b now vs := by
  unfold recF
  split
  · rw [if_neg (by simp), if_pos (by simp), find_one]
    show ∃ vs, (if b = b then _ else _ : List Se × Option Mg).1 = _
    rw [if_pos rfl]
    exact ⟨_, put_one _ _ _ _ _ _ _⟩
  · exact ⟨[], rfl⟩
theorem ho_3 {M b now : Int} {vs : List Int} (hM : IsMux M) (hb : IsTm (b - 1)) (hn : IsTm now) : recF (one M b now vs) M ⟨12, [b - 1], []⟩ now = (one M b now vs, some ⟨14, [b - 1], []⟩) := by
  unfold recF
  rw [if_pos ⟨ok_1 hb, hM, hn⟩, if_neg (by simp), if_pos (by simp), find_one]
  show (if b = b - 1 then _ else _) = _
  rw [if_neg (by omega)]
  rfl
theorem gone_one (M b now : Int) (vs : List Int) (k : Int) : muxesOf (goneP (now + k)) (one M b now vs) = (if k ≤ 12 then [] else [M]) ∧ (one M b now vs).filter (fun e => !goneP (now + k) e) = (if k ≤ 12 then one M b now vs else []) := by
  unfold muxesOf one goneP
  by_cases h : k ≤ 12
  · rw [if_pos h, if_pos h]
    have h1 : ¬ (now + 12 < now + k) := by omega
    simp [h1]
  · rw [if_neg h, if_neg h]
    have h1 : now + 12 < now + k := by omega
    simp [h1]
end Go.Proofs.Ytlmkmbpikhagiaa
