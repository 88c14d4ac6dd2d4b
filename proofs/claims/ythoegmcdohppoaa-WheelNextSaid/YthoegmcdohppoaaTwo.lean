/- Two wheels that share no block. No conditions but those stated. -/
import Derived.Test.YthoegmcdohppoaaScW
namespace Go.Proofs.Ythoegmcdohppoaa
open Go Go.RowKit
set_option linter.unusedVariables false
set_option linter.unusedSimpArgs false

structure StOK (S : WhS) : Prop where
  keep : ∀ {T : Nat → Prop} {w w' : World} {B : Nat} {F : Nat → Prop} {p : Nat} {ts : List Wy}, S w B F p ts → Tch T w w' → (∀ k, F k → ¬ T k) → S w' B F p ts
  blocks : ∀ {w : World} {B : Nat} {F : Nat → Prop} {p : Nat} {ts : List Wy}, S w B F p ts → ∀ k, F k → B ≤ k ∧ k < w.heap.size
theorem okS1 : StOK WSt := ⟨fun h ht hn => h.keep ht hn, fun h => h.blocks⟩
theorem okS2 : StOK RwS := ⟨fun h ht hn => h.keep ht hn, fun h => h.blocks⟩
/-- Two wheels, and blocks K that neither has. -/
structure Two (S1 S2 : WhS) (w0 w : World) (P Q : Nat) (K : Nat → Prop) (ts us : List Wy) : Prop where
  st : ∃ F G : Nat → Prop, S1 w w0.heap.size F P ts ∧ S2 w w0.heap.size G Q us ∧ (∀ k, F k → ¬ G k) ∧ (∀ k, K k → ¬ F k ∧ ¬ G k)
  bel : Below w0.heap.size w0 w
  ks : ∀ k, K k → k < w.heap.size
/-- K's blocks are as they were. -/
def Kpd (K : Nat → Prop) (w w' : World) : Prop := ∀ k, K k → w'.heap[k]? = w.heap[k]?
theorem Kpd.trans {K : Nat → Prop} {a b c : World} (h : Kpd K a b) (h2 : Kpd K b c) : Kpd K a c := fun k hk => (h2 k hk).trans (h k hk)
section
variable {S1 S2 : WhS} {w0 w w' : World} {P Q : Nat} {K : Nat → Prop} {ts us : List Wy}
theorem Two.symm (h : Two S1 S2 w0 w P Q K ts us) : Two S2 S1 w0 w Q P K us ts := by
  obtain ⟨F, G, h1, h2, h3, h4⟩ := h.st
  exact ⟨⟨G, F, h2, h1, fun k hk hf => h3 k hf hk, fun k hk => ⟨(h4 k hk).2, (h4 k hk).1⟩⟩, h.bel, h.ks⟩
theorem Two.new (o1 : StOK S1) (o2 : StOK S2) (h : Two S1 S2 w0 w P Q K ts us) (hb : Below w.heap.size w w') : Two S1 S2 w0 w' P Q K ts us := by
  obtain ⟨F, G, h1, h2, h3, h4⟩ := h.st
  exact ⟨⟨F, G, o1.keep h1 (tch_new hb) (fun _ _ h => h), o2.keep h2 (tch_new hb) (fun _ _ h => h), h3, h4⟩, bl_tr h.bel hb, fun k hk => Nat.lt_of_lt_of_le (h.ks k hk) hb.size⟩
/-- One more block that neither has. -/
theorem Two.more (o1 : StOK S1) (o2 : StOK S2) (h : Two S1 S2 w0 w P Q K ts us) (hb : Below w.heap.size w w') {K2 : Nat → Prop} (hk : ∀ k, K2 k → K k ∨ w.heap.size ≤ k ∧ k < w'.heap.size) : Two S1 S2 w0 w' P Q K2 ts us := by
  obtain ⟨F, G, h1, h2, h3, h4⟩ := h.st
  refine ⟨⟨F, G, o1.keep h1 (tch_new hb) (fun _ _ h => h), o2.keep h2 (tch_new hb) (fun _ _ h => h), h3, fun k hk2 => ?_⟩, bl_tr h.bel hb, fun k hk2 => ?_⟩
  · rcases hk k hk2 with h5 | h5
    · exact h4 k h5
    · exact ⟨fun e => by have := (o1.blocks h1 k e).2; omega, fun e => by have := (o2.blocks h2 k e).2; omega⟩
  · rcases hk k hk2 with h5 | h5
    · exact Nat.lt_of_lt_of_le (h.ks k h5) hb.size
    · exact h5.2
theorem Two.less (h : Two S1 S2 w0 w P Q K ts us) {K2 : Nat → Prop} (hk : ∀ k, K2 k → K k) : Two S1 S2 w0 w P Q K2 ts us := by
  obtain ⟨F, G, h1, h2, h3, h4⟩ := h.st
  exact ⟨⟨F, G, h1, h2, h3, fun k h => h4 k (hk k h)⟩, h.bel, fun k hk2 => h.ks k (hk k hk2)⟩
/-- The first one turns. -/
theorem Two.turn (o1 : StOK S1) (o2 : StOK S2) {F G : Nat → Prop} (h1 : S1 w w0.heap.size F P ts) (h2 : S2 w w0.heap.size G Q us) (h3 : ∀ k, F k → ¬ G k) (h4 : ∀ k, K k → ¬ F k ∧ ¬ G k) (hb : Below w0.heap.size w0 w) (hk : ∀ k, K k → k < w.heap.size)
    {F2 : Nat → Prop} {ts2 : List Wy} (q1 : S1 w' w0.heap.size F2 P ts2) (q2 : ∀ k, F2 k → F k ∨ w.heap.size ≤ k) (q3 : Tch F w w') : Two S1 S2 w0 w' P Q K ts2 us ∧ Kpd K w w' := by
  refine ⟨⟨⟨F2, G, q1, o2.keep h2 q3 (fun k hg hf => h3 k hf hg), fun k hf hg => ?_, fun k hk2 => ⟨fun hf => ?_, (h4 k hk2).2⟩⟩, hb.trans (q3.below (fun k hf => (o1.blocks h1 k hf).1) hb.size), fun k hk2 => Nat.lt_of_lt_of_le (hk k hk2) q3.size⟩, fun k hk2 => q3.block k (hk k hk2) (h4 k hk2).1⟩
  · rcases q2 k hf with h5 | h5
    · exact h3 k h5 hg
    · have := (o2.blocks h2 k hg).2; omega
  · rcases q2 k hf with h5 | h5
    · exact (h4 k hk2).1 h5
    · have := hk k hk2; omega
/-- Keys that no wheel touches. -/
def KFar (w0 : World) (K : Nat → Prop) (a : Option Addr) (n : Nat) : Prop := ∀ b off, a = some ⟨b, off, none⟩ → 0 < n → b < w0.heap.size ∨ K b
theorem KFar.apart (o1 : StOK S1) {F : Nat → Prop} (h1 : S1 w w0.heap.size F P ts) (h4 : ∀ k, K k → ¬ F k) {a : Option Addr} {n : Nat} (h : KFar w0 K a n) : ∀ b off, a = some ⟨b, off, none⟩ → 0 < n → ¬ F b := fun b off e hn hf => by
  rcases h b off e hn with h5 | h5
  · have := (o1.blocks h1 b hf).1; omega
  · exact h4 b h5 hf
end
section
variable {S2 : WhS} {w0 w : World} {P Q : Nat} {K : Nat → Prop} {ts us : List Wy}
theorem Two.set (o2 : StOK S2) (h : Two WSt S2 w0 w P Q K ts us) (a : Int) (ks : List Int) (ao : Option Addr) (n c : Nat) (hI : InI w ao n c ks) (hf : KFar w0 K ao n) (hn : ts.length + n ≤ 1048576) (ha : I64 a) :
    Calls Try.prog 13 #[.pointer (some ⟨P, 0, none⟩), .int .i64 a, .slice ao n c] w fun e w' => e = .returned (errT (setR a ks ts).1) ∧ Two WSt S2 w0 w' P Q K (setR a ks ts).2 us ∧ Kpd K w w' := by
  obtain ⟨F, G, h1, h2, h3, h4⟩ := h.st
  refine (wset_t w0.heap.size P F ts a ks ao n c w h1 h.bel.size ⟨hI, hf.apart okS1 h1 (fun k hk => (h4 k hk).1)⟩ hn ha).mono ?_
  rintro e w' ⟨he, F2, q1, q2, q3⟩
  exact ⟨he, Two.turn okS1 o2 h1 h2 h3 h4 h.bel h.ks q1 q2 q3⟩
theorem Two.cancel (o2 : StOK S2) (h : Two WSt S2 w0 w P Q K ts us) (ks : List Int) (ao : Option Addr) (n c : Nat) (hI : InI w ao n c ks) (hf : KFar w0 K ao n) (hn : ts.length ≤ 1048576) (hn2 : n ≤ 1048576) :
    Calls Try.prog 15 #[.pointer (some ⟨P, 0, none⟩), .slice ao n c] w fun e w' => e = .returned (.int .i64 (cntsT ks ts : Nat)) ∧ Two WSt S2 w0 w' P Q K (cutsT ks ts) us ∧ Kpd K w w' := by
  obtain ⟨F, G, h1, h2, h3, h4⟩ := h.st
  refine (wcancel_t w0.heap.size P F ts ks ao n c w h1 h.bel.size ⟨hI, hf.apart okS1 h1 (fun k hk => (h4 k hk).1)⟩ hn hn2).mono ?_
  rintro e w' ⟨he, F2, q1, q2, q3⟩
  exact ⟨he, Two.turn okS1 o2 h1 h2 h3 h4 h.bel h.ks q1 q2 q3⟩
theorem Two.at (o2 : StOK S2) (h : Two WSt S2 w0 w P Q K ts us) (key : Int) (hn : ts.length ≤ 1048576) (hk : I64 key) :
    Calls Try.prog 17 #[.pointer (some ⟨P, 0, none⟩), .int .i64 key] w fun e w' => e = .returned (atR (atT key ts)) ∧ Two WSt S2 w0 w' P Q K ts us ∧ Kpd K w w' := by
  obtain ⟨F, G, h1, h2, h3, h4⟩ := h.st
  refine (wat_t w0.heap.size P F ts key w h1 h.bel.size hn hk).mono ?_
  rintro e w' ⟨he, F2, q1, q2, q3⟩
  exact ⟨he, Two.turn okS1 o2 h1 h2 h3 h4 h.bel h.ks q1 q2 q3⟩
theorem Two.next (o2 : StOK S2) (h : Two WSt S2 w0 w P Q K ts us) (hn : ts.length ≤ 1048576) :
    Calls Try.prog 22 #[.pointer (some ⟨P, 0, none⟩)] w fun e w' => e = .returned (atR (nextT ts)) ∧ Two WSt S2 w0 w' P Q K ts us ∧ Kpd K w w' := by
  obtain ⟨F, G, h1, h2, h3, h4⟩ := h.st
  refine (wnext_t w0.heap.size P F ts w h1 h.bel.size hn).mono ?_
  rintro e w' ⟨he, F2, q1, q2, q3⟩
  exact ⟨he, Two.turn okS1 o2 h1 h2 h3 h4 h.bel h.ks q1 q2 q3⟩
theorem Two.leng (o2 : StOK S2) (h : Two WSt S2 w0 w P Q K ts us) (hn : ts.length ≤ 1048576) :
    Calls Try.prog 24 #[.pointer (some ⟨P, 0, none⟩)] w fun e w' => e = .returned (.int .i64 (ts.length : Nat)) ∧ Two WSt S2 w0 w' P Q K ts us ∧ Kpd K w w' := by
  obtain ⟨F, G, h1, h2, h3, h4⟩ := h.st
  refine (wlen_t w0.heap.size P F ts w h1 h.bel.size hn).mono ?_
  rintro e w' ⟨he, F2, q1, q2, q3⟩
  exact ⟨he, Two.turn okS1 o2 h1 h2 h3 h4 h.bel h.ks q1 q2 q3⟩
theorem fit_keys {w : World} {B p : Nat} {F : Nat → Prop} {ts : List Wy} (h : WSt w B F p ts) (now : Int) : fitI (dueT now ts) := fun x hx => by
  unfold dueT at hx
  obtain ⟨t, ht, rfl⟩ := List.mem_map.1 hx
  have := (h.fit t ((srtW_perm ts).mem_iff.1 (List.mem_filter.1 ht).1)).2
  unfold I64 at this
  omega
/-- What is due lies in a row of its own, that neither wheel touches. -/
theorem Two.due (o2 : StOK S2) (h : Two WSt S2 w0 w P Q K ts us) (now : Int) (hn : ts.length ≤ 1048576) (hk : I64 now) :
    Calls Try.prog 20 #[.pointer (some ⟨P, 0, none⟩), .int .i64 now] w fun e w' => ∃ a c, e = .returned (.slice a (dueT now ts).length c) ∧ InI w' a (dueT now ts).length c (dueT now ts) ∧
      Two WSt S2 w0 w' P Q (fun k => K k ∨ (Value.slice a (dueT now ts).length c).ownBlock = some k) (leftT now ts) us ∧ Kpd K w w' := by
  obtain ⟨F, G, h1, h2, h3, h4⟩ := h.st
  refine (wdue_t w0.heap.size P F ts now w h1 h.bel.size hn hk).mono ?_
  rintro e w' ⟨F2, a, c, he, ho, hof, hS, hF2, hT⟩
  obtain ⟨t1, t2⟩ := Two.turn okS1 o2 h1 h2 h3 h4 h.bel h.ks hS hF2 hT
  refine ⟨a, c, he, own_inI ho rfl (fit_keys h1 now), ⟨⟨F2, G, hS, ?_, ?_, fun k hk2 => ?_⟩, t1.bel, fun k hk2 => hk2.elim (t1.ks k) (fun e => (ho.lt k e).2)⟩, t2⟩
  · exact o2.keep h2 hT (fun k hg hf => h3 k hf hg)
  · intro k hf hg
    rcases hF2 k hf with h5 | h5
    · exact h3 k h5 hg
    · have := (o2.blocks h2 k hg).2; omega
  · rcases hk2 with h5 | h5
    · refine ⟨fun hf => ?_, (h4 k h5).2⟩
      rcases hF2 k hf with h6 | h6
      · exact (h4 k h5).1 h6
      · have := h.ks k h5; omega
    · exact ⟨hof k h5, fun hg => by have := (o2.blocks h2 k hg).2; have := (ho.lt k h5).1; omega⟩
/-- A row that is kept. -/
theorem inI_kpd {K : Nat → Prop} {w w' : World} {a : Option Addr} {n c : Nat} {l : List Int} (h : InI w a n c l) (hk : Kpd K w w') (ha : ∀ b off, a = some ⟨b, off, none⟩ → K b) : InI w' a n c l := by
  refine ⟨h.len, h.room, h.none, ?_, h.fit⟩
  obtain ⟨a2, c2, e, h2⟩ := h.here
  refine ⟨a2, c2, e, ?_⟩
  rcases h2 with h0 | ⟨b, off, rfl, hc⟩
  · exact .inl h0
  · simp only [Value.slice.injEq] at e
    exact .inr ⟨b, off, rfl, fun j hj => (World.cell?_of_block (a := ⟨b, off + j, none⟩) (hk b (ha b off e.1))).trans (hc j hj)⟩
theorem OxW.kpd {K : Nat → Prop} {w w' : World} {q : Nat} {o : OpW} (h : OxW w q o) (hk : Kpd K w w') (hq : K q) : OxW w' q o := (hk q hq).trans h
end
theorem setR_len (a : Int) (ks : List Int) (ts : List Wy) : (setR a ks ts).2.length ≤ ts.length + ks.length := by
  unfold setR
  split
  · exact putsT_len a ks ts
  · simp
theorem setR_err (a : Int) (ks : List Int) (ts : List Wy) : (setR a ks ts).1 = 0 ∨ (setR a ks ts).1 = 4 := by
  unfold setR
  split
  · exact .inl rfl
  · exact .inr rfl
end Go.Proofs.Ythoegmcdohppoaa
