/- The program's store beside the document's: each call turns one and leaves the other. Conditions: as each states. -/
import Derived.Test.YtpbgccidhpfmgaaSdD
import Derived.Test.YtpbgccidhpfmgaaSbF
namespace Go.Proofs.Ytpbgccidhpfmgaa
open Go Go.RowKit Go.Maps
set_option linter.unusedVariables false
set_option linter.unusedSimpArgs false

theorem Kpt.lt {K : Nat → Prop} {w w' : World} (h : Kpt K w w') {k : Nat} (hk : K k) (hl : k < w.heap.size) : k < w'.heap.size := by
  have h1 := h k hk
  rw [getElem?_pos w.heap k hl] at h1
  exact lt_of_block h1
theorem RsK.kpt {w w' : World} {B : Nat} {G : Nat → Prop} {q : Nat} {size : Int} {a1 a2 : Option Addr} {c1 c2 : Nat} {ps qs : List Pv} (h : RsK w B G q size a1 c1 a2 c2 ps qs) (hk : Kpt G w w') : RsK w' B G q size a1 c1 a2 c2 ps qs :=
  ⟨h.srt, h.ok, h.len, h.sz, h.here, fun k hg => ⟨(h.blocks k hg).1, hk.lt hg (h.blocks k hg).2⟩, (hk q h.here).trans h.cells, h.now.kpt hk, h.syn.kpt hk⟩
theorem RsS.kpt {w w' : World} {B : Nat} {G : Nat → Prop} {q : Nat} {size : Int} {l m : List Pr} (h : RsS w B G q size l m) (hk : Kpt G w w') : RsS w' B G q size l m := by
  obtain ⟨a1, c1, a2, c2, ps, qs, hK, e⟩ := h
  exact ⟨a1, c1, a2, c2, ps, qs, hK.kpt hk, e⟩
theorem SOn.writeG {w0 w w' : World} {p : Nat} {size : Int} {l m : List Pr} {K T : Nat → Prop} (h : SOn w0 w p size l m K) (ht : Tch T w w') (hT : ∀ k, T k → K k ∧ w0.heap.size ≤ k) : SOn w0 w' p size l m (fun k => K k ∨ (w.heap.size ≤ k ∧ k < w'.heap.size)) := by
  obtain ⟨F, h1, h2⟩ := h.st
  refine ⟨⟨F, h1.keep ht (fun k hf hk => h2 k (hT k hk).1 hf), fun k hk hf => ?_⟩, h.bel.trans (ht.below (fun k hk => (hT k hk).2) h.bel.size), fun k hk => ?_⟩
  · rcases hk with hk | hk
    · exact h2 k hk hf
    · have := (h1.blocks k hf).2
      omega
  · rcases hk with hk | hk
    · exact Nat.lt_of_lt_of_le (h.lt k hk) ht.size
    · exact hk.2
/-- Both stores, and blocks X that neither has. -/
def Pq (w0 w : World) (p q : Nat) (size : Int) (l1 m1 l2 m2 : List Pr) (X : Nat → Prop) : Prop :=
  ∃ G, SOn w0 w p size l1 m1 (fun k => G k ∨ X k) ∧ RsS w w0.heap.size G q size l2 m2 ∧ ∀ k, X k → ¬ G k
section
variable {w0 w w' : World} {p q : Nat} {size : Int} {l1 m1 l2 m2 l1' m1' l2' m2' : List Pr} {G X : Nat → Prop}
theorem Pq.bel (h : Pq w0 w p q size l1 m1 l2 m2 X) : Below w0.heap.size w0 w := by
  obtain ⟨G, h1, _⟩ := h
  exact h1.bel
theorem Pq.less {X2 : Nat → Prop} (h : Pq w0 w p q size l1 m1 l2 m2 X) (hx : ∀ k, X2 k → X k) : Pq w0 w p q size l1 m1 l2 m2 X2 := by
  obtain ⟨G, h1, h2, h3⟩ := h
  exact ⟨G, h1.less (fun k hk => hk.imp id (hx k)), h2, fun k hk => h3 k (hx k hk)⟩
theorem Pq.new (h : Pq w0 w p q size l1 m1 l2 m2 X) (hb : Below w.heap.size w w') : Pq w0 w' p q size l1 m1 l2 m2 X ∧ Kpt X w w' := by
  obtain ⟨G, h1, h2, h3⟩ := h
  obtain ⟨k1, k2⟩ := h1.new hb
  exact ⟨⟨G, k1, h2.keep (tch_new hb) (fun _ _ h => h), h3⟩, k2.less (fun k hk => .inr hk)⟩
theorem Pq.grow (h : Pq w0 w p q size l1 m1 l2 m2 X) (hb : Below w.heap.size w w') : Pq w0 w' p q size l1 m1 l2 m2 (fun k => X k ∨ (w.heap.size ≤ k ∧ k < w'.heap.size)) := by
  obtain ⟨G, h1, h2, h3⟩ := h
  refine ⟨G, (h1.grow hb).less (fun k hk => ?_), h2.keep (tch_new hb) (fun _ _ h => h), fun k hk hg => ?_⟩
  · rcases hk with hk | hk | hk
    · exact .inl (.inl hk)
    · exact .inl (.inr hk)
    · exact .inr hk
  · rcases hk with hk | hk
    · exact h3 k hk hg
    · have := (h2.blocks k hg).2
      omega
/-- What is written in X leaves both. -/
theorem Pq.write {T : Nat → Prop} (h : Pq w0 w p q size l1 m1 l2 m2 X) (ht : Tch T w w') (hT : ∀ k, T k → X k ∧ w0.heap.size ≤ k) : Pq w0 w' p q size l1 m1 l2 m2 X := by
  obtain ⟨G, h1, h2, h3⟩ := h
  exact ⟨G, h1.write ht (fun k hk => ⟨.inr (hT k hk).1, (hT k hk).2⟩), h2.keep ht (fun k hg hk => h3 k (hT k hk).1 hg), h3⟩
/-- A call on the program's. -/
theorem Pq.s (hO : SOn w0 w' p size l1' m1' (fun k => G k ∨ X k)) (hR : RsS w w0.heap.size G q size l2 m2) (hX : ∀ k, X k → ¬ G k) (hk : Kpt (fun k => G k ∨ X k) w w') : Pq w0 w' p q size l1' m1' l2 m2 X ∧ Kpt X w w' :=
  ⟨⟨G, hO, hR.kpt (hk.less (fun k h => .inl h)), hX⟩, hk.less (fun k h => .inr h)⟩
/-- A call on the document's. -/
theorem Pq.r (hO : SOn w0 w p size l1 m1 (fun k => G k ∨ X k)) (hR : RsS w w0.heap.size G q size l2 m2) (hX : ∀ k, X k → ¬ G k) (h : RsTo w w0.heap.size G q size l2' m2' w') : Pq w0 w' p q size l1 m1 l2' m2' X ∧ Kpt X w w' := by
  obtain ⟨G2, h1, h2, h3⟩ := h
  have hq : G q ∧ w0.heap.size ≤ q := by
    obtain ⟨a1, c1, a2, c2, ps, qs, hK, _⟩ := hR
    exact ⟨hK.here, (hK.blocks q hK.here).1⟩
  refine ⟨⟨G2, (hO.writeG h3 (fun k hk => by subst hk; exact ⟨.inl hq.1, hq.2⟩)).less (fun k hk => ?_), h1, fun k hk hg => ?_⟩, fun k hk => h3.block k (hO.lt k (.inr hk)) (fun e => hX k hk (e ▸ hq.1))⟩
  · rcases hk with hk | hk
    · rcases h2 k hk with h5 | h5
      · exact .inl (.inl h5)
      · exact .inr ⟨h5, (h1.blocks k hk).2⟩
    · exact .inl (.inr hk)
  · rcases h2 k hg with h5 | h5
    · exact hX k hk h5
    · have := hO.lt k (.inr hk)
      omega
theorem Pq.put2d (h : Pq w0 w p q size l1 m1 l2 m2 X) (k : Ky) (hk : k.length ≤ maxLen) {a a2 : Option Addr} {n c n2 c2 : Nat} {r r2 : List Int} (hr : In w a n c r) (hr2 : In w a2 n2 c2 r2) (hn : n ≤ 140737488355328) (hn2 : n2 ≤ 140737488355328) :
    Calls Try.prog 35 #[.pointer (some ⟨p, 0, none⟩), sv k, .slice (some ⟨w.heap.size, 0, none⟩) 2 2] (w.alloc (.cells #[.slice a n c, .slice a2 n2 c2] tyB)).drew fun e w' => e = .returned (errF (putN size k (r ++ r2) l1 : Nat)) ∧ Pq w0 w' p q size (putL size k (r ++ r2) l1) m1 l2 m2 X ∧ Kpt X w w' := by
  obtain ⟨G, hO, hR, hX⟩ := h
  obtain ⟨hO2, hk2⟩ := hO.new ((bl_al (Below.refl _ _) (.cells #[.slice a n c, .slice a2 n2 c2] tyB)).drew)
  have hlen := hr.len
  have hlen2 := hr2.len
  have e0 : [r, r2].flatten = r ++ r2 := by simp
  refine (hO2.put k w.heap.size 2 _ [r, r2] hk ((RsIn.two hr hr2).below (Below.refl _ _).drew) (by omega) (by rw [e0, List.length_append]; omega)).mono ?_
  rintro e w' ⟨rfl, h1, h2⟩
  rw [e0] at h1 ⊢
  exact ⟨rfl, Pq.s h1 hR hX (hk2.trans h2)⟩
theorem Pq.rput (h : Pq w0 w p q size l1 m1 l2 m2 X) (k : Ky) (hk : k.length ≤ maxLen) {a : Option Addr} {n c : Nat} {r : List Int} (hr : In w a n c r) (hn : n ≤ 140737488355328) :
    Calls Try.prog 36 #[.pointer (some ⟨q, 0, none⟩), sv k, .slice a n c] w fun e w' => e = .returned (.int .i64 (putN size k r l2 : Nat)) ∧ Pq w0 w' p q size l1 m1 (putL size k r l2) m2 X ∧ Kpt X w w' := by
  obtain ⟨G, hO, hR, hX⟩ := h
  refine (rput_c _ G q size l2 m2 k a n c r w hR hO.bel.size hk hr hn).mono ?_
  rintro e w' ⟨rfl, h1⟩
  exact ⟨rfl, Pq.r hO hR hX h1⟩
theorem Pq.drop (h : Pq w0 w p q size l1 m1 l2 m2 X) (b n cc : Nat) (ks : List Ky) (hp : KsIn w b n ks) (hn : n ≤ 4611686018427387904) (hcc : n ≤ cc) (hb : X b) :
    Calls Try.prog 39 #[.pointer (some ⟨p, 0, none⟩), .slice (some ⟨b, 0, none⟩) n cc] w fun e w' => e = .returned (.int .i64 ((l1.length - (dropP ks l1).length : Nat) : Nat)) ∧ Pq w0 w' p q size (dropP ks l1) m1 l2 m2 X ∧ Kpt X w w' := by
  obtain ⟨G, hO, hR, hX⟩ := h
  obtain ⟨F, h1, h2⟩ := hO.st
  refine (drop_cc w0.heap.size F _ size l1 m1 b n cc ks w (.inr ⟨p, rfl, h1⟩) hO.bel.size hp hn hcc (h2 b (.inr hb)) (hO.lt b (.inr hb))).mono ?_
  rintro e w' ⟨he, hT⟩
  obtain ⟨k1, k2⟩ := hT.on hO.bel (fun k hk => (h1.blocks k hk).1) h2 hO.lt
  exact ⟨he, Pq.s k1 hR hX k2⟩
theorem Pq.rdrop (h : Pq w0 w p q size l1 m1 l2 m2 X) (b n cc : Nat) (ks : List Ky) (hp : KsIn w b n ks) (hn : n ≤ 4611686018427387904) (hcc : n ≤ cc) (hb : X b) :
    Calls Try.prog 40 #[.pointer (some ⟨q, 0, none⟩), .slice (some ⟨b, 0, none⟩) n cc] w fun e w' => e = .returned (.int .i64 ((l2.length - (dropP ks l2).length : Nat) : Nat)) ∧ Pq w0 w' p q size l1 m1 (dropP ks l2) m2 X ∧ Kpt X w w' := by
  obtain ⟨G, hO, hR, hX⟩ := h
  refine (rdrop_c _ G q size l2 m2 b n cc ks w hR hO.bel.size hp hn hcc (hX b hb) (hO.lt b (.inr hb))).mono ?_
  rintro e w' ⟨he, h1⟩
  exact ⟨he, Pq.r hO hR hX h1⟩
theorem Pq.sync (h : Pq w0 w p q size l1 m1 l2 m2 X) :
    Calls Try.prog 41 #[.pointer (some ⟨p, 0, none⟩)] w fun e w' => e = .returned (.int .i64 (unlikeP l1 m1 : Nat)) ∧ Pq w0 w' p q size l1 l1 l2 m2 X ∧ Kpt X w w' := by
  obtain ⟨G, hO, hR, hX⟩ := h
  refine hO.sync.mono ?_
  rintro e w' ⟨he, k1, k2⟩
  exact ⟨he, Pq.s k1 hR hX k2⟩
theorem Pq.rsync (h : Pq w0 w p q size l1 m1 l2 m2 X) :
    Calls Try.prog 42 #[.pointer (some ⟨q, 0, none⟩)] w fun e w' => e = .returned (.int .i64 (unlikeP l2 m2 : Nat)) ∧ Pq w0 w' p q size l1 m1 l2 l2 X ∧ Kpt X w w' := by
  obtain ⟨G, hO, hR, hX⟩ := h
  refine (rsync_c _ G q size l2 m2 w hR).mono ?_
  rintro e w' ⟨he, h1⟩
  exact ⟨he, Pq.r hO hR hX h1⟩
theorem Pq.crash (h : Pq w0 w p q size l1 m1 l2 m2 X) :
    Calls Try.prog 43 #[.pointer (some ⟨p, 0, none⟩)] w fun e w' => e = .returned (.int .i64 (unlikeP l1 m1 : Nat)) ∧ Pq w0 w' p q size m1 m1 l2 m2 X ∧ Kpt X w w' := by
  obtain ⟨G, hO, hR, hX⟩ := h
  refine hO.crash.mono ?_
  rintro e w' ⟨he, k1, k2⟩
  exact ⟨he, Pq.s k1 hR hX k2⟩
theorem Pq.rcrash (h : Pq w0 w p q size l1 m1 l2 m2 X) :
    Calls Try.prog 44 #[.pointer (some ⟨q, 0, none⟩)] w fun e w' => e = .returned (.int .i64 (unlikeP l2 m2 : Nat)) ∧ Pq w0 w' p q size l1 m1 m2 m2 X ∧ Kpt X w w' := by
  obtain ⟨G, hO, hR, hX⟩ := h
  refine (rcrash_c _ G q size l2 m2 w hR).mono ?_
  rintro e w' ⟨he, h1⟩
  exact ⟨he, Pq.r hO hR hX h1⟩
/-- A row found, or none. -/
def GotN (o : Option (List Int)) : Int := if o.isSome then 0 else 6
theorem Pq.get (h : Pq w0 w p q size l1 m1 l2 m2 X) (k : Ky) (hk : k.length ≤ maxLen) :
    Calls Try.prog 45 #[.pointer (some ⟨p, 0, none⟩), sv k] w fun e w' => (∃ a n c, e = .returned (.tuple #[.slice a n c, errF (GotN (findP k l1))]) ∧ In w' a n c ((findP k l1).getD [])) ∧ Pq w0 w' p q size l1 m1 l2 m2 X ∧ Kpt X w w' := by
  have hO := h
  obtain ⟨G, hO, hR, hX⟩ := hO
  refine (hO.get k hk).mono ?_
  intro e w' hG
  rcases hf : findP k l1 with _ | r
  · rw [hf] at hG
    obtain ⟨rfl, ht⟩ := hG.no'
    exact ⟨⟨none, 0, 0, rfl, in_nil w'⟩, h.new (non_below ht)⟩
  · rw [hf] at hG
    obtain ⟨a, c, rfl, hrow, ht⟩ := hG.yes'
    have hfit : fit r := (hO.facts.2.1.1 _ (findP_mem hf)).b
    exact ⟨⟨a, r.length, c, rfl, row_in hrow rfl hfit⟩, h.new (non_below ht)⟩
theorem Pq.rget (h : Pq w0 w p q size l1 m1 l2 m2 X) (k : Ky) :
    Calls Try.prog 46 #[.pointer (some ⟨q, 0, none⟩), sv k] w fun e w' => (∃ a n c, e = .returned (.tuple #[.slice a n c, .int .i64 (GotN (findP k l2))]) ∧ In w' a n c ((findP k l2).getD [])) ∧ w = w' := by
  obtain ⟨G, hO, hR, hX⟩ := h
  refine (rget_c _ G q size l2 m2 k w hR).mono ?_
  rintro e w' ⟨rfl, hG⟩
  rcases hf : findP k l2 with _ | r
  · rw [hf] at hG
    subst hG
    exact ⟨⟨none, 0, 0, rfl, in_nil w⟩, rfl⟩
  · rw [hf] at hG
    obtain ⟨a, c, rfl, hrow⟩ := hG
    exact ⟨⟨a, r.length, c, rfl, row_in hrow.1 rfl hrow.2.1⟩, rfl⟩
/-- What same is asked about. -/
theorem Pq.view (h : Pq w0 w p q size l1 m1 l2 m2 X) : ∃ a c ps K G, w.cell? ⟨q, 0, none⟩ = some (.slice a ps.length c) ∧ ps.map (·.1) = l2 ∧ PsV w G w0.heap.size (.slice a ps.length c) ps ∧ SOn w0 w p size l1 m1 K := by
  obtain ⟨G, hO, ⟨a1, c1, a2, c2, ps, qs, hK, e1, _⟩, hX⟩ := h
  exact ⟨a1, c1, ps, _, G, hK.cs.1, e1, hK.now, hO⟩
end
theorem Pq.made {w0 w : World} {p : Nat} {size : Int} (h : SOn w0 w p size [] [] (fun _ => False)) (hz : OkZ size) : Pq w0 (w.alloc (rsO size (.slice none 0 0) (.slice none 0 0))) p w.heap.size size [] [] [] [] (fun _ => False) := by
  have hb : Below w.heap.size w (w.alloc (rsO size (.slice none 0 0) (.slice none 0 0))) := bl_al (Below.refl _ _) _
  have hs : w.heap.size < (w.alloc (rsO size (.slice none 0 0) (.slice none 0 0))).heap.size := by simp
  have hpv : ∀ {W : World} {G : Nat → Prop} {B : Nat}, PsV W G B (.slice none ([] : List Pv).length 0) [] := fun {W G B} => ⟨⟨rfl, .inl ⟨rfl, rfl⟩⟩, by simp, fun g hg => by cases hg⟩
  refine ⟨fun k => k = w.heap.size, (h.grow hb).less (fun k hk => ?_), ⟨none, 0, none, 0, [], [], ⟨⟨by simp [SrtP], by simp [SrtP]⟩, ⟨by simp, by simp⟩, ⟨by simp [usedP], by simp [usedP]⟩, ⟨hz.1, hz.2⟩, rfl, fun k hk => ?_, (MapKept.heap_alloc w _).1, hpv, hpv⟩, rfl, rfl⟩, fun k hk => hk.elim⟩
  · rcases hk with rfl | hk
    · exact .inr ⟨Nat.le_refl _, hs⟩
    · exact hk.elim
  · subst hk
    exact ⟨h.bel.size, hs⟩
end Go.Proofs.Ytpbgccidhpfmgaa
