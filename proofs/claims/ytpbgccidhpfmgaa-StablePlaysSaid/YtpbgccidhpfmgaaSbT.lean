/- Two stores of the call's own, apart. No conditions but those stated. -/
import Derived.Test.YtpbgccidhpfmgaaSnP
namespace Go.Proofs.Ytpbgccidhpfmgaa
open Go Go.RowKit Go.Maps
set_option linter.unusedVariables false
set_option linter.unusedSimpArgs false

/-- The first one is in hand; the second one lies apart. -/
def Tw (w0 w : World) (p1 : Nat) (s1 : Int) (l1 m1 : List Pr) (p2 : Nat) (s2 : Int) (l2 m2 : List Pr) (K : Nat → Prop) : Prop :=
  ∃ F2, SOn w0 w p1 s1 l1 m1 (fun k => K k ∨ F2 k) ∧ St w w0.heap.size F2 p2 s2 l2 m2 ∧ ∀ k, K k → ¬ F2 k
section
variable {w0 w w' : World} {p1 p2 : Nat} {s1 s2 : Int} {l1 m1 l2 m2 : List Pr} {K : Nat → Prop}
theorem Tw.bel (h : Tw w0 w p1 s1 l1 m1 p2 s2 l2 m2 K) : Below w0.heap.size w0 w := by
  obtain ⟨F2, h1, _⟩ := h
  exact h1.bel
theorem Tw.swap (h : Tw w0 w p1 s1 l1 m1 p2 s2 l2 m2 K) : Tw w0 w p2 s2 l2 m2 p1 s1 l1 m1 K := by
  obtain ⟨F2, h1, h2, h3⟩ := h
  obtain ⟨F1, h4, h5⟩ := h1.st
  refine ⟨F1, ⟨⟨F2, h2, fun k hk hf => ?_⟩, h1.bel, fun k hk => ?_⟩, h4, fun k hk => h5 k (.inl hk)⟩
  · rcases hk with hk | hk
    · exact h3 k hk hf
    · exact h5 k (.inr hf) hk
  · rcases hk with hk | hk
    · exact h1.lt k (.inl hk)
    · exact (h4.blocks k hk).2
theorem St.kpt {B : Nat} {F : Nat → Prop} {p : Nat} {size : Int} {l m : List Pr} (h : St w B F p size l m) (hb : Below w0.heap.size w0 w) (hb2 : Below w0.heap.size w0 w') (hs : w.heap.size ≤ w'.heap.size) (hk : Kpt F w w') : St w' B F p size l m :=
  h.keep (T := fun k => ¬ F k) ⟨hb2.os.trans hb.os.symm, hb2.tape.trans hb.tape.symm, hb2.output.trans hb.output.symm, hs, fun k _ hn => hk k (Classical.not_not.1 hn)⟩ (fun k hf hn => hn hf)
theorem Tw.on (h : Tw w0 w p1 s1 l1 m1 p2 s2 l2 m2 K) : ∃ K2, SOn w0 w p1 s1 l1 m1 K2 ∧ (∀ k, K k → K2 k) ∧ ∀ w' l1' m1', SOn w0 w' p1 s1 l1' m1' K2 → w.heap.size ≤ w'.heap.size → Kpt K2 w w' → Tw w0 w' p1 s1 l1' m1' p2 s2 l2 m2 K := by
  obtain ⟨F2, h1, h2, h3⟩ := h
  refine ⟨_, h1, fun k hk => .inl hk, fun w' l1' m1' h4 hs h5 => ⟨F2, h4, h2.kpt h1.bel h4.bel hs (h5.less (fun k hk => .inr hk)), h3⟩⟩
theorem Tw.new (h : Tw w0 w p1 s1 l1 m1 p2 s2 l2 m2 K) (hb : Below w.heap.size w w') : Tw w0 w' p1 s1 l1 m1 p2 s2 l2 m2 K := by
  obtain ⟨F2, h1, h2, h3⟩ := h
  exact ⟨F2, (h1.new hb).1, h2.keep (tch_new hb) (fun _ _ h => h), h3⟩
theorem Tw.made {e : Ending} (h : SOn w0 w p1 s1 l1 m1 K) (hz : OkZ s2) (hn : SNew w s2 e w') : ∃ p2, e = .returned (.tuple #[.pointer (some ⟨p2, 0, none⟩), .nilIface]) ∧ Tw w0 w' p1 s1 l1 m1 p2 s2 [] [] K := by
  obtain ⟨⟨_, p, F, he, hs⟩ | ⟨hn, _⟩, hb2⟩ := hn
  · refine ⟨p, he, F, ?_, hs.base h.bel.size, fun k hk hf => ?_⟩
    · obtain ⟨F1, h1, h2⟩ := h.st
      refine ⟨⟨F1, h1.keep (tch_new hb2) (fun _ _ h => h), fun k hk hf => ?_⟩, bl_tr h.bel hb2, fun k hk => ?_⟩
      · rcases hk with hk | hk
        · exact h2 k hk hf
        · have := (hs.blocks k hk).1
          have := (h1.blocks k hf).2
          omega
      · rcases hk with hk | hk
        · exact Nat.lt_of_lt_of_le (h.lt k hk) hb2.size
        · exact (hs.blocks k hk).2
    · have := (hs.blocks k hf).1
      have := h.lt k hk
      omega
  · exact absurd hz hn
/-- Put of rows into the first one. -/
theorem Tw.put (h : Tw w0 w p1 s1 l1 m1 p2 s2 l2 m2 K) (k : Ky) (b n : Nat) (us : List Value) (ps : List (List Int)) (hk : k.length ≤ maxLen) (hp : RsIn w b n us ps) (hn : n ≤ 1048576) (hs : ps.flatten.length ≤ 1152921504606846976) :
    Calls Try.prog 35 #[.pointer (some ⟨p1, 0, none⟩), sv k, .slice (some ⟨b, 0, none⟩) n n] w fun e w' => e = .returned (errF (putN s1 k ps.flatten l1 : Nat)) ∧ Tw w0 w' p1 s1 (putL s1 k ps.flatten l1) m1 p2 s2 l2 m2 K ∧ w.heap.size ≤ w'.heap.size := by
  obtain ⟨F2, h1, h2, h3⟩ := h
  obtain ⟨F, h4, h5⟩ := h1.st
  refine (put_c w0.heap.size F _ s1 l1 m1 k b n us ps w (.inr ⟨p1, rfl, h4⟩) h1.bel.size hk hp hn hs).mono ?_
  rintro e w' ⟨he, hT⟩
  have hsz : w.heap.size ≤ w'.heap.size := by obtain ⟨_, _, _, ht⟩ := hT; exact ht.size
  obtain ⟨h6, h7⟩ := hT.on h1.bel (fun k hk => (h4.blocks k hk).1) h5 h1.lt
  exact ⟨he, ⟨F2, h6, h2.kpt h1.bel h6.bel hsz (h7.less (fun k hk => .inr hk)), h3⟩, hsz⟩
theorem Tw.put1 (h : Tw w0 w p1 s1 l1 m1 p2 s2 l2 m2 K) (k : Ky) (hk : k.length ≤ maxLen) {a : Option Addr} {n c : Nat} {r : List Int} (hr : In w a n c r) (hn : n ≤ 140737488355328) :
    Calls Try.prog 35 #[.pointer (some ⟨p1, 0, none⟩), sv k, .slice (some ⟨w.heap.size, 0, none⟩) 1 1] (w.alloc (.cells #[.slice a n c] tyB)) fun e w' => e = .returned (errF (putN s1 k r l1 : Nat)) ∧ Tw w0 w' p1 s1 (putL s1 k r l1) m1 p2 s2 l2 m2 K := by
  have hO := h.new (bl_al (Below.refl _ _) (.cells #[.slice a n c] tyB))
  have hlen := hr.len
  refine (hO.put k w.heap.size 1 _ [r] hk (RsIn.one hr) (by omega) (by simp; omega)).mono ?_
  rintro e w' ⟨rfl, h1, h2⟩
  rw [flat1] at h1 ⊢
  exact ⟨rfl, h1⟩
theorem Tw.get (h : Tw w0 w p1 s1 l1 m1 p2 s2 l2 m2 K) (k : Ky) (hk : k.length ≤ maxLen) :
    Calls Try.prog 45 #[.pointer (some ⟨p1, 0, none⟩), sv k] w fun e w' => GetV w (findP k l1) e w' := by
  obtain ⟨F2, h1, _⟩ := h
  exact h1.get k hk
theorem Tw.used (h : Tw w0 w p1 s1 l1 m1 p2 s2 l2 m2 K) :
    Calls Try.prog 49 #[.pointer (some ⟨p1, 0, none⟩)] w fun e w' => e = .returned (.int .i64 (usedP l1 : Nat)) ∧ Tch Non w w' := by
  obtain ⟨F2, h1, _⟩ := h
  exact h1.used
theorem Tw.keys (h : Tw w0 w p1 s1 l1 m1 p2 s2 l2 m2 K) :
    Calls Try.prog 48 #[.pointer (some ⟨p1, 0, none⟩)] w fun e w' => ∃ v, e = .returned v ∧ w'.ownsRow w.heap.size tyK 1 v l1.length (l1.map (fun e => sv e.k)) ∧ Tch Non w w' := by
  obtain ⟨F2, h1, _⟩ := h
  exact h1.keys
end
/-- Unlike keys may be put in any order. -/
theorem put_small {k : Ky} {r : List Int} {l : List Pr} (h : usedP l + r.length ≤ 1000000) : putN 1048576 k r l = (if OkK k then 0 else 9) := by
  by_cases hk : OkK k
  · rw [if_pos hk]
    refine putN_ok hk ?_
    have := used_cut_le k l
    have := hk.2
    omega
  · rw [if_neg hk]; exact putN_bad hk
theorem putL_small {k : Ky} {r : List Int} {l : List Pr} (h : usedP l + r.length ≤ 1000000) : putL 1048576 k r l = (if OkK k then putP k r l else l) := by
  unfold putL
  rw [put_small h]
  by_cases hk : OkK k
  · rw [if_pos hk, if_pos hk, if_pos rfl]
  · rw [if_neg hk, if_neg hk, if_neg (by decide)]
theorem used_one {k : Ky} {r : List Int} (hk : OkK k) : usedP (putP k r []) ≤ 64 + r.length := by
  rw [used_put]
  have := hk.2
  simp [cutP, usedP]
  omega
theorem used_first {k : Ky} {r : List Int} (h : r.length ≤ 65536) : usedP (putL 1048576 k r []) ≤ 64 + r.length := by
  rw [putL_small (by simp [usedP]; omega)]
  by_cases hk : OkK k
  · rw [if_pos hk]; exact used_one hk
  · rw [if_neg hk]; simp [usedP]
theorem put_comm {a b : Ky} (hab : a ≠ b) (x y : List Int) (h : x.length + y.length ≤ 65536) : putL 1048576 b y (putL 1048576 a x []) = putL 1048576 a x (putL 1048576 b y []) ∧ putN 1048576 a x [] = putN 1048576 a x (putL 1048576 b y []) ∧ putN 1048576 b y (putL 1048576 a x []) = putN 1048576 b y [] := by
  have u1 := used_first (k := a) (r := x) (by omega)
  have u2 := used_first (k := b) (r := y) (by omega)
  refine ⟨?_, ?_, ?_⟩
  · rw [putL_small (l := putL 1048576 a x []) (by omega), putL_small (l := putL 1048576 b y []) (by omega), putL_small (k := a) (l := []) (by simp [usedP]; omega), putL_small (k := b) (l := []) (by simp [usedP]; omega)]
    by_cases ha : OkK a
    · by_cases hb : OkK b
      · rw [if_pos ha, if_pos hb]
        have hn : SrtP [] := List.Pairwise.nil
        simp only [if_pos ha, if_pos hb]
        refine pr_ext (srt_put (srt_put hn)) (srt_put (srt_put hn)) (fun k => ?_)
        rw [findP_put, findP_put, findP_put, findP_put]
        by_cases e1 : k = b
        · have e2 : k ≠ a := fun e => hab (e.symm.trans e1)
          rw [if_pos e1, if_neg e2, if_pos e1]
        · rw [if_neg e1]
          by_cases e2 : k = a
          · rw [if_pos e2, if_pos e2]
          · rw [if_neg e2, if_neg e2, if_neg e1]
      · rw [if_neg hb, if_pos ha, if_neg hb]
        simp only [if_pos ha]
    · rw [if_neg ha]
      by_cases hb : OkK b
      · simp only [if_neg ha, if_pos hb]
      · simp only [if_neg ha, if_neg hb]
  · rw [put_small (by simp [usedP]; omega), put_small (by omega)]
  · rw [put_small (l := putL 1048576 a x []) (by omega), put_small (by simp [usedP]; omega)]
end Go.Proofs.Ytpbgccidhpfmgaa
