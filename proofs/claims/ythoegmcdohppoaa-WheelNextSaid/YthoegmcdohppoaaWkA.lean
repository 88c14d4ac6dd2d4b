/- Contract of towpathlaw10.alive: it returns true. No conditions. -/
import Derived.Test.YthoegmcdohppoaaWc
import Derived.Deep.RegionHeld3
namespace Go.Proofs.Ythoegmcdohppoaa
open Go Go.RowKit
set_option linter.unusedVariables false
set_option linter.unusedSimpArgs false

theorem nilEq (w : World) : (binOp .neq 26 .nilIface .nilIface).run Try.prog w = .ok (.bool false) w := by kernel_rfl
theorem in_twoT (w : World) (x y : Int) (hx : -9223372036854775808 ≤ x ∧ x < 9223372036854775808) (hy : -9223372036854775808 ≤ y ∧ y < 9223372036854775808) : InI (w.alloc (.cells #[.int .i64 x, .int .i64 y] 3)) (some ⟨w.heap.size, 0, none⟩) 2 2 [x, y] :=
  own_inI (own_litI w [x, y] _ rfl 2 _ rfl (Nat.le_refl _) (by decide)) rfl (fun z hz => by simp at hz; rcases hz with rfl | rfl <;> assumption)
/-- A wheel of the call's own: how it goes on. -/
structure WOn (w0 w : World) (p : Nat) (ts : List Wy) : Prop where
  st : ∃ F, WSt w w0.heap.size F p ts
  bel : Below w0.heap.size w0 w
theorem WTo.on {w0 w w' : World} {F : Nat → Prop} {p : Nat} {ts us : List Wy} (hb : Below w0.heap.size w0 w) (hF : ∀ k, F k → w0.heap.size ≤ k) (h : WTo WSt w w0.heap.size F p us w') : WOn w0 w' p us := by
  obtain ⟨F2, h1, _, h3⟩ := h
  exact ⟨⟨F2, h1⟩, hb.trans (h3.below hF hb.size)⟩
theorem WOn.new {w0 w w' : World} {p : Nat} {ts : List Wy} (h : WOn w0 w p ts) (hb : Below w.heap.size w w') : WOn w0 w' p ts := by
  obtain ⟨F, h1⟩ := h.st
  exact ⟨⟨F, h1.keep (tch_new hb) (fun _ _ h => h)⟩, bl_tr h.bel hb⟩
/-- A row of numbers made right here. -/
theorem WOn.set {w0 w : World} {p : Nat} {ts : List Wy} (h : WOn w0 w p ts) {W : World} (hb : Below w.heap.size w W) (a : Int) (ks : List Int) (n c : Nat) (hI : InI W (some ⟨w.heap.size, 0, none⟩) n c ks) (hn : ts.length + n ≤ 1048576) (ha : I64 a) :
    Calls Try.prog 13 #[.pointer (some ⟨p, 0, none⟩), .int .i64 a, .slice (some ⟨w.heap.size, 0, none⟩) n c] W fun e w' => e = .returned (errT (setR a ks ts).1) ∧ WOn w0 w' p (setR a ks ts).2 := by
  obtain ⟨F, h1⟩ := h.st
  have h2 := h1.keep (tch_new hb) (fun _ _ h => h)
  refine (wset_t w0.heap.size p F ts a ks (some ⟨w.heap.size, 0, none⟩) n c W h2 (bl_tr h.bel hb).size ⟨hI, fun b off e _ hf => ?_⟩ hn ha).mono ?_
  · cases e
    have := (h1.blocks _ hf).2
    omega
  · rintro e w' ⟨he, hT⟩
    exact ⟨he, WTo.on (ts := ts) (bl_tr h.bel hb) (fun k hk => (h2.blocks k hk).1) hT⟩
theorem WOn.next {w0 w : World} {p : Nat} {ts : List Wy} (h : WOn w0 w p ts) (hn : ts.length ≤ 1048576) :
    Calls Try.prog 22 #[.pointer (some ⟨p, 0, none⟩)] w fun e w' => e = .returned (atR (nextT ts)) ∧ WOn w0 w' p ts := by
  obtain ⟨F, h1⟩ := h.st
  refine (wnext_t w0.heap.size p F ts w h1 h.bel.size hn).mono ?_
  rintro e w' ⟨he, hT⟩
  exact ⟨he, WTo.on (ts := ts) h.bel (fun k hk => (h1.blocks k hk).1) hT⟩
theorem WOn.len {w0 w : World} {p : Nat} {ts : List Wy} (h : WOn w0 w p ts) (hn : ts.length ≤ 1048576) :
    Calls Try.prog 24 #[.pointer (some ⟨p, 0, none⟩)] w fun e w' => e = .returned (.int .i64 (ts.length : Nat)) ∧ WOn w0 w' p ts := by
  obtain ⟨F, h1⟩ := h.st
  refine (wlen_t w0.heap.size p F ts w h1 h.bel.size hn).mono ?_
  rintro e w' ⟨he, hT⟩
  exact ⟨he, WTo.on (ts := ts) h.bel (fun k hk => (h1.blocks k hk).1) hT⟩
theorem WOn.key {w0 w : World} {p : Nat} {ts : List Wy} (h : WOn w0 w p ts) (key : Int) (hn : ts.length ≤ 1048576) (hk : I64 key) :
    Calls Try.prog 17 #[.pointer (some ⟨p, 0, none⟩), .int .i64 key] w fun e w' => e = .returned (atR (atT key ts)) ∧ WOn w0 w' p ts := by
  obtain ⟨F, h1⟩ := h.st
  refine (wat_t w0.heap.size p F ts key w h1 h.bel.size hn hk).mono ?_
  rintro e w' ⟨he, hT⟩
  exact ⟨he, WTo.on (ts := ts) h.bel (fun k hk => (h1.blocks k hk).1) hT⟩
/-- What is due: a row of its own, which the wheel does not touch any more. -/
theorem WOn.due {w0 w : World} {p : Nat} {ts : List Wy} (h : WOn w0 w p ts) (now : Int) (hn : ts.length ≤ 1048576) (hk : I64 now) :
    Calls Try.prog 20 #[.pointer (some ⟨p, 0, none⟩), .int .i64 now] w fun e w' => ∃ a c, e = .returned (.slice a (dueT now ts).length c) ∧ InI w' a (dueT now ts).length c (dueT now ts) ∧ WOn w0 w' p (leftT now ts) := by
  obtain ⟨F, h1⟩ := h.st
  refine (wdue_t w0.heap.size p F ts now w h1 h.bel.size hn hk).mono ?_
  rintro e w' ⟨F2, a, c, he, ho, _, hS, hF2, hT⟩
  refine ⟨a, c, he, own_inI ho rfl (fun x hx => ?_), ⟨⟨F2, hS⟩, h.bel.trans (hT.below (fun k hk => (h1.blocks k hk).1) h.bel.size)⟩⟩
  unfold dueT at hx
  obtain ⟨t, ht, rfl⟩ := List.mem_map.1 hx
  have := (h1.fit t ((srtW_perm ts).mem_iff.1 (List.mem_filter.1 ht).1)).2
  unfold I64 at this
  omega
theorem WOn.made {w w' : World} {s : Int} {e : Ending} (hs : OkS s) (h : WNew WSt w s e w') : ∃ p, e = .returned (.tuple #[.pointer (some ⟨p, 0, none⟩), .nilIface]) ∧ WOn w w' p [] := by
  rcases h.1 with ⟨_, p, F, he, hS⟩ | ⟨hn, _⟩
  · exact ⟨p, he, ⟨F, hS⟩, h.2⟩
  · exact absurd hs hn
theorem WOn.lower {w0 w1 w : World} {p : Nat} {ts : List Wy} (hb : Below w0.heap.size w0 w1) (h : WOn w1 w p ts) : Below w0.heap.size w0 w := bl_tr hb h.bel
end Go.Proofs.Ythoegmcdohppoaa
