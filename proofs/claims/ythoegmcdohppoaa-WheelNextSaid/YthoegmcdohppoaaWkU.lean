/- When keys are due; a row of numbers by its cells; a wheel apart from a row. No conditions but those stated. -/
import Derived.Test.YthoegmcdohppoaaWkX
namespace Go.Proofs.Ythoegmcdohppoaa
open Go Go.RowKit
set_option linter.unusedVariables false
set_option linter.unusedSimpArgs false

/-- z says which is the first from lo on (below hi) that isn't ahead of a: its number and one; nought: none. -/
def Fst (a : Int) (ns : List Int) (lo hi : Nat) (z : Int) : Prop :=
  (z = 0 ∧ ∀ i, lo ≤ i → i < hi → ns.getD i 0 < a) ∨ (∃ i : Nat, lo ≤ i ∧ i < hi ∧ z = (i : Int) + 1 ∧ a ≤ ns.getD i 0 ∧ ∀ k, lo ≤ k → k < i → ns.getD k 0 < a)
theorem fst_one {a : Int} {ns : List Int} {lo hi : Nat} {y z : Int} (h : Fst a ns lo hi y) (h2 : Fst a ns lo hi z) : y = z := by
  rcases h with ⟨rfl, h⟩ | ⟨i, h1, h2', rfl, h3, h4⟩ <;> rcases h2 with ⟨rfl, g⟩ | ⟨k, g1, g2, rfl, g3, g4⟩
  · rfl
  · have := h k g1 g2; omega
  · have := g i h1 h2'; omega
  · rcases Nat.lt_trichotomy i k with q | q | q
    · have := g4 i h1 q; omega
    · subst q; rfl
    · have := h4 k g1 q; omega
theorem fst_end0 (a : Int) (ns : List Int) (n : Nat) : Fst a ns n n 0 := .inl ⟨rfl, fun i h1 h2 => by omega⟩
/-- One more at the end. -/
theorem fst_up {a : Int} {ns : List Int} {i : Nat} {z : Int} (h : Fst a ns 0 i z) : Fst a ns 0 (i + 1) (if z = 0 ∧ a ≤ ns.getD i 0 then (i : Int) + 1 else z) := by
  rcases h with ⟨rfl, h⟩ | ⟨k, h1, h2, rfl, h3, h4⟩
  · by_cases q : a ≤ ns.getD i 0
    · rw [if_pos ⟨rfl, q⟩]
      exact .inr ⟨i, by omega, by omega, rfl, q, h⟩
    · rw [if_neg (fun e => q e.2)]
      refine .inl ⟨rfl, fun k h1 h2 => ?_⟩
      by_cases e : k = i
      · subst e; omega
      · exact h k h1 (by omega)
  · rw [if_neg (fun e => by omega)]
    exact .inr ⟨k, h1, by omega, rfl, h3, h4⟩
/-- One more ahead. -/
theorem fst_dn_yes {a : Int} {ns : List Int} {i n : Nat} {z : Int} (hi : i < n) (q : a ≤ ns.getD i 0) : Fst a ns i n ((i : Int) + 1) := .inr ⟨i, by omega, hi, rfl, q, fun k h1 h2 => by omega⟩
theorem fst_dn_no {a : Int} {ns : List Int} {i n : Nat} {z : Int} (h : Fst a ns (i + 1) n z) (q : ¬ a ≤ ns.getD i 0) : Fst a ns i n z := by
  rcases h with ⟨rfl, h⟩ | ⟨k, h1, h2, rfl, h3, h4⟩
  · refine .inl ⟨rfl, fun k h1 h2 => ?_⟩
    by_cases e : k = i
    · subst e; omega
    · exact h k (by omega) h2
  · refine .inr ⟨k, by omega, h2, rfl, h3, fun j h5 h6 => ?_⟩
    by_cases e : j = i
    · subst e; omega
    · exact h4 j (by omega) h6
/-- The row's numbers, and the wheel's timers, behind i calls of Due. -/
def DuF (l ns : List Int) (n i : Nat) (f : Nat → Int) : Prop := ∀ k, k < n → (OkA (l.getD k 0) → Fst (l.getD k 0) ns 0 i (f k)) ∧ (¬ OkA (l.getD k 0) → f k = -1)
structure LeF (l ns : List Int) (n i : Nat) (ts : List Wy) : Prop where
  key : KeyT ts
  len : ts.length ≤ n
  mem : ∀ t, t ∈ ts ↔ ∃ k : Nat, k < n ∧ OkA (l.getD k 0) ∧ t = (l.getD k 0, (k : Int)) ∧ ∀ j, j < i → ns.getD j 0 < l.getD k 0
theorem LeF.zero (l ns : List Int) (n : Nat) : LeF l ns n 0 (addT l n) := ⟨addT_key, addT_len, fun t => by
  rw [addT_mem]
  constructor
  · rintro ⟨k, h1, h2, h3⟩; exact ⟨k, h1, h2, h3, fun j hj => by omega⟩
  · rintro ⟨k, h1, h2, h3, _⟩; exact ⟨k, h1, h2, h3⟩⟩
theorem LeF.step {l ns : List Int} {n i : Nat} {ts : List Wy} (h : LeF l ns n i ts) : LeF l ns n (i + 1) (leftT (ns.getD i 0) ts) := by
  refine ⟨h.key.left _, Nat.le_trans (leftT_len _ _) h.len, fun t => ?_⟩
  unfold leftT
  rw [List.mem_filter, h.mem]
  constructor
  · rintro ⟨⟨k, h1, h2, rfl, h4⟩, h5⟩
    refine ⟨k, h1, h2, rfl, fun j hj => ?_⟩
    by_cases e : j = i
    · subst e; simpa using h5
    · exact h4 j (by omega)
  · rintro ⟨k, h1, h2, rfl, h4⟩
    exact ⟨⟨k, h1, h2, rfl, fun j hj => h4 j (by omega)⟩, by simpa using h4 i (by omega)⟩
theorem dueT_mem {now k : Int} {ts : List Wy} : k ∈ dueT now ts ↔ ∃ a, (a, k) ∈ ts ∧ a ≤ now := by
  unfold dueT
  rw [List.mem_map]
  constructor
  · rintro ⟨t, ht, rfl⟩
    have h := List.mem_filter.1 ht
    exact ⟨t.1, (srtW_perm ts).mem_iff.1 h.1, by simpa using h.2⟩
  · rintro ⟨a, h1, h2⟩
    exact ⟨(a, k), List.mem_filter.2 ⟨(srtW_perm ts).mem_iff.2 h1, by simpa using h2⟩, rfl⟩
theorem dueT_nodup {now : Int} {ts : List Wy} (h : KeyT ts) : (dueT now ts).Nodup := by
  have h1 : KeyT (srtW ts) := h.perm (srtW_perm ts).symm
  unfold KeyT at h1
  unfold dueT
  exact h1.sublist (List.Sublist.map _ List.filter_sublist)
theorem DuF.mem {l ns : List Int} {n i : Nat} {ts : List Wy} {f : Nat → Int} (hf : DuF l ns n i f) (h : LeF l ns n i ts) {k : Nat} (hk : k < n) : ((k : Int) ∈ dueT (ns.getD i 0) ts) ↔ OkA (l.getD k 0) ∧ f k = 0 ∧ l.getD k 0 ≤ ns.getD i 0 := by
  rw [dueT_mem]
  constructor
  · rintro ⟨a, h1, h2⟩
    obtain ⟨j, hj, h3, h4, h5⟩ := (h.mem _).1 h1
    have e1 : (k : Int) = j := congrArg Prod.snd h4
    have e2 : a = l.getD j 0 := congrArg Prod.fst h4
    have : k = j := by omega
    subst this
    refine ⟨h3, fst_one ((hf k hk).1 h3) (.inl ⟨rfl, fun j _ hj => h5 j hj⟩), by omega⟩
  · rintro ⟨h1, h2, h3⟩
    refine ⟨l.getD k 0, (h.mem _).2 ⟨k, hk, h1, rfl, fun j hj => ?_⟩, h3⟩
    rcases (hf k hk).1 h1 with ⟨_, h4⟩ | ⟨q, _, _, h5, _⟩
    · exact h4 j (by omega) hj
    · omega
theorem dueT_nat {l ns : List Int} {n i : Nat} {ts : List Wy} (h : LeF l ns n i ts) {now x : Int} (hx : x ∈ dueT now ts) : ∃ k : Nat, k < n ∧ x = k := by
  obtain ⟨a, h1, _⟩ := dueT_mem.1 hx
  obtain ⟨k, hk, _, h2, _⟩ := (h.mem _).1 h1
  exact ⟨k, hk, congrArg Prod.snd h2⟩
/-- Some of those that are due have got their number. -/
def Mid (n i : Nat) (o : List Int) (f0 f : Nat → Int) : Prop := ∀ k, k < n → f k = if (k : Int) ∈ o then (i : Int) + 1 else f0 k
theorem DuF.step {l ns : List Int} {n i : Nat} {ts : List Wy} {f0 f : Nat → Int} (hf : DuF l ns n i f0) (h : LeF l ns n i ts) (hm : Mid n i (dueT (ns.getD i 0) ts) f0 f) : DuF l ns n (i + 1) f := by
  intro k hk
  have e := hm k hk
  have hd := hf.mem h hk
  refine ⟨fun hA => ?_, fun hA => ?_⟩
  · have h1 := fst_up ((hf k hk).1 hA)
    rw [e]
    by_cases q : f0 k = 0 ∧ l.getD k 0 ≤ ns.getD i 0
    · rw [if_pos q] at h1
      rw [if_pos (hd.2 ⟨hA, q.1, q.2⟩)]
      exact h1
    · rw [if_neg q] at h1
      rw [if_neg (fun e => q ⟨(hd.1 e).2.1, (hd.1 e).2.2⟩)]
      exact h1
  · rw [e, if_neg (fun e => hA (hd.1 e).1)]
    exact (hf k hk).2 hA
theorem Mid.step {n i q : Nat} {ks : List Int} {f0 f : Nat → Int} {k : Nat} (hm : Mid n i (ks.take q) f0 f) (hq : q < ks.length) (e : ks.getD q 0 = k) : Mid n i (ks.take (q + 1)) f0 (fun j => if j = k then (i : Int) + 1 else f j) := by
  intro j hj
  rw [take_more ks 0 hq, e]
  have := hm j hj
  simp only [List.mem_append, List.mem_singleton]
  by_cases h : j = k
  · subst h; simp
  · have h2 : ¬ (j : Int) = k := by omega
    rw [if_neg h, this]
    simp only [h2, or_false]
theorem Mid.out {n i q : Nat} {ks : List Int} {f0 f : Nat → Int} {k : Nat} (hm : Mid n i (ks.take q) f0 f) (hk : k < n) (hn : ks.Nodup) (hq : q < ks.length) (e : ks.getD q 0 = k) : f k = f0 k := by
  rw [hm k hk, if_neg]
  intro h
  obtain ⟨j, hj, h2⟩ := List.mem_iff_getElem.1 h
  have hjq : j < q := by rw [List.length_take] at hj; omega
  rw [List.getElem_take] at h2
  rw [List.getD_eq_getElem?_getD, List.getElem?_eq_getElem hq, Option.getD_some] at e
  exact (List.pairwise_iff_getElem.1 hn j q (by omega) hq hjq) (by rw [h2, e])
/-- A row of numbers of the call's own, by its cells. -/
structure DR (w : World) (B g n : Nat) (f : Nat → Int) : Prop where
  here : ∃ D : List Int, w.ownsRow B 3 1 (.slice (some ⟨g, 0, none⟩) n n) n (i64s D) ∧ D.length = n ∧ ∀ k, k < n → D.getD k 0 = f k
  hg : B ≤ g
theorem DR.cell {w : World} {B g n : Nat} {f : Nat → Int} (h : DR w B g n f) {k : Nat} (hk : k < n) : w.cell? ⟨g, k, none⟩ = some (.int .i64 (f k)) ∧ w.frozen? ⟨g, k, none⟩ = false := by
  obtain ⟨D, ho, hl, hf⟩ := h.here
  rw [← hf k hk]
  exact ⟨(ho.cellAt k (by omega)).trans (i64s_at (by omega)), ho.frozenAt k⟩
theorem DR.put {w : World} {B g n : Nat} {f : Nat → Int} (h : DR w B g n f) (k : Nat) (x : Int) : DR (w.setCell ⟨g, k, none⟩ (.int .i64 x)) B g n (fun j => if j = k then x else f j) := by
  obtain ⟨D, ho, hl, hf⟩ := h.here
  have h1 := (ho.stored k (.int .i64 x)).1
  rw [show (i64s D).set k (.int .i64 x) = i64s (D.set k x) by unfold i64s; rw [List.map_set]] at h1
  refine ⟨⟨D.set k x, h1, by rw [List.length_set]; exact hl, fun j hj => ?_⟩, h.hg⟩
  rw [List.getD_eq_getElem?_getD]
  by_cases e : j = k
  · subst e
    rw [List.getElem?_set_self (by omega), if_pos rfl]
    rfl
  · rw [List.getElem?_set_ne (by omega), if_neg e, ← List.getD_eq_getElem?_getD]
    exact hf j hj
theorem DR.keep {T : Nat → Prop} {w w' : World} {B g n : Nat} {f : Nat → Int} (h : DR w B g n f) (ht : Tch T w w') (hn : ¬ T g) : DR w' B g n f := by
  obtain ⟨D, ho, hl, hf⟩ := h.here
  exact ⟨⟨D, ht.own ho (fun k hk => by cases hk; exact hn), hl, hf⟩, h.hg⟩
theorem DR.lt {w : World} {B g n : Nat} {f : Nat → Int} (h : DR w B g n f) : g < w.heap.size := by
  obtain ⟨D, ho, _⟩ := h.here
  exact (ho.lt g rfl).2
theorem DR.eq {w : World} {B g n : Nat} {f f' : Nat → Int} (h : DR w B g n f) (he : ∀ k, k < n → f k = f' k) : DR w B g n f' := by
  obtain ⟨D, ho, hl, hf⟩ := h.here
  exact ⟨⟨D, ho, hl, fun k hk => (hf k hk).trans (he k hk)⟩, h.hg⟩
/-- A wheel and a row, apart. -/
structure WOg (w0 w : World) (p g n : Nat) (ts : List Wy) (f : Nat → Int) : Prop where
  st : ∃ F, WSt w w0.heap.size F p ts ∧ ¬ F g
  bel : Below w0.heap.size w0 w
  row : DR w w0.heap.size g n f
theorem WOg.put {w0 w : World} {p g n : Nat} {ts : List Wy} {f : Nat → Int} (h : WOg w0 w p g n ts f) (k : Nat) (x : Int) : WOg w0 (w.setCell ⟨g, k, none⟩ (.int .i64 x)) p g n ts (fun j => if j = k then x else f j) := by
  obtain ⟨F, h1, h2⟩ := h.st
  exact ⟨⟨F, h1.keep (tch_set w ⟨g, k, none⟩ (.int .i64 x)) (fun b hb e => h2 (by subst e; exact hb)), h2⟩, h.bel.setCell (p := ⟨g, k, none⟩) h.row.hg _, h.row.put k x⟩
theorem WOg.eq {w0 w : World} {p g n : Nat} {ts : List Wy} {f f' : Nat → Int} (h : WOg w0 w p g n ts f) (he : ∀ k, k < n → f k = f' k) : WOg w0 w p g n ts f' := ⟨h.st, h.bel, h.row.eq he⟩
theorem WOg.to {w0 w w' : World} {p g n : Nat} {ts us : List Wy} {f : Nat → Int} {F : Nat → Prop} (hF : ∀ k, F k → w0.heap.size ≤ k) (hg : ¬ F g) (hb : Below w0.heap.size w0 w) (hr : DR w w0.heap.size g n f) {F2 : Nat → Prop} (h1 : WSt w' w0.heap.size F2 p us) (h2 : ∀ k, F2 k → F k ∨ w.heap.size ≤ k) (h3 : Tch F w w') : WOg w0 w' p g n us f :=
  ⟨⟨F2, h1, fun h => (h2 g h).elim hg (fun h => by have := hr.lt; omega)⟩, hb.trans (h3.below hF hb.size), hr.keep h3 hg⟩
theorem WOg.set {w0 w : World} {p g n : Nat} {ts : List Wy} {f : Nat → Int} (h : WOg w0 w p g n ts f) {W : World} (hb : Below w.heap.size w W) (a : Int) (ks : List Int) (m c : Nat) (hI : InI W (some ⟨w.heap.size, 0, none⟩) m c ks) (hn : ts.length + m ≤ 1048576) (ha : I64 a) :
    Calls Try.prog 13 #[.pointer (some ⟨p, 0, none⟩), .int .i64 a, .slice (some ⟨w.heap.size, 0, none⟩) m c] W fun e w' => e = .returned (errT (setR a ks ts).1) ∧ WOg w0 w' p g n (setR a ks ts).2 f := by
  obtain ⟨F, h1, h1g⟩ := h.st
  have h2 := h1.keep (tch_new hb) (fun _ _ h => h)
  refine (wset_t w0.heap.size p F ts a ks (some ⟨w.heap.size, 0, none⟩) m c W h2 (bl_tr h.bel hb).size ⟨hI, fun b off e _ hf => ?_⟩ hn ha).mono ?_
  · cases e
    have := (h1.blocks _ hf).2
    omega
  · rintro e w' ⟨he, F2, q1, q2, q3⟩
    exact ⟨he, WOg.to (ts := ts) (fun k hk => (h2.blocks k hk).1) h1g (bl_tr h.bel hb) (h.row.keep (tch_new hb) (fun h => h)) q1 q2 q3⟩
theorem WOg.due {w0 w : World} {p g n : Nat} {ts : List Wy} {f : Nat → Int} (h : WOg w0 w p g n ts f) (now : Int) (hn : ts.length ≤ 1048576) (hk : I64 now) :
    Calls Try.prog 20 #[.pointer (some ⟨p, 0, none⟩), .int .i64 now] w fun e w' => ∃ a c, e = .returned (.slice a (dueT now ts).length c) ∧ InI w' a (dueT now ts).length c (dueT now ts) ∧ (∀ b off, a = some ⟨b, off, none⟩ → b ≠ g) ∧ WOg w0 w' p g n (leftT now ts) f := by
  obtain ⟨F, h1, h1g⟩ := h.st
  refine (wdue_t w0.heap.size p F ts now w h1 h.bel.size hn hk).mono ?_
  rintro e w' ⟨F2, a, c, he, ho, _, hS, hF2, hT⟩
  refine ⟨a, c, he, own_inI ho rfl (fun x hx => ?_), fun b off e hb => ?_, WOg.to (ts := ts) (fun k hk => (h1.blocks k hk).1) h1g h.bel h.row hS hF2 hT⟩
  · unfold dueT at hx
    obtain ⟨t, ht, rfl⟩ := List.mem_map.1 hx
    have := (h1.fit t ((srtW_perm ts).mem_iff.1 (List.mem_filter.1 ht).1)).2
    unfold I64 at this
    omega
  · subst e hb
    rcases ho.2 with ⟨e, _⟩ | ⟨g', cap', cur, e, h3, _⟩
    · simp at e
    · simp only [Value.slice.injEq, Option.some.injEq, Addr.mk.injEq] at e
      have := h.row.lt
      omega
end Go.Proofs.Ythoegmcdohppoaa
