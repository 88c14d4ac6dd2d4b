/- The walk of QueueOrders over the contracts of package queue. Conditions: the arguments came in. -/
import Derived.Test.YtdjeacmonlgdhaaQPl
namespace Go.Proofs.Ytdjeacmonlgdhaa
open Go Go.RowKit
set_option linter.unusedVariables false
set_option linter.unusedSimpArgs false

/-- Bools that came in. -/
structure BsIn (w : World) (ao : Option Addr) (n : Nat) (bs : List Bool) : Prop where
  len : bs.length = n
  here : n = 0 ∨ ∃ b off, ao = some ⟨b, off, none⟩ ∧ ∀ j, j < n → w.cell? ⟨b, off + j, none⟩ = some (.bool (bs.getD j false))
theorem BsIn.below {w w' : World} {ao : Option Addr} {n : Nat} {bs : List Bool} (h : BsIn w ao n bs) (hb : Below w.heap.size w w') : BsIn w' ao n bs :=
  ⟨h.len, h.here.imp id (fun ⟨b, off, e, hc⟩ => ⟨b, off, e, fun j hj => cell_later hb (hc j hj)⟩)⟩
/-- Two rows of rows and the rows that live, all apart, and apart of F. -/
structure Liv (w : World) (F : Nat → Prop) (P G : Value) (rs : List Value) : Prop where
  pg : Aprt P G
  pr : ∀ r ∈ rs, Aprt P r
  gr : ∀ r ∈ rs, Aprt G r
  rr : rs.Pairwise Aprt
  pf : ∀ k, P.ownBlock = some k → ¬ F k
  gf : ∀ k, G.ownBlock = some k → ¬ F k
  rf : ∀ r ∈ rs, ∀ k, r.ownBlock = some k → ¬ F k
  pl : ∀ k, P.ownBlock = some k → k < w.heap.size
  gl : ∀ k, G.ownBlock = some k → k < w.heap.size
  rl : ∀ r ∈ rs, ∀ k, r.ownBlock = some k → k < w.heap.size
  fl : ∀ k, F k → k < w.heap.size
theorem Liv.grow {w w' : World} {F : Nat → Prop} {P G : Value} {rs : List Value} (h : Liv w F P G rs) (hs : w.heap.size ≤ w'.heap.size) : Liv w' F P G rs :=
  ⟨h.pg, h.pr, h.gr, h.rr, h.pf, h.gf, h.rf, fun k hk => Nat.lt_of_lt_of_le (h.pl k hk) hs, fun k hk => Nat.lt_of_lt_of_le (h.gl k hk) hs, fun r hr k hk => Nat.lt_of_lt_of_le (h.rl r hr k hk) hs, fun k hk => Nat.lt_of_lt_of_le (h.fl k hk) hs⟩
theorem Liv.put {w w' : World} {F : Nat → Prop} {P G : Value} {rs us : List Value} (h : Liv w F P G rs) (hs : w.heap.size ≤ w'.heap.size) (hu : ∀ u ∈ us, ∀ k, u.ownBlock = some k → w.heap.size ≤ k ∧ k < w'.heap.size) (hp : us.Pairwise Aprt) : Liv w' F P G (rs ++ us) := by
  have g := h.grow hs
  refine ⟨h.pg, fun r hr => ?_, fun r hr => ?_, List.pairwise_append.2 ⟨h.rr, hp, aprt_new (w := w) h.rl (fun u hu' k hk => (hu u hu' k hk).1)⟩, h.pf, h.gf, fun r hr => ?_, g.pl, g.gl, fun r hr => ?_, g.fl⟩
  · rcases List.mem_append.1 hr with hr | hr
    · exact h.pr r hr
    · intro k hk hk2
      have := h.pl k hk
      have := (hu r hr k hk2).1
      omega
  · rcases List.mem_append.1 hr with hr | hr
    · exact h.gr r hr
    · intro k hk hk2
      have := h.gl k hk
      have := (hu r hr k hk2).1
      omega
  · rcases List.mem_append.1 hr with hr | hr
    · exact h.rf r hr
    · intro k hk hf
      have := h.fl k hf
      have := (hu r hr k hk).1
      omega
  · rcases List.mem_append.1 hr with hr | hr
    · exact g.rl r hr
    · exact fun k hk => (hu r hr k hk).2
theorem Liv.p' {w w' : World} {F : Nat → Prop} {P P' G : Value} {rs : List Value} (h : Liv w F P G rs) (hs : w.heap.size ≤ w'.heap.size) (hp : ∀ k, P'.ownBlock = some k → P.ownBlock = some k ∨ w.heap.size ≤ k ∧ k < w'.heap.size) : Liv w' F P' G rs := by
  have g := h.grow hs
  refine ⟨fun k hk hk2 => ?_, fun r hr k hk hk2 => ?_, h.gr, h.rr, fun k hk hf => ?_, h.gf, h.rf, fun k hk => ?_, g.gl, g.rl, g.fl⟩
  · rcases hp k hk with e | e
    · exact h.pg k e hk2
    · have := h.gl k hk2; omega
  · rcases hp k hk with e | e
    · exact h.pr r hr k e hk2
    · have := h.rl r hr k hk2; omega
  · rcases hp k hk with e | e
    · exact h.pf k e hf
    · have := h.fl k hf; omega
  · rcases hp k hk with e | e
    · exact g.pl k e
    · exact e.2
theorem Liv.swap {w : World} {F : Nat → Prop} {P G : Value} {rs : List Value} (h : Liv w F P G rs) : Liv w F G P rs := ⟨h.pg.symm, h.gr, h.pr, h.rr, h.gf, h.pf, h.rf, h.gl, h.pl, h.rl, h.fl⟩
/-- What QueueOrders holds. -/
structure OrI (w0 w : World) (F : Nat → Prop) (q size : Nat) (pa : Option Addr) (np pc : Nat) (pvs : List Value) (ga : Option Addr) (ng gc : Nat) (gvs : List Value) (gps : List (List Int)) (vs : List Value) (ps : List (List Int)) : Prop where
  qs : QSt w w0.heap.size F q size vs ps
  put : w.ownsRow w0.heap.size 42 1 (.slice pa np pc) np pvs
  prow : Ris w0 pvs (gps ++ ps)
  got : w.ownsRow w0.heap.size 42 1 (.slice ga ng gc) ng gvs
  grow : Rws w w0.heap.size gvs gps
  liv : Liv w F (.slice pa np pc) (.slice ga ng gc) (gvs ++ vs)
  below : Below w0.heap.size w0 w
  short : ∀ p ∈ gps ++ ps, p.length ≤ 1048576
theorem OrI.same {w0 w w' : World} {F : Nat → Prop} {q size : Nat} {pa : Option Addr} {np pc : Nat} {pvs : List Value} {ga : Option Addr} {ng gc : Nat} {gvs : List Value} {gps : List (List Int)} {vs : List Value} {ps : List (List Int)} (h : OrI w0 w F q size pa np pc pvs ga ng gc gvs gps vs ps) (ht : Tch Non w w') : OrI w0 w' F q size pa np pc pvs ga ng gc gvs gps vs ps :=
  ⟨h.qs.keep ht (fun _ _ h => h) (fun _ _ _ _ h => h), ht.own h.put (fun _ _ h => h), h.prow, ht.own h.got (fun _ _ h => h), h.grow.keep ht (fun _ _ _ _ h => h), h.liv.grow ht.size, h.below.trans (ht.below (fun _ h => h.elim) h.below.size), h.short⟩
theorem OrI.lens {w0 w : World} {F : Nat → Prop} {q size : Nat} {pa : Option Addr} {np pc : Nat} {pvs : List Value} {ga : Option Addr} {ng gc : Nat} {gvs : List Value} {gps : List (List Int)} {vs : List Value} {ps : List (List Int)} (h : OrI w0 w F q size pa np pc pvs ga ng gc gvs gps vs ps) : ng + ps.length = np ∧ gps.length = ng := by
  have h1 := h.put.1
  have h2 := h.prow.len
  have h3 := h.got.1
  have h4 := h.grow.len
  rw [List.length_append] at h2
  omega
theorem OrI.count {w0 w : World} {F : Nat → Prop} {q size : Nat} {pa : Option Addr} {np pc : Nat} {pvs : List Value} {ga : Option Addr} {ng gc : Nat} {gvs : List Value} {gps : List (List Int)} {vs : List Value} {ps : List (List Int)} (h : OrI w0 w F q size pa np pc pvs ga ng gc gvs gps vs ps) : ¬ ((np : Int) < (ng : Int)) := by
  have := h.lens
  omega
theorem Ris.app {w : World} : ∀ {vs us : List Value} {ps qs : List (List Int)}, Ris w vs ps → Ris w us qs → Ris w (vs ++ us) (ps ++ qs)
  | [], _, [], _, _, h => h
  | _ :: vs, _, _ :: ps, _, h, h2 => ⟨h.1, Ris.app h.2 h2⟩
  | [], _, _ :: _, _, h, _ => h.elim
  | _ :: _, _, [], _, h, _ => h.elim
/-- Behind a Put that took a row, and its row laid down. -/
theorem OrI.took {w0 w w5 w8 : World} {F : Nat → Prop} {q size : Nat} {pa : Option Addr} {np pc : Nat} {pvs : List Value} {ga : Option Addr} {ng gc : Nat} {gvs : List Value} {gps : List (List Int)} {vs us : List Value} {ps : List (List Int)} {u : Value} {p : List Int} {pa' : Option Addr} {pc' : Nat} (h : OrI w0 w F q size pa np pc pvs ga ng gc gvs gps vs ps)
    (hQ : QSt w5 w0.heap.size F q size (vs ++ us) (ps ++ [p])) (ht : Tch F w w5) (hu : ∀ x ∈ us, ∀ k, x.ownBlock = some k → w.heap.size ≤ k) (h8 : w8.ownsRow w0.heap.size 42 1 (.slice pa' (np + 1) pc') (np + 1) (pvs ++ [u])) (ht8 : Tch (fun k => (Value.slice pa np pc).ownBlock = some k) w5 w8)
    (hl : ∀ k, (Value.slice pa' (np + 1) pc').ownBlock = some k → (Value.slice pa np pc).ownBlock = some k ∨ w5.heap.size ≤ k ∧ k < w8.heap.size) (hr : ∃ a n c, u = .slice a n c ∧ In w0 a n c p) (hp : p.length ≤ 1048576) : OrI w0 w8 F q size pa' (np + 1) pc' (pvs ++ [u]) ga ng gc gvs gps (vs ++ us) (ps ++ [p]) := by
  have hub : ∀ x ∈ us, ∀ k, x.ownBlock = some k → w.heap.size ≤ k ∧ k < w5.heap.size := fun x hx k hk => ⟨hu x hx k hk, (hQ.rows.blocks x (List.mem_append_right _ hx) k hk).2⟩
  have l5 := h.liv.put ht.size hub (List.pairwise_append.1 hQ.apart).2.1
  rw [List.append_assoc] at l5
  have b5 := h.below.trans (ht.below (fun k hk => (h.qs.base k hk).1) h.below.size)
  refine ⟨hQ.keep ht8 (fun k hk e => h.liv.pf k e hk) (fun x hx k hk e => l5.pr x (List.mem_append_right _ hx) k e hk), h8, ?_, ht8.own (ht.own h.got h.liv.gf) (fun k hk e => h.liv.pg k e hk), ?_, l5.p' ht8.size hl, b5.trans (ht8.below (fun k hk => (h.put.lt k hk).1) b5.size), ?_⟩
  · rw [← List.append_assoc]
    exact h.prow.app ⟨hr, trivial⟩
  · exact (h.grow.keep ht (fun x hx k hk => h.liv.rf x (List.mem_append_left _ hx) k hk)).keep ht8 (fun x hx k hk e => h.liv.pr x (List.mem_append_left _ hx) k e hk)
  · intro x hx
    rw [← List.append_assoc] at hx
    rcases List.mem_append.1 hx with hx | hx
    · exact h.short x hx
    · rw [List.mem_singleton] at hx
      rw [hx]
      exact hp
/-- Behind a Get that had a row, and the row laid down. -/
theorem OrI.gave {w0 w w5 w8 : World} {F : Nat → Prop} {q size : Nat} {pa : Option Addr} {np pc : Nat} {pvs : List Value} {ga : Option Addr} {ng gc : Nat} {gvs : List Value} {gps : List (List Int)} {v : Value} {vt : List Value} {p : List Int} {pt : List (List Int)} {ga' : Option Addr} {gc' : Nat} (h : OrI w0 w F q size pa np pc pvs ga ng gc gvs gps (v :: vt) (p :: pt))
    (hQ : QSt w5 w0.heap.size F q size vt pt) (ht : Tch F w w5) (h8 : w8.ownsRow w0.heap.size 42 1 (.slice ga' (ng + 1) gc') (ng + 1) (gvs ++ [v])) (ht8 : Tch (fun k => (Value.slice ga ng gc).ownBlock = some k) w5 w8)
    (hl : ∀ k, (Value.slice ga' (ng + 1) gc').ownBlock = some k → (Value.slice ga ng gc).ownBlock = some k ∨ w5.heap.size ≤ k ∧ k < w8.heap.size) : OrI w0 w8 F q size pa np pc pvs ga' (ng + 1) gc' (gvs ++ [v]) (gps ++ [p]) vt pt := by
  have e1 : gvs ++ [v] ++ vt = gvs ++ (v :: vt) := by simp
  have e2 : gps ++ [p] ++ pt = gps ++ (p :: pt) := by simp
  have b5 := h.below.trans (ht.below (fun k hk => (h.qs.base k hk).1) h.below.size)
  have gr : Rws w w0.heap.size (gvs ++ [v]) (gps ++ [p]) := h.grow.app ⟨h.qs.rows.1, trivial⟩
  have sub : ∀ x ∈ gvs ++ [v], x ∈ gvs ++ (v :: vt) := fun x hx => by rw [← e1]; exact List.mem_append_left _ hx
  refine ⟨hQ.keep ht8 (fun k hk e => h.liv.gf k e hk) (fun x hx k hk e => h.liv.gr x (by rw [← e1]; exact List.mem_append_right _ hx) k e hk), ht8.own (ht.own h.put h.liv.pf) (fun k hk e => h.liv.pg k hk e), by rw [e2]; exact h.prow, h8, ?_, ?_, b5.trans (ht8.below (fun k hk => (h.got.lt k hk).1) b5.size), by rw [e2]; exact h.short⟩
  · exact (gr.keep ht (fun x hx k hk => h.liv.rf x (sub x hx) k hk)).keep ht8 (fun x hx k hk e => h.liv.gr x (sub x hx) k e hk)
  · rw [e1]
    exact (((h.liv.grow ht.size).swap).p' ht8.size hl).swap
theorem ob {g n c k : Nat} (h : (Value.slice (some ⟨g, 0, none⟩) n c).ownBlock = some k) : k = g := (Option.some.inj h).symm
/-- A row of rows and a row of bytes lie in unlike blocks. -/
theorem own_kinds {w : World} {B B' n k : Nat} {v u : Value} {xs ys : List Value} (h : w.ownsRow B 42 1 v n xs) (h2 : w.ownsRow B' 5 1 u k ys) : Aprt v u := by
  intro g hg hg2
  rcases h.2 with ⟨rfl, _⟩ | ⟨g1, _, _, rfl, _, e1, _⟩
  · cases hg
  rcases h2.2 with ⟨rfl, _⟩ | ⟨g2, _, _, rfl, _, e2, _⟩
  · cases hg2
  have := ob hg
  have := ob hg2
  subst g1 g2
  rw [e1] at e2
  simp at e2
/-- Rows of the call's own are apart, as Apart finds. -/
theorem apart_rows {w : World} {B g n c : Nat} {vs : List Value} {ps : List (List Int)} (h : w.ownsRow B 42 1 (.slice (some ⟨g, 0, none⟩) n c) n vs) (hr : Rws w B vs ps) (ha : vs.Pairwise Aprt) (hn : n ≤ 1048576) (hp : ∀ p ∈ ps, p.length ≤ 1048576) (hB : B ≤ w.heap.size) :
    Calls Try.prog 33 #[.slice (some ⟨g, 0, none⟩) n c] w fun e w' => e = .returned (.bool true) ∧ Below B w w' := by
  have hl : vs.length = n := by have := h.1; omega
  have hl2 : ps.length = n := by have := hr.len; omega
  have hmem : ∀ i, i < n → vs.getD i undef ∈ vs := fun i hi => by rw [List.getD_eq_getElem?_getD, List.getElem?_eq_getElem (by omega)]; exact List.getElem_mem (by omega)
  refine apart_any w B g n c (fun i => vs.getD i undef) (fun i => (ps.getD i []).length) hn ⟨fun i j hi hj hij => ?_, fun i hi e => ?_⟩ (fun i hi => own_at h hi) (fun i hi => ⟨ps.getD i [], rfl, (hr.at (by omega)).1⟩) (fun i hi => ?_) (h.lt g rfl).2 hB
  · have key : ∀ a b, a < b → b < n → Aprt (vs.getD a undef) (vs.getD b undef) := fun a b hab hb => by
      have := List.pairwise_iff_getElem.1 ha a b (by omega) (by omega) hab
      rw [List.getD_eq_getElem?_getD, List.getD_eq_getElem?_getD, List.getElem?_eq_getElem (by omega), List.getElem?_eq_getElem (by omega)]
      exact this
    show (vs.getD i undef).ownBlock = none ∨ (vs.getD i undef).ownBlock ≠ (vs.getD j undef).ownBlock
    cases hb : (vs.getD i undef).ownBlock with
    | none => exact .inl rfl
    | some k =>
      right
      intro e
      rcases Nat.lt_or_gt_of_ne hij with h1 | h1
      · exact key i j h1 hj k hb e.symm
      · exact key j i h1 hi k e.symm hb
  · exact own_kinds h (hr.at (j := i) (by omega)).1 g rfl e
  · have : (ps.getD i []).length ≤ 1048576 := hp _ (by rw [List.getD_eq_getElem?_getD, List.getElem?_eq_getElem (by omega)]; exact List.getElem_mem (by omega))
    show (ps.getD i []).length ≤ _
    omega
/-- Rows that came in, laid in a row of the call's own, to be read. -/
theorem rsd_put {w0 w : World} {B n c : Nat} {ao : Option Addr} {vs : List Value} {ps : List (List Int)} (h : w.ownsRow B 42 1 (.slice ao n c) n vs) (hr : Ris w0 vs ps) (hb : Below w0.heap.size w0 w) : Rsd w ao n vs ps := by
  have hl : ps.length = n := by have h1 := h.1; have h2 := hr.len; omega
  refine ⟨hl, ?_, fun j hj => ?_⟩
  · rcases Nat.eq_zero_or_pos n with e | e
    · exact .inl e
    · obtain ⟨g, c', hv, _⟩ := own_shape h e
      cases hv
      exact .inr ⟨g, 0, rfl, fun j hj => by rw [Nat.zero_add]; exact own_at h hj⟩
  · obtain ⟨a, k, d, e, hi⟩ := hr.at (j := j) (by omega)
    exact ⟨a, k, d, e, (hi.below hb).here, hi.len, hi.fit⟩
/-- One row, laid in a new block, to be put. -/
theorem rsp_one {w0 w : World} {F : Nat → Prop} {a : Option Addr} {k c : Nat} {p : List Int} (hb : Below w0.heap.size w0 w) (hF : ∀ x, F x → w0.heap.size ≤ x ∧ x < w.heap.size) (hi : In w0 a k c p) (U : World) (hU : Tch F (w.alloc (.cells #[.slice a k c] 42)) U) : RsP U (some ⟨w.heap.size, 0, none⟩) 1 [.slice a k c] [p] := by
  have hbU : Below w0.heap.size w0 U := by
    have h1 := hb.alloc hb.size (.cells #[.slice a k c] 42)
    exact h1.trans (hU.below (fun x hx => (hF x hx).1) h1.size)
  refine ⟨rfl, .inr ⟨w.heap.size, 0, rfl, fun j hj => ?_⟩, fun j hj => ?_⟩
  · have : j = 0 := by omega
    subst this
    exact hU.cell (cells_new w [.slice a k c] _ (0, 0) 0 _ rfl) (fun h => by have h2 : w.heap.size < w.heap.size := (hF _ h).2; omega)
  · have : j = 0 := by omega
    subst this
    exact ⟨a, k, c, rfl, hi.below hbU⟩
/-- The cells of an owned row, as an append takes them. -/
theorem own_cells {w : World} {B n c : Nat} {ao : Option Addr} {vs : List Value} (h : w.ownsRow B 42 1 (.slice ao n c) n vs) : ∀ ad, ao = some ad → ∀ j u, vs[j]? = some u → w.cell? (ad.add j) = some u := by
  intro ad e j u hu
  have hj : j < vs.length := by
    rcases Nat.lt_or_ge j vs.length with h | h
    · exact h
    · rw [List.getElem?_eq_none h] at hu; cases hu
  have hl := h.1
  obtain ⟨g, c', hv, _⟩ := own_shape h (by omega)
  rw [e] at hv h
  have ha := (Value.slice.inj hv).1
  cases ha
  rw [Go.WideShapes.add_plain, Nat.zero_add, own_at h (by omega), List.getD_eq_getElem?_getD, hu]
  rfl
/-- What QueueOrders holds behind Drain. -/
structure OrE (w0 w : World) (F : Nat → Prop) (q size : Nat) (pa : Option Addr) (np pc : Nat) (pvs : List Value) (g N c : Nat) (vs : List Value) (ps : List (List Int)) : Prop where
  qs : QSt w w0.heap.size F q size [] []
  put : w.ownsRow w0.heap.size 42 1 (.slice pa np pc) np pvs
  prow : Ris w0 pvs ps
  got : w.ownsRow w0.heap.size 42 1 (.slice (some ⟨g, 0, none⟩) N c) N vs
  rows : Rws w w0.heap.size vs ps
  apart : vs.Pairwise Aprt
  below : Below w0.heap.size w0 w
  short : ∀ p ∈ ps, p.length ≤ 1048576
  count : np = N
theorem OrE.same {w0 w w' : World} {F : Nat → Prop} {q size np pc g N c : Nat} {pa : Option Addr} {pvs vs : List Value} {ps : List (List Int)} (h : OrE w0 w F q size pa np pc pvs g N c vs ps) (ht : Tch Non w w') : OrE w0 w' F q size pa np pc pvs g N c vs ps :=
  ⟨h.qs.keep ht (fun _ _ h => h) (fun _ _ _ _ h => h), ht.own h.put (fun _ _ h => h), h.prow, ht.own h.got (fun _ _ h => h), h.rows.keep ht (fun _ _ _ _ h => h), h.apart, h.below.trans (ht.below (fun _ h => h.elim) h.below.size), h.short, h.count⟩
theorem OrI.fin {w0 w w5 w8 : World} {F : Nat → Prop} {q size : Nat} {pa : Option Addr} {np pc : Nat} {pvs : List Value} {ga : Option Addr} {ng gc : Nat} {gvs : List Value} {gps : List (List Int)} {vs : List Value} {ps : List (List Int)} {g8 c8 : Nat} (h : OrI w0 w F q size pa np pc pvs ga ng gc gvs gps vs ps)
    (hQ : QSt w5 w0.heap.size F q size [] []) (ht : Tch F w w5) (h8 : w8.ownsRow w0.heap.size 42 1 (.slice (some ⟨g8, 0, none⟩) (ng + ps.length) c8) (ng + ps.length) (gvs ++ vs)) (ht8 : Tch (fun k => (Value.slice ga ng gc).ownBlock = some k) w5 w8) :
    OrE w0 w8 F q size pa np pc pvs g8 (ng + ps.length) c8 (gvs ++ vs) (gps ++ ps) := by
  have b5 := h.below.trans (ht.below (fun k hk => (h.qs.base k hk).1) h.below.size)
  refine ⟨hQ.keep ht8 (fun k hk e => h.liv.gf k e hk) (fun x hx => by cases hx), ht8.own (ht.own h.put h.liv.pf) (fun k hk e => h.liv.pg k hk e), h.prow, h8, ?_, h.liv.rr, b5.trans (ht8.below (fun k hk => (h.got.lt k hk).1) b5.size), h.short, ?_⟩
  · exact ((h.grow.app h.qs.rows).keep ht h.liv.rf).keep ht8 (fun x hx k hk e => h.liv.gr x hx k e hk)
  · have := h.lens
    omega
theorem OrE.apart_t {w0 w : World} {F : Nat → Prop} {q size np pc g N c : Nat} {pa : Option Addr} {pvs vs : List Value} {ps : List (List Int)} (h : OrE w0 w F q size pa np pc pvs g N c vs ps) (hN : N ≤ 1048576) :
    Calls Try.prog 33 #[.slice (some ⟨g, 0, none⟩) N c] w fun e w' => e = .returned (.bool true) ∧ Below w0.heap.size w w' :=
  apart_rows h.got h.rows h.apart hN h.short h.below.size
theorem OrE.rows_t {w0 w : World} {F : Nat → Prop} {q size np pc g N c : Nat} {pa : Option Addr} {pvs vs : List Value} {ps : List (List Int)} (h : OrE w0 w F q size pa np pc pvs g N c vs ps) (hN : N ≤ 1048576) :
    Calls Try.prog 19 #[.slice (some ⟨g, 0, none⟩) N c, .slice pa np pc] w fun e w' => e = .returned (.bool true) ∧ Below w.heap.size w w' :=
  Go.Proofs.Ytdjeacmonlgdhaa.rows_t vs pvs ps ps (some ⟨g, 0, none⟩) pa N c np pc w (rsd_own h.got h.rows) (rsd_put h.put h.prow h.below) (by omega) true (by simp)
theorem rws_cells {w : World} {B : Nat} {vs : List Value} {ps : List (List Int)} (h : Rws w B vs ps) : ∀ u ∈ vs, u.oneCell' = true := by
  intro u hu
  obtain ⟨j, hj, e⟩ := List.getElem_of_mem hu
  have hl := h.len
  obtain ⟨ao, c, e2⟩ := own_form (h.at (j := j) (by omega)).1
  rw [List.getD_eq_getElem?_getD, List.getElem?_eq_getElem hj, Option.getD_some, e] at e2
  rw [e2]
  rfl
theorem own_shape' {w : World} {B : Nat} {e : TypeId} {size n : Nat} {v : Value} {xs : List Value} (h : w.ownsRow B e size v n xs) (hn : v ≠ .slice none 0 0) : ∃ g cap, v = .slice (some ⟨g, 0, none⟩) n cap := by
  rcases h.2 with ⟨h0, _⟩ | ⟨g, cap, cur, hv, hb, _⟩
  · exact absurd h0 hn
  · exact ⟨g, cap, hv⟩
end Go.Proofs.Ytdjeacmonlgdhaa
