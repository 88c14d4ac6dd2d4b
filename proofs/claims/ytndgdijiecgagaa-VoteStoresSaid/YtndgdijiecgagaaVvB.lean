/- The document's numbers of bytes and its Read, plain. No program. -/
import Derived.Test.YtndgdijiecgagaaVhB
namespace Go.Proofs.Ytndgdijiecgagaa
open Go Go.RowKit
set_option linter.unusedVariables false
set_option linter.unusedSimpArgs false

def intsL (b : List Int) : List Int := (List.range (b.length / 8)).map fun t => sg (n8 b (8 * t))
theorem intsL_len (b : List Int) : (intsL b).length = b.length / 8 := by simp [intsL]
theorem intsL_at {b : List Int} {t : Nat} (h : t < b.length / 8) : (intsL b).getD t 0 = sg (n8 b (8 * t)) := by
  rw [List.getD_eq_getElem?_getD, List.getElem?_eq_getElem (by rw [intsL_len]; exact h)]
  simp [intsL]
theorem intsL_ty {b : List Int} (hf : fit b) : ∀ x ∈ intsL b, i64c x := by
  intro x hx
  unfold intsL at hx
  obtain ⟨t, _, rfl⟩ := List.mem_map.1 hx
  have h0 := getD_fit hf (8 * t)
  have h1 := getD_fit hf (8 * t + 1)
  have h2 := getD_fit hf (8 * t + 2)
  have h3 := getD_fit hf (8 * t + 3)
  have h4 := getD_fit hf (8 * t + 4)
  have h5 := getD_fit hf (8 * t + 5)
  have h6 := getD_fit hf (8 * t + 6)
  have h7 := getD_fit hf (8 * t + 7)
  have := sg_bound (u := n8 b (8 * t)) (by unfold n8; omega)
  unfold i64c
  omega
theorem intsL_nb {l : List Int} (h : ∀ x ∈ l, i64c x) : intsL (nb l) = l := by
  have hl : (nb l).length / 8 = l.length := by rw [nb_len]; omega
  apply List.ext_getElem
  · rw [intsL_len, hl]
  · intro t h1 h2
    simp only [intsL, List.getElem_map, List.getElem_range]
    have e : nb l = nb (l.take t) ++ (b8 l[t] ++ nb (l.drop (t + 1))) := by
      rw [← nb_cons, ← nb_app, ← List.drop_eq_getElem_cons h2, List.take_append_drop]
    rw [e, n8_app _ _ _ (by rw [nb_len, List.length_take]; omega), show 8 * t - (nb (l.take t)).length = 0 by rw [nb_len, List.length_take]; omega]
    exact num_b8 (h _ (List.getElem_mem _)) _
theorem getD_ty {l : List Int} (h : ∀ x ∈ l, i64c x) (i : Nat) : i64c (l.getD i 0) := by
  rw [List.getD_eq_getElem?_getD]
  by_cases hi : i < l.length
  · rw [List.getElem?_eq_getElem hi]; exact h _ (List.getElem_mem _)
  · rw [List.getElem?_eq_none (by omega)]; exact ⟨by decide, by decide⟩
def pE (l : List Int) (a : Nat) : En := ⟨w32 (l.getD a 0), l.getD (a + 1) 0, l.getD (a + 2) 0⟩
def pEs (l : List Int) (a n : Nat) : List En := (List.range n).map fun k => pE l (a + 3 * k)
def pC (l : List Int) (a n : Nat) : Cm := ⟨l.getD a 0, l.getD (a + 1) 0, l.getD (a + 2) 0, l.getD (a + 3) 0, l.getD (a + 4) 0, w32 (l.getD (a + 5) 0), l.getD (a + 6) 0, l.getD (a + 7) 0, pEs l (a + 9) n, w32 (l.getD (a + 9 + 3 * n) 0), w32 (l.getD (a + 9 + 3 * n + 1) 0), decide (l.getD (a + 9 + 3 * n + 2) 0 = 1)⟩
theorem pEs_len (l : List Int) (a n : Nat) : (pEs l a n).length = n := by simp [pEs]
theorem pEs_more (l : List Int) (a n : Nat) : pEs l a (n + 1) = pEs l a n ++ [pE l (a + 3 * n)] := by simp [pEs, List.range_succ]
theorem pEs_cons (l : List Int) (a n : Nat) : pEs l a (n + 1) = pE l a :: pEs l (a + 3) n := by
  unfold pEs
  rw [List.range_succ_eq_map, List.map_cons, List.map_map]
  congr 1
  refine List.map_congr_left fun k _ => ?_
  show pE l (a + 3 * (k + 1)) = pE l (a + 3 + 3 * k)
  rw [show a + 3 * (k + 1) = a + 3 + 3 * k by omega]
theorem getD_app (p q : List Int) (i : Nat) : (p ++ q).getD (p.length + i) 0 = q.getD i 0 := by
  simp [List.getD_eq_getElem?_getD, List.getElem?_append_right]
theorem pE_of {p q : List Int} {e : En} (h : TyEn e) : pE (p ++ (numE e ++ q)) p.length = e := by
  have h0 := getD_app p (numE e ++ q) 0
  have h1 := getD_app p (numE e ++ q) 1
  have h2 := getD_app p (numE e ++ q) 2
  rw [Nat.add_zero] at h0
  unfold pE
  rw [h0, h1, h2]
  show (⟨w32 e.dip, e.port, e.wt⟩ : En) = e
  rw [w32_id h.1]
theorem pEs_of : ∀ {es : List En} {p q : List Int}, (∀ e ∈ es, TyEn e) → pEs (p ++ (numEs es ++ q)) p.length es.length = es
  | [], _, _, _ => rfl
  | e :: es, p, q, h => by
    have e0 : numEs (e :: es) = numE e ++ numEs es := rfl
    rw [List.length_cons, pEs_cons, e0, List.append_assoc, pE_of (h e List.mem_cons_self)]
    have ih := pEs_of (es := es) (p := p ++ numE e) (q := q) (fun x hx => h x (List.mem_cons_of_mem _ hx))
    rw [List.append_assoc] at ih
    rw [show (p ++ numE e).length = p.length + 3 by rw [List.length_append]; rfl] at ih
    rw [ih]
theorem ub_is (b : Bool) : decide (ub b = 1) = b := by cases b <;> rfl
theorem pC_of {p q : List Int} {c : Cm} (h : TyC c) : pC (p ++ (numC c ++ q)) p.length c.es.length = c := by
  have H := fun i => getD_app p (numC c ++ q) i
  have h0 := H 0
  rw [Nat.add_zero] at h0
  have e1 : numC c ++ q = head9 c ++ (numEs c.es ++ (tail3 c ++ q)) := by unfold numC; simp only [List.append_assoc]
  have hE : pEs (p ++ (numC c ++ q)) (p.length + 9) c.es.length = c.es := by
    rw [e1, ← List.append_assoc]
    have := pEs_of (es := c.es) (p := p ++ head9 c) (q := tail3 c ++ q) h.es
    rwa [show (p ++ head9 c).length = p.length + 9 by rw [List.length_append]; rfl] at this
  have hT : ∀ i, (p ++ (numC c ++ q)).getD (p.length + 9 + 3 * c.es.length + i) 0 = (tail3 c ++ q).getD i 0 := by
    intro i
    rw [e1, ← List.append_assoc, ← List.append_assoc]
    have := getD_app (p ++ head9 c ++ numEs c.es) (tail3 c ++ q) i
    rwa [show (p ++ head9 c ++ numEs c.es).length = p.length + 9 + 3 * c.es.length by rw [List.length_append, List.length_append, numEs_len]; rfl] at this
  have t0 := hT 0
  rw [Nat.add_zero] at t0
  unfold pC
  rw [h0, H 1, H 2, H 3, H 4, H 5, H 6, H 7, hE, t0, hT 1, hT 2]
  show (⟨c.node, c.boot, c.seq, c.time, c.kind, w32 c.vip, c.proto, c.port, c.es, w32 c.dip, w32 c.cvip, decide (ub c.up = 1)⟩ : Cm) = c
  rw [w32_id h.vip, w32_id h.dip, w32_id h.cvip, ub_is]
theorem pE_ty {l : List Int} (h : ∀ x ∈ l, i64c x) (a : Nat) : TyEn (pE l a) := ⟨w32_ty _, getD_ty h _, getD_ty h _⟩
theorem pC_ty {l : List Int} (h : ∀ x ∈ l, i64c x) {a n : Nat} (hn : n ≤ 64) : TyC (pC l a n) :=
  ⟨getD_ty h _, getD_ty h _, getD_ty h _, getD_ty h _, getD_ty h _, w32_ty _, getD_ty h _, getD_ty h _, w32_ty _, w32_ty _, fun e he => by
    obtain ⟨k, _, rfl⟩ := List.mem_map.1 he
    exact pE_ty h _, by show (pEs l (a + 9) n).length ≤ _; rw [pEs_len]; omega⟩
/-- While the document reads. -/
structure RdI (b l : List Int) (lg : List Cm) (a : Nat) : Prop where
  ty : ∀ c ∈ lg, TyC c
  es : ∀ c ∈ lg, c.es.length ≤ 64
  few : lg.length ≤ 257
  pos : 1 ≤ a ∧ a ≤ l.length + 1
  yes : IsLog b → lg = (decL b).take lg.length ∧ a = 1 + (numL lg).length
theorem rdI_nil (b l : List Int) : RdI b l [] 1 := ⟨fun c h => (by cases h), fun c h => (by cases h), by decide, ⟨by decide, by omega⟩, fun _ => ⟨rfl, rfl⟩⟩
theorem is_ints {b : List Int} (hf : fit b) (h : IsLog b) : intsL b = ((decL b).length : Int) :: numL (decL b) := by
  have h2 := h.2
  have hl := decL_len b
  have : intsL (bytesL (decL b)) = ((decL b).length : Int) :: numL (decL b) := by
    refine intsL_nb fun x hx => ?_
    rcases List.mem_cons.1 hx with rfl | hx
    · unfold i64c; omega
    · unfold numL at hx
      obtain ⟨c, hc, hx⟩ := List.mem_flatMap.1 hx
      exact i64_num (decL_ty hf c hc) x hx
  rwa [h2] at this
theorem RdI.parts {b : List Int} {lg : List Cm} {a : Nat} (hR : RdI b (intsL b) lg a) (hf : fit b) (h : IsLog b) (hc : (lg.length : Int) < (intsL b).getD 0 0) :
    ∃ c, c ∈ decL b ∧ (decL b).take (lg.length + 1) = lg ++ [c] ∧ ∃ p q, intsL b = p ++ (numC c ++ q) ∧ p.length = a := by
  have hi := is_ints hf h
  obtain ⟨hy, ha⟩ := hR.yes h
  rw [hi, List.getD_cons_zero] at hc
  have hlt : lg.length < (decL b).length := by omega
  refine ⟨(decL b).getD lg.length cm0, memC hlt, ?_, ((decL b).length : Int) :: numL lg, numL ((decL b).drop (lg.length + 1)), ?_, ?_⟩
  · rw [take_moreC _ hlt, ← hy]
  · rw [hi]
    have e : decL b = lg ++ ((decL b).getD lg.length cm0 :: (decL b).drop (lg.length + 1)) := by
      have e1 : (decL b).getD lg.length cm0 = (decL b)[lg.length] := by simp [List.getD_eq_getElem?_getD, List.getElem?_eq_getElem hlt]
      rw [e1, ← List.drop_eq_getElem_cons hlt]
      conv => rhs; lhs; rw [hy]
      rw [List.take_append_drop]
    have e2 : numL (decL b) = numL lg ++ (numC ((decL b).getD lg.length cm0) ++ numL ((decL b).drop (lg.length + 1))) := by
      conv => lhs; rw [e]
      rw [numL_app]
      rfl
    rw [e2]
    rfl
  · rw [List.length_cons, ha]; omega
theorem RdI.out {b : List Int} {lg : List Cm} {a : Nat} (hR : RdI b (intsL b) lg a) (hf : fit b) (hc : (lg.length : Int) < (intsL b).getD 0 0)
    (h : (intsL b).length < a + 9 ∨ (intsL b).getD (a + 8) 0 < 0 ∨ 64 < (intsL b).getD (a + 8) 0 ∨ ((intsL b).length : Int) < (a : Int) + 12 + 3 * (intsL b).getD (a + 8) 0) : ¬ IsLog b := by
  intro hL
  obtain ⟨c, hm, _, p, q, e, hp⟩ := hR.parts hf hL hc
  have h8 : (intsL b).getD (a + 8) 0 = (c.es.length : Int) := by
    rw [e, ← hp, getD_app]
    unfold numC
    rfl
  have h64 := goodC_es (hL.1.2.1 c hm)
  have hl : (intsL b).length = a + ((12 + 3 * c.es.length) + q.length) := by rw [e, List.length_append, List.length_append, numC_len, hp]
  rw [h8] at h
  omega
theorem RdI.step {b : List Int} {lg : List Cm} {a n : Nat} (hR : RdI b (intsL b) lg a) (hf : fit b) (hc : (lg.length : Int) < (intsL b).getD 0 0) (h256 : lg.length ≤ 256)
    (hn : (intsL b).getD (a + 8) 0 = (n : Int)) (h64 : n ≤ 64) (ha : a + 12 + 3 * n ≤ (intsL b).length) : RdI b (intsL b) (lg ++ [pC (intsL b) a n]) (a + 12 + 3 * n) := by
  refine ⟨fun c h => ?_, fun c h => ?_, by rw [List.length_append]; show lg.length + 1 ≤ 257; omega, ⟨by omega, by omega⟩, fun hL => ?_⟩
  · rcases List.mem_append.1 h with h | h
    · exact hR.ty c h
    · rw [List.mem_singleton.1 h]; exact pC_ty (intsL_ty hf) h64
  · rcases List.mem_append.1 h with h | h
    · exact hR.es c h
    · rw [List.mem_singleton.1 h]; show (pEs _ _ n).length ≤ 64; rw [pEs_len]; exact h64
  · obtain ⟨c, hm, ht, p, q, e, hp⟩ := hR.parts hf hL hc
    have h8 : (intsL b).getD (a + 8) 0 = (c.es.length : Int) := by
      rw [e, ← hp, getD_app]
      unfold numC
      rfl
    have hcn : c.es.length = n := by omega
    have hpc : pC (intsL b) a n = c := by rw [e, ← hp, ← hcn]; exact pC_of (decL_ty hf c hm)
    rw [hpc, List.length_append]
    refine ⟨ht.symm, ?_⟩
    rw [numL_app, numL_one, List.length_append, numC_len, hcn, (hR.yes hL).2]
    omega
theorem RdI.done {b : List Int} {lg : List Cm} {a : Nat} (hR : RdI b (intsL b) lg a) (hf : fit b) (hc : (intsL b).length = 0 ∨ ¬ (lg.length : Int) < (intsL b).getD 0 0 ∨ 256 < lg.length) :
    (IsLog b → lg = decL b) ∧ (GoodL lg → bytesL lg = b → IsLog b) := by
  refine ⟨fun hL => ?_, fun hg he => ?_⟩
  · have hi := is_ints hf hL
    obtain ⟨hy, _⟩ := hR.yes hL
    have hl := hL.1.1
    have : (decL b).length ≤ lg.length := by
      rcases hc with h | h | h
      · rw [hi] at h; cases h
      · rw [hi, List.getD_cons_zero] at h; omega
      · omega
    rw [hy]
    exact List.take_of_length_le this
  · rw [← he]
    exact isLog_bytes hR.ty hg
end Go.Proofs.Ytndgdijiecgagaa
