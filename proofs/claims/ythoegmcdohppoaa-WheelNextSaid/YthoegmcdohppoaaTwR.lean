/- Two wheels, one of them the document's; a row of numbers with its mark. No conditions but those stated. -/
import Derived.Test.YthoegmcdohppoaaWkS
import Derived.Deep.CutRange
import Derived.Deep.CutBlock
namespace Go.Proofs.Ythoegmcdohppoaa
open Go Go.RowKit
set_option linter.unusedVariables false
set_option linter.unusedSimpArgs false

section
variable {S2 : WhS} {w0 w : World} {P Q : Nat} {K : Nat → Prop} {ts us : List Wy}
theorem Two.rset (o2 : StOK S2) (h : Two RwS S2 w0 w P Q K ts us) (a : Int) (ks : List Int) (ao : Option Addr) (n c : Nat) (hI : InI w ao n c ks) (hf : KFar w0 K ao n) (hn : ts.length + n ≤ 1048576) :
    Calls Try.prog 14 #[.pointer (some ⟨P, 0, none⟩), .int .i64 a, .slice ao n c] w fun e w' => e = .returned (.int .i64 (setR a ks ts).1) ∧ Two RwS S2 w0 w' P Q K (setR a ks ts).2 us ∧ Kpd K w w' := by
  obtain ⟨F, G, h1, h2, h3, h4⟩ := h.st
  by_cases q : OkA a
  · have e1 : setR a ks ts = (0, putsT a ks ts) := by unfold setR; rw [if_pos q]
    rw [e1]
    refine (refSet_c w0.heap.size P F ts a ks ao n c w h1 h.bel.size hI (hf.apart okS2 h1 (fun k hk => (h4 k hk).1)) hn q).mono ?_
    rintro e w' ⟨he, F2, q1, q2, q3⟩
    exact ⟨he, Two.turn okS2 o2 h1 h2 h3 h4 h.bel h.ks q1 q2 q3⟩
  · have e1 : setR a ks ts = (4, ts) := by unfold setR; rw [if_neg q]
    rw [e1]
    refine (refSetNo_c P a ao n c w q).mono ?_
    rintro e w' ⟨he, rfl⟩
    exact ⟨he, h, fun k _ => rfl⟩
theorem Two.rcancel (o2 : StOK S2) (h : Two RwS S2 w0 w P Q K ts us) (ks : List Int) (ao : Option Addr) (n c : Nat) (hI : InI w ao n c ks) (hf : KFar w0 K ao n) (hn : ts.length ≤ 1048576) (hn2 : n ≤ 1048576) :
    Calls Try.prog 16 #[.pointer (some ⟨P, 0, none⟩), .slice ao n c] w fun e w' => e = .returned (.int .i64 (cntsT ks ts : Nat)) ∧ Two RwS S2 w0 w' P Q K (cutsT ks ts) us ∧ Kpd K w w' := by
  obtain ⟨F, G, h1, h2, h3, h4⟩ := h.st
  refine (refCancel_c w0.heap.size P F ts ks ao n c w h1 h.bel.size hI (hf.apart okS2 h1 (fun k hk => (h4 k hk).1)) hn hn2).mono ?_
  rintro e w' ⟨he, F2, q1, q2, q3⟩
  exact ⟨he, Two.turn okS2 o2 h1 h2 h3 h4 h.bel h.ks q1 q2 q3⟩
theorem kpd_new {w w' : World} (hk : ∀ k, K k → k < w.heap.size) (hb : Below w.heap.size w w') : Kpd K w w' := fun k h => hb.block k (hk k h)
theorem Two.rat (o2 : StOK S2) (h : Two RwS S2 w0 w P Q K ts us) (key : Int) (hk : KeyT ts) (hn : ts.length ≤ 1048576) :
    Calls Try.prog 18 #[.pointer (some ⟨P, 0, none⟩), .int .i64 key] w fun e w' => e = .returned (atR (atT key ts)) ∧ Two RwS S2 w0 w' P Q K ts us ∧ Kpd K w w' := by
  obtain ⟨F, G, h1, h2, h3, h4⟩ := h.st
  refine (refAt_c w0.heap.size P F ts key w h1 hk hn).mono ?_
  rintro e w' ⟨he, hb⟩
  exact ⟨he, h.new okS2 o2 hb, kpd_new h.ks hb⟩
theorem Two.rnext (o2 : StOK S2) (h : Two RwS S2 w0 w P Q K ts us) (hn : ts.length ≤ 1048576) :
    Calls Try.prog 23 #[.pointer (some ⟨P, 0, none⟩)] w fun e w' => e = .returned (atR (nextT ts)) ∧ Two RwS S2 w0 w' P Q K ts us ∧ Kpd K w w' := by
  obtain ⟨F, G, h1, h2, h3, h4⟩ := h.st
  refine (refNext_c w0.heap.size P F ts w h1 hn).mono ?_
  rintro e w' ⟨he, hb⟩
  exact ⟨he, h.new okS2 o2 hb, kpd_new h.ks hb⟩
theorem Two.rdue (o2 : StOK S2) (h : Two RwS S2 w0 w P Q K ts us) (now : Int) (hk : KeyT ts) (hn : ts.length ≤ 1048576) (hf : ∀ t ∈ ts, I64 t.2) :
    Calls Try.prog 21 #[.pointer (some ⟨P, 0, none⟩), .int .i64 now] w fun e w' => ∃ a c, e = .returned (.slice a (dueT now ts).length c) ∧ InI w' a (dueT now ts).length c (dueT now ts) ∧
      Two RwS S2 w0 w' P Q K (leftT now ts) us ∧ Kpd K w w' := by
  obtain ⟨F, G, h1, h2, h3, h4⟩ := h.st
  have hfit : fitI (ts.map (·.2)) := fun x hx => by
    obtain ⟨t, ht, rfl⟩ := List.mem_map.1 hx
    have := hf t ht
    unfold I64 at this
    omega
  refine (refDue_c w0.heap.size P F now ts w h1 h.bel.size hk hn hfit).mono ?_
  rintro e w' ⟨F2, a, c, he, ho, q1, q2, q3⟩
  refine ⟨a, c, he, own_inI ho rfl (fun x hx => ?_), Two.turn okS2 o2 h1 h2 h3 h4 h.bel h.ks q1 q2 q3⟩
  obtain ⟨b, hb, _⟩ := dueT_mem.1 hx
  have := hf _ hb
  unfold I64 at this
  simp only at this
  omega
theorem Two.key (h : Two WSt S2 w0 w P Q K ts us) : KeyT ts ∧ ∀ t ∈ ts, I64 t.2 := by
  obtain ⟨F, G, h1, _⟩ := h.st
  exact ⟨h1.key, fun t ht => (h1.fit t ht).2⟩
end
theorem fit_m77 {l : List Int} (h : fitI l) : fitI (l ++ [-77]) := fitI_app h (by intro x hx; simp at hx; subst hx; decide)
/-- A copy with its mark. -/
structure MkW (w : World) (g n : Nat) (l : List Int) : Prop where
  row : InI w (some ⟨g, 0, none⟩) n (n + 1) l
  mark : w.cell? ⟨g, n, none⟩ = some (.int .i64 (-77))
theorem mkW_of {w : World} {B g n : Nat} {l : List Int} (h : w.ownsRow B 3 1 (.slice (some ⟨g, 0, none⟩) (n + 1) (n + 1)) (n + 1) (i64s (l ++ [-77]))) (hl : l.length = n) (hf : fitI l) : MkW w g n l := by
  have h1 := own_inI h (by rw [List.length_append, hl]; rfl) (fit_m77 hf)
  constructor
  · have h2 := h1.take n (by omega)
    have e : (l ++ [-77]).take n = l := by rw [← hl, List.take_left]
    rwa [e] at h2
  · have h2 := in_cellI h1 n (by omega)
    rw [Nat.zero_add, List.getD_eq_getElem?_getD, List.getElem?_append_right (by omega), hl, Nat.sub_self] at h2
    exact h2
theorem MkW.kpd {K : Nat → Prop} {w w' : World} {g n : Nat} {l : List Int} (h : MkW w g n l) (hk : Kpd K w w') (hg : K g) : MkW w' g n l :=
  ⟨inI_kpd h.row hk (fun b off e => by cases e; exact hg), (World.cell?_of_block (a := ⟨g, n, none⟩) (hk g hg)).trans h.mark⟩
theorem one_kept {U V : World} {r : Option Nat} {blk : Nat} {x : Value} (hg : U.grownBy V r) (hne : r ≠ some blk) (h : ∀ j v, [x][j]? = some v → U.cell? ((⟨blk, 0, none⟩ : Addr).add j) = some v) : ∀ j v, [x][j]? = some v → V.cell? ((⟨blk, 0, none⟩ : Addr).add j) = some v := by
  intro j v hv
  have h1 := h j v hv
  rw [Go.WideShapes.add_plain] at h1 ⊢
  exact hg.cell h1 (fun e => hne e.symm)
theorem one_newW (w : World) (x : Value) (t : TypeId) : ∀ j u, [x][j]? = some u → (w.alloc (.cells #[x] t)).cell? ((⟨w.heap.size, 0, none⟩ : Addr).add j) = some u := fun j u h => by
  rw [Go.WideShapes.add_plain]
  exact cells_new w [x] t (0, 0) j u h
end Go.Proofs.Ythoegmcdohppoaa
