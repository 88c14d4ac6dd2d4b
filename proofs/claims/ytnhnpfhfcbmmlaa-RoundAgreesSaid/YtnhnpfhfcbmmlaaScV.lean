/- Scripts of VotePlays in memory. No conditions. -/
import Derived.Test.YtnhnpfhfcbmmlaaVhF
import Derived.Test.YtnhnpfhfcbmmlaaVfC
namespace Go.Proofs.Ytnhnpfhfcbmmlaa
open Go Go.RowKit
set_option linter.unusedVariables false
set_option linter.unusedSimpArgs false

/-- One call. -/
structure OpV where
  kind : Int
  b : Bl
  la : Option Addr
  ln : Nat
  lc : Nat
  lg : List Cm
  us : List Value
  aa : Option Addr
  an : Nat
  ac : Nat
  ab : List Bl
def opV : OpV := ⟨0, bl0, none, 0, 0, [], [], none, 0, 0, []⟩
instance : Inhabited OpV := ⟨opV⟩
def OpV.cs (o : OpV) : List Value := [.int .i64 o.kind, .int .i64 o.b.n, .int .i64 o.b.node, .slice o.la o.ln o.lc, .slice o.aa o.an o.ac]
structure OvIn (w : World) (o : OpV) : Prop where
  bty : TyB o.b
  log : InC w o.la o.ln o.lc o.lg o.us
  lnb : o.ln ≤ 1152921504606846976
  ab : InBl w o.aa o.an o.ac o.ab
  anb : o.an ≤ 1152921504606846976
  nab : o.aa = Option.none → o.an = 0 ∧ o.ac = 0
theorem OvIn.below {w w' : World} {o : OpV} (h : OvIn w o) (hb : Below w.heap.size w w') : OvIn w' o := ⟨h.bty, h.log.below hb, h.lnb, h.ab.below hb, h.anb, h.nab⟩
structure SvIn (w : World) (ao : Option Addr) (n c : Nat) (os : List OpV) : Prop where
  len : os.length = n
  room : n ≤ c
  here : n = 0 ∨ ∃ b off, ao = some ⟨b, off, none⟩ ∧ ∀ j, j < n → ∀ i, i < 5 → w.cell? ⟨b, off + j * 5 + i, none⟩ = ((os.getD j opV).cs)[i]?
  ops : ∀ j, j < n → OvIn w (os.getD j opV)
theorem oV_some (o : OpV) {i : Nat} (hi : i < 5) : ∃ u, (o.cs)[i]? = some u := ⟨_, List.getElem?_eq_getElem (by simp [OpV.cs]; omega)⟩
theorem SvIn.below {w w' : World} {ao : Option Addr} {n c : Nat} {os : List OpV} (h : SvIn w ao n c os) (hb : Below w.heap.size w w') : SvIn w' ao n c os :=
  ⟨h.len, h.room, h.here.imp id (fun ⟨b, off, e, hc⟩ => ⟨b, off, e, fun j hj i hi => by
    obtain ⟨u, hu⟩ := oV_some (os.getD j opV) hi
    have := hc j hj i hi
    rw [hu] at this ⊢
    exact cell_later hb this⟩), fun j hj => (h.ops j hj).below hb⟩
theorem SvIn.at {w : World} {n c : Nat} {ao : Option Addr} {os : List OpV} (h : SvIn w ao n c os) {j : Nat} (hj : j < n) {o : OpV} (ho : o = os.getD j opV) :
    ∃ b off, ao = some ⟨b, off, none⟩ ∧ w.cell? ⟨b, off + j * 5, none⟩ = some (.int .i64 o.kind) ∧ w.cell? ⟨b, off + j * 5 + 1, none⟩ = some (.int .i64 o.b.n) ∧ w.cell? ⟨b, off + j * 5 + 2, none⟩ = some (.int .i64 o.b.node) ∧ w.cell? ⟨b, off + j * 5 + 3, none⟩ = some (.slice o.la o.ln o.lc) ∧ w.cell? ⟨b, off + j * 5 + 4, none⟩ = some (.slice o.aa o.an o.ac) := by
  subst ho
  rcases h.here with h0 | ⟨b, off, e, hc⟩
  · omega
  · exact ⟨b, off, e, hc j hj 0 (by omega), hc j hj 1 (by omega), hc j hj 2 (by omega), hc j hj 3 (by omega), hc j hj 4 (by omega)⟩
/-- The box of a call. -/
abbrev tyOv : TypeId := 66
def BxV (w : World) (q : Nat) (o : OpV) : Prop := w.heap[q]? = some (.cells #[.int .i64 o.kind, .int .i64 o.b.n, .int .i64 o.b.node, .slice o.la o.ln o.lc, .slice o.aa o.an o.ac] tyOv (0, 0))
theorem BxV.cs {w : World} {q : Nat} {o : OpV} (h : BxV w q o) : w.cell? ⟨q, 0, none⟩ = some (.int .i64 o.kind) ∧ w.cell? ⟨q, 1, none⟩ = some (.int .i64 o.b.n) ∧ w.cell? ⟨q, 2, none⟩ = some (.int .i64 o.b.node) ∧ w.cell? ⟨q, 3, none⟩ = some (.slice o.la o.ln o.lc) ∧ w.cell? ⟨q, 4, none⟩ = some (.slice o.aa o.an o.ac) :=
  ⟨cell_of_row w q 0 _ _ _ h, cell_of_row w q 1 _ _ _ h, cell_of_row w q 2 _ _ _ h, cell_of_row w q 3 _ _ _ h, cell_of_row w q 4 _ _ _ h⟩
theorem BxV.lt {w : World} {q : Nat} {o : OpV} (h : BxV w q o) : q < w.heap.size := lt_of_block h
theorem BxV.later {w w' : World} {q : Nat} {o : OpV} (h : BxV w q o) (hb : Below w.heap.size w w') : BxV w' q o := (hb.block q h.lt).trans h
theorem BxV.kpt {K : Nat → Prop} {w w' : World} {q : Nat} {o : OpV} (h : BxV w q o) (hk : Kpt K w w') (hq : K q) : BxV w' q o := (hk q hq).trans h
theorem bxV_new (w : World) (o : OpV) : BxV (w.alloc (.cells #[.int .i64 o.kind, .int .i64 o.b.n, .int .i64 o.b.node, .slice o.la o.ln o.lc, .slice o.aa o.an o.ac] tyOv)) w.heap.size o := heap_alloc_new w _
theorem VOn.wgrow {w0 w w' : World} {p s : Nat} {size : Int} {l m : List Pr} {pr ac : Bl} {ls : List Cm} {node : Int} {K T : Nat → Prop} (h : VOn w0 w p s size l m pr ac ls node K) (ht : Tch T w w') (hT : ∀ k, T k → K k ∧ w0.heap.size ≤ k) : VOn w0 w' p s size l m pr ac ls node (fun k => K k ∨ (w.heap.size ≤ k ∧ k < w'.heap.size)) := by
  obtain ⟨ao, c, vs, h⟩ := h
  have h1 := h.st.wgrow ht (fun k hk => ⟨.inl (hT k hk).1, (hT k hk).2⟩)
  have hn : ∀ k, VBk p ao vs k → ¬ T k := fun k hk hT2 => h.apart k hk (hT k hT2).1
  refine ⟨ao, c, vs, ht.at h.ob (hn p (.inl rfl)), h.log.keep ht (fun k hk => hn k (.inr hk)), h1.less (fun k hk => ?_), fun k hk hK => ?_, h.base, h.typ, h.few, h.sep⟩
  · rcases hk with (hk | hk) | hk
    · exact .inl (.inl hk)
    · exact .inr hk
    · exact .inl (.inr hk)
  · rcases hK with hK | hK
    · exact h.apart k hk hK
    · have := h.lts k (.inr hk); omega
end Go.Proofs.Ytnhnpfhfcbmmlaa
