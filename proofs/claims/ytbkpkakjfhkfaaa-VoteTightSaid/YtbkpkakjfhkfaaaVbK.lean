/- copyLog and the document's Copy. Condition: the row came in. -/
import Derived.Test.YtbkpkakjfhkfaaaVbR
import Derived.Laws.AppendOwnNone
import Derived.Laws.Rows
namespace Go.Proofs.Ytbkpkakjfhkfaaa
open Go Go.RowKit
set_option linter.unusedVariables false
set_option linter.unusedSimpArgs false

theorem own_kinds {w : World} {B B' n k s s' : Nat} {e e' : TypeId} {v u : Value} {xs ys : List Value} (h : w.ownsRow B e s v n xs) (h2 : w.ownsRow B' e' s' u k ys) (hne : e ≠ e') : Aprt v u := by
  intro g hg hg2
  rcases h.2 with ⟨rfl, _⟩ | ⟨g1, _, _, rfl, _, e1, _⟩
  · cases hg
  rcases h2.2 with ⟨rfl, _⟩ | ⟨g2, _, _, rfl, _, e2, _⟩
  · cases hg2
  have i1 : g1 = g := by cases hg; rfl
  have i2 : g2 = g := by cases hg2; rfl
  subst i1
  subst i2
  rw [e1] at e2
  simp at e2
  exact hne e2.2
theorem own_ne_box {w : World} {B n size p : Nat} {e t : TypeId} {v : Value} {xs : List Value} {cs : Array Value} {fr : Nat × Nat} (h : w.ownsRow B e size v n xs) (hb : w.heap[p]? = some (.cells cs t fr)) (hne : e ≠ t) : ∀ g, v.ownBlock = some g → g ≠ p := by
  intro g hg hgp
  rcases h.2 with ⟨rfl, _⟩ | ⟨g1, _, _, rfl, _, e1, _⟩
  · cases hg
  have i1 : g1 = g := by cases hg; rfl
  subst i1
  subst hgp
  rw [e1] at hb
  simp at hb
  exact hne hb.2.1
/-- A box of a command. -/
def BxC (w : World) (p : Nat) (x : Cm) (v : Value) : Prop := w.heap[p]? = some (.cells (x.arr v) tyC (0, 0))
theorem bxC_new (w : World) (x : Cm) (v : Value) : BxC (w.alloc (x.obj v)) w.heap.size x v := heap_alloc_new w _
theorem BxC.at {w : World} {p : Nat} {x : Cm} {v : Value} (h : BxC w p x v) : CAt w p 0 x v := by
  refine ⟨?_, ?_, ?_, ?_, ?_, ?_, ?_, ?_, ?_, ?_, ?_, ?_⟩ <;> (rw [cell_of_row w p _ _ _ _ h]; rfl)
theorem BxC.free {w : World} {p : Nat} {x : Cm} {v : Value} (h : BxC w p x v) (o : Nat) : w.frozen? ⟨p, o, none⟩ = false := frozen_of_row w p o _ _ h
theorem BxC.lt {w : World} {p : Nat} {x : Cm} {v : Value} (h : BxC w p x v) : p < w.heap.size := lt_of_block h
theorem BxC.later {w w' : World} {p : Nat} {x : Cm} {v : Value} (h : BxC w p x v) (hb : Below w.heap.size w w') : BxC w' p x v := (hb.block p h.lt).trans h
theorem BxC.set8 {w : World} {p : Nat} {x : Cm} {v : Value} (h : BxC w p x v) (u : Value) : BxC (w.setCell ⟨p, 8, none⟩ u) p x u := by
  have := put_row (i := 8) h u
  exact this
theorem bl_set {B : Nat} {w w' : World} (h : Below B w w') {p o : Nat} (hp : B ≤ p) (v : Value) : Below B w (w'.setCell ⟨p, o, none⟩ v) :=
  ⟨h.os, h.tape, h.output, by simp only [World.size_setCell]; exact h.size, fun k hk => (heap_setCell_other w' ⟨p, o, none⟩ k v (by show k ≠ p; omega)).trans (h.block k hk)⟩
/-- Rows of ends of the call's own. -/
def EndsO (w : World) (B : Nat) (ls : List Cm) (vs : List Value) : Prop := ∀ j, j < ls.length → ∃ ao c, vs.getD j undef = .slice ao (ls.getD j cm0).es.length c ∧ w.ownsRow B tyE 3 (.slice ao (ls.getD j cm0).es.length c) (ls.getD j cm0).es.length (cellsE (ls.getD j cm0).es)
/-- A log of the call's own. -/
structure OwC (w : World) (B : Nat) (ls : List Cm) (ao : Option Addr) (c : Nat) (vs : List Value) : Prop where
  own : w.ownsRow B tyC 12 (.slice ao ls.length c) ls.length (cellsC ls vs)
  vlen : vs.length = ls.length
  ends : EndsO w B ls vs
theorem EndsO.tch {T : Nat → Prop} {w w' : World} {B : Nat} {ls : List Cm} {vs : List Value} (h : EndsO w B ls vs) (ht : Tch T w w') (hn : ∀ j, j < ls.length → ∀ g, (vs.getD j undef).ownBlock = some g → ¬ T g) : EndsO w' B ls vs := fun j hj => by
  obtain ⟨ao, c, e, ho⟩ := h j hj
  exact ⟨ao, c, e, ht.own ho (fun g hg => hn j hj g (by rw [e]; exact hg))⟩
theorem OwC.tch {T : Nat → Prop} {w w' : World} {B c : Nat} {ls : List Cm} {ao : Option Addr} {vs : List Value} (h : OwC w B ls ao c vs) (ht : Tch T w w') (hn : ∀ k, T k → B ≤ k → False) : OwC w' B ls ao c vs :=
  ⟨ht.own h.own (fun g hg hT => hn g hT (h.own.lt g hg).1), h.vlen, h.ends.tch ht (fun j hj g hg hT => by
    obtain ⟨a2, c2, e, ho⟩ := h.ends j hj
    rw [e] at hg
    exact hn g hT (ho.lt g hg).1)⟩
theorem OwC.later {w w' : World} {B c : Nat} {ls : List Cm} {ao : Option Addr} {vs : List Value} (h : OwC w B ls ao c vs) (hb : Below w.heap.size w w') : OwC w' B ls ao c vs :=
  ⟨owns_bel h.own hb, h.vlen, fun j hj => by
    obtain ⟨a2, c2, e, ho⟩ := h.ends j hj
    exact ⟨a2, c2, e, owns_bel ho hb⟩⟩
theorem OwC.base {w : World} {B B' c : Nat} {ls : List Cm} {ao : Option Addr} {vs : List Value} (h : OwC w B ls ao c vs) (hb : B' ≤ B) : OwC w B' ls ao c vs :=
  ⟨own_base h.own hb, h.vlen, fun j hj => by
    obtain ⟨a2, c2, e, ho⟩ := h.ends j hj
    exact ⟨a2, c2, e, own_base ho hb⟩⟩
theorem OwC.in {w : World} {B c : Nat} {ls : List Cm} {ao : Option Addr} {vs : List Value} (h : OwC w B ls ao c vs) (ht : ∀ x ∈ ls, TyC x) : InC w ao ls.length c ls vs := by
  refine own_inC h.own h.vlen (fun j hj => ?_) ht
  obtain ⟨a2, c2, e, ho⟩ := h.ends j hj
  exact ⟨a2, _, c2, e, own_inE ho (ht _ (memC hj)).es⟩
theorem owC_nil (w : World) (B : Nat) : OwC w B [] none 0 [] := ⟨⟨rfl, .inl ⟨rfl, rfl⟩⟩, rfl, fun j hj => absurd hj (Nat.not_lt_zero j)⟩
/-- One more. -/
theorem OwC.more {w7 w8 : World} {B c c8 : Nat} {ls : List Cm} {ao a8 : Option Addr} {vs : List Value} {x : Cm} {u : Value} (h : OwC w7 B ls ao c vs) {a2 : Option Addr} {c2 : Nat} (hu : u = .slice a2 x.es.length c2) (he : w7.ownsRow B tyE 3 (.slice a2 x.es.length c2) x.es.length (cellsE x.es))
    (hown : w8.ownsRow B tyC 12 (.slice a8 (ls.length + 1) c8) (ls.length + 1) (cellsC ls vs ++ x.cs u)) (hg : w7.grownBy w8 (Value.slice ao ls.length c).ownBlock) : OwC w8 B (ls ++ [x]) a8 c8 (vs ++ [u]) := by
  have hne : tyC ≠ tyE := by decide
  have hT := tch_grown hg
  have hl : (ls ++ [x]).length = ls.length + 1 := by simp
  refine ⟨?_, by simp [h.vlen], fun j hj => ?_⟩
  · rw [hl, cellsC_app h.vlen, cellsC_one]
    exact hown
  · rw [hl] at hj
    by_cases hj2 : j < ls.length
    · obtain ⟨a3, c3, e, ho⟩ := h.ends j hj2
      have e1 : (ls ++ [x]).getD j cm0 = ls.getD j cm0 := by rw [List.getD_eq_getElem?_getD, List.getD_eq_getElem?_getD, List.getElem?_append_left hj2]
      have e2 : (vs ++ [u]).getD j undef = vs.getD j undef := by rw [List.getD_eq_getElem?_getD, List.getD_eq_getElem?_getD, List.getElem?_append_left (by rw [h.vlen]; exact hj2)]
      rw [e1, e2]
      exact ⟨a3, c3, e, hT.own ho (fun g hg2 e3 => own_kinds h.own ho hne g e3.symm hg2)⟩
    · obtain rfl : j = ls.length := by omega
      have e1 : (ls ++ [x]).getD ls.length cm0 = x := by rw [List.getD_eq_getElem?_getD, List.getElem?_append_right (by omega)]; simp
      have e2 : (vs ++ [u]).getD ls.length undef = u := by rw [List.getD_eq_getElem?_getD, List.getElem?_append_right (by rw [h.vlen]; omega), h.vlen]; simp
      rw [e1, e2]
      exact ⟨a2, c2, hu, hT.own he (fun g hg2 e3 => own_kinds h.own he hne g e3.symm hg2)⟩
theorem own_litE (w : World) (B : Nat) (hB : B ≤ w.heap.size) : (w.alloc (.cells #[] tyE)).ownsRow B tyE 3 (.slice (some ⟨w.heap.size, 0, none⟩) 0 0) 0 [] :=
  ⟨rfl, .inr ⟨w.heap.size, 0, _, rfl, hB, heap_alloc_new w _, Nat.le_refl _, by unfold maxLen; omega, by simp, by simp⟩⟩
def GotC (w : World) (ls : List Cm) (e : Ending) (w' : World) : Prop := (∃ ao c vs, e = .returned (.slice ao ls.length c) ∧ OwC w' w.heap.size ls ao c vs) ∧ Below w.heap.size w w'
theorem cs_new (w : World) (x : Cm) (v : Value) : ∀ j u, (x.cs v)[j]? = some u → (w.alloc (.cells (x.arr v) tyC)).cell? ((⟨w.heap.size, 0, none⟩ : Addr).add j) = some u := by
  intro j u hu
  rw [Go.WideShapes.add_plain, World.cell?_alloc_mark, Nat.zero_add]
  have : (x.arr v) = (x.cs v).toArray := rfl
  rw [this, List.getElem?_toArray]
  exact hu
set_option maxRecDepth 100000 in
set_option maxHeartbeats 4000000 in
theorem copyLog_c (ls : List Cm) (vs : List Value) (a : Option Addr) (n c : Nat) (w : World) (hI : InC w a n c ls vs) (hn : n ≤ 1048576) (hes : ∀ x ∈ ls, x.es.length ≤ 1048576) :
    Calls Try.prog 83 #[.slice a n c] w (GotC w ls) := by
  obtain ⟨j0, hj0, hy0, hy1, hy2⟩ := info_parts infoE
  obtain ⟨i0, hi0, hz0, hz1, hz2⟩ := info_parts infoC
  have hlen := hI.len
  have hroom := hI.room
  have HI := Lib.hid hI
  have HES := Lib.hid hes
  have S0 : Hid (∃ ao c vs, (Value.slice none 0 0 = .slice ao 0 c) ∧ OwC w w.heap.size (ls.take 0) ao c vs) := Lib.hid ⟨none, 0, [], rfl, owC_nil w _⟩
  have HB0 := Lib.hid (Below.refl w.heap.size w)
  clear hI hes
  go_enter Try.func83, Try.ntmps83
  go_wp2
  go_loopw [3, 5, 8] (fun rv _ iv wr => ∃ i : Nat, i ≤ n ∧ iv = .int .i64 i ∧ Hid (∃ ao c vs, rv = .slice ao i c ∧ OwC wr w.heap.size (ls.take i) ao c vs) ∧ Hid (Below w.heap.size w wr)) (fun _ _ iv _ => n - (intOf iv).toNat)
  case atStart => exact ⟨0, by omega, rfl, S0, HB0⟩
  case round =>
    obtain ⟨i, hi, rfl, HS, HB⟩ := hrel
    obtain ⟨w3, rfl⟩ : ∃ v, v = wr := ⟨_, rfl⟩
    clear S0 HB0
    obtain ⟨ao, cm, vm, erv, hO⟩ := HS.out
    subst erv
    clear HS
    have hlt3 : w.heap.size ≤ w3.heap.size := HB.out.size
    by_cases hlt : i < n
    · have ii : (i : Int) < (n : Int) := by omega
      have i0' : (0 : Int) ≤ (i : Int) := by omega
      have ic : (i : Int) ≤ (c : Int) := by omega
      have hI2 := HI.out.below HB.out
      obtain ⟨b1, o1, rfl⟩ := HI.out.block (by omega)
      obtain ⟨k0, k1, k2, k3, k4, k5, k6, k7, k8, k9, k10, k11⟩ := hI2.cell hlt
      obtain ⟨a2, n2, c2, hv, hE⟩ := hI2.ends i hlt
      have ht := HI.out.ty hlt
      rw [hv] at k8
      have hmem := memC (ls := ls) (i := i) (by omega)
      have HTK : Hid (ls.take (i + 1) = ls.take i ++ [ls.getD i cm0] ∧ (ls.take i).length = i) := Lib.hid ⟨take_moreC ls (i := i) (by omega), by rw [List.length_take]; omega⟩
      obtain ⟨x, hx⟩ : ∃ x, x = ls.getD i cm0 := ⟨_, rfl⟩
      rw [← hx] at k0 k1 k2 k3 k4 k5 k6 k7 k9 k10 k11 hE ht hmem HTK
      have hn2 : n2 ≤ 1048576 := by rw [← hE.len]; exact HES.out x hmem
      have hel := hE.len
      have HEL := Lib.hid hel
      obtain ⟨w4, hw4⟩ : ∃ w4, w4 = w3.alloc (x.obj (.slice a2 n2 c2)) := ⟨_, rfl⟩
      have hA := bxC_new w3 x (.slice a2 n2 c2)
      have hb4 : Below w3.heap.size w3 w4 := by rw [hw4]; exact bl_al (Below.refl _ _) _
      have hs4 : w4.heap.size = w3.heap.size + 1 := by rw [hw4]; simp
      obtain ⟨p4, hp4⟩ : ∃ p4, p4 = w3.heap.size := ⟨_, rfl⟩
      rw [← hp4, ← hw4] at hA
      have HP4 : Hid (p4 = w3.heap.size ∧ w4.heap.size = p4 + 1 ∧ w.heap.size ≤ p4) := Lib.hid ⟨hp4, by omega, by omega⟩
      have HW4 := Lib.hid (And.intro hw4 hp4)
      have HB4 := Lib.hid (bl_tr HB.out hb4)
      have HO4 := Lib.hid (hO.later hb4)
      have HE4 := Lib.hid (hE.below hb4)
      have HA4 := Lib.hid hA
      have HBLT := Lib.hid hO.own
      have HOB : Hid (∀ g, (Value.slice ao i cm).ownBlock = some g → g < p4) := Lib.hid (fun g hg => by have := (hO.own.lt g (by rw [HTK.out.2]; exact hg)).2; omega)
      have HVB : Hid (∀ j, j < (ls.take i).length → ∀ g, (vm.getD j undef).ownBlock = some g → g < p4) := Lib.hid (fun j hj g hg => by
        obtain ⟨a3, c3, e, ho⟩ := hO.ends j hj
        rw [e] at hg
        have := (ho.lt g hg).2
        omega)
      obtain ⟨d0, d1, d2, d3, d4, d5, d6, d7, d8, d9, d10, d11⟩ := hA.at.lit
      have df := hA.free 8
      clear hx ht hE hv hI2 hmem hw4 hb4 hp4 hA hs4 hel hO
      go_upto_region 5 with fail
      rw [show w3.alloc (.cells #[.int .i64 x.node, .int .i64 x.boot, .int .i64 x.seq, .int .i64 x.time, .int .i64 x.kind, .int .u32 x.vip, .int .i64 x.proto, .int .i64 x.port, .slice a2 n2 c2, .int .u32 x.dip, .int .u32 x.cvip, .bool x.up] tyC) = w4 from HW4.out.1.symm, ← HW4.out.2]
      clear k0 k1 k2 k3 k4 k5 k6 k7 k8 k9 k10 k11
      have HZ2 := Lib.hid HE4.out.zero
      have HCL : Hid ((cellsE x.es).length = n2 * 3) := Lib.hid (by rw [cellsE_len, HEL.out])
      have HCE := Lib.hid HE4.out.cells
      have HBS : Hid (w.heap.size ≤ w4.heap.size) := Lib.hid HB4.out.size
      go_wp2_with (at_builtin; refine append_any rfl (.const (.slice none 0 0)) (.tmp 14) 38 rfl w.heap.size tyE j0 (.agg #[.int .u32 0, .int .i64 0, .int .i64 0]) 3 24 Try.underlying38 hj0 hy0 hy1 hy2 rfl (by decide) (.slice none 0 0) 0 [] rfl ⟨rfl, .inl ⟨rfl, rfl⟩⟩ a2 n2 c2 (cellsE x.es) rfl HZ2.out HCL.out HCE.out (cellsE_one' x.es) (by unfold maxLen; omega) (by omega) HBS.out ?_)
      intro v5 w5 hown5 hg5
      obtain ⟨a5, c5, rfl⟩ := own_form hown5
      try simp only [Nat.zero_add, List.nil_append] at hown5
      have hb5 : Below w4.heap.size w4 w5 := (tch_grown hg5).below (fun k hk => by cases hk) (Nat.le_refl _)
      have hO5 := HO4.out.later hb5
      have hA5 := HA4.out.later hb5
      have hne5 : ∀ g, (Value.slice a5 n2 c5).ownBlock = some g → g ≠ p4 := own_ne_box hown5 hA5 (by decide)
      obtain ⟨w6, hw6⟩ : ∃ w6, w6 = w5.setCell ⟨p4, 8, none⟩ (.slice a5 n2 c5) := ⟨_, rfl⟩
      have hT6 : Tch (· = p4) w5 w6 := by rw [hw6]; exact tch_set w5 ⟨p4, 8, none⟩ _
      have hA6 : BxC w6 p4 x (.slice a5 n2 c5) := by rw [hw6]; exact hA5.set8 _
      have hs6 : w6.heap.size = w5.heap.size := by rw [hw6]; simp
      have hO6 : OwC w6 w.heap.size (ls.take i) ao cm vm := ⟨hT6.own hO5.own (fun g hg e => by
        have := HOB.out g (by rw [HTK.out.2] at hg; exact hg); omega), hO5.vlen, hO5.ends.tch hT6 (fun j hj g hg e => by have := HVB.out j hj g hg; omega)⟩
      have hE6 : w6.ownsRow w.heap.size tyE 3 (.slice a5 n2 c5) n2 (cellsE x.es) := hT6.own hown5 (fun g hg e => hne5 g hg e)
      have hB6 : Below w.heap.size w w6 := (bl_tr HB4.out hb5).trans (hT6.below (fun k hk => by have := HP4.out; omega) (by have := HB4.out.size; have := hb5.size; omega))
      have df5 := hA5.free 8
      have dc5 := hA5.at.lit.2.2.2.2.2.2.2.2.1
      have HW6 := Lib.hid hw6
      have HO6 := Lib.hid hO6
      have HE6 := Lib.hid hE6
      have HB6 := Lib.hid hB6
      have HA6 := Lib.hid hA6
      clear hown5 hg5 hb5 hO5 hA5 hw6 hT6 hA6 hs6 hO6 hE6 hB6 d0 d1 d2 d3 d4 d5 d6 d7 d8 d9 d10 d11 df HBLT hne5
      go_upto_region 6 with fail
      rw [← HW6.out]
      clear df5 dc5
      obtain ⟨d0, d1, d2, d3, d4, d5, d6, d7, d8, d9, d10, d11⟩ := HA6.out.at.lit
      have HOO : Hid ((w6.alloc (.cells #[.int .i64 x.node, .int .i64 x.boot, .int .i64 x.seq, .int .i64 x.time, .int .i64 x.kind, .int .u32 x.vip, .int .i64 x.proto, .int .i64 x.port, .slice a5 n2 c5, .int .u32 x.dip, .int .u32 x.cvip, .bool x.up] tyC)).ownsRow w.heap.size tyC 12 (.slice ao i cm) i (cellsC (ls.take i) vm)) := Lib.hid (by have := HO6.out.own; rw [HTK.out.2] at this; exact this.alloc _)
      have HNN := Lib.hid (cs_new w6 x (.slice a5 n2 c5))
      have HO1 := Lib.hid (cs_one1 x (v := .slice a5 n2 c5) rfl)
      go_wp2_with (at_builtin; refine wpList_append_own _ rfl (.tmp 18) (.tmp 20) 22 rfl w.heap.size tyC i0 _ 12 104 Try.underlying22 hi0 hz0 hz1 hz2 rfl (by decide) _ i (cellsC (ls.take i) vm) rfl HOO.out ⟨w6.heap.size, 0, none⟩ 1 1 (x.cs (.slice a5 n2 c5)) rfl rfl HNN.out HO1.out (by unfold maxLen; omega) (by omega) (by have := HB6.out.size; simp; omega) ?_)
      intro v8 w8 hown8 hg8 _
      obtain ⟨a8, c8, rfl⟩ := own_form hown8
      have hb7 := bl_al (Below.refl w6.heap.size w6) (.cells (x.arr (.slice a5 n2 c5)) tyC)
      have hO7 := HO6.out.later hb7
      have hE7 := owns_bel HE6.out hb7
      have HF : Hid (∃ ao c vs, (Value.slice a8 (i + 1) c8 = .slice ao (i + 1) c) ∧ OwC w8 w.heap.size (ls.take (i + 1)) ao c vs) := Lib.hid (by
        have e2 := HEL.out
        refine ⟨a8, c8, vm ++ [.slice a5 n2 c5], rfl, ?_⟩
        rw [HTK.out.1]
        refine hO7.more (x := x) (a2 := a5) (c2 := c5) (by rw [e2]) (by rw [e2]; exact hE7) ?_ (by rw [HTK.out.2]; exact hg8)
        rw [HTK.out.2]
        exact hown8)
      have HB8 : Hid (Below w.heap.size w w8) := Lib.hid ((HB6.out.alloc HB6.out.size _).grown hg8 (by have := HB6.out.size; simp; omega) (fun k hk => (HOO.out.lt k hk).1))
      clear hown8 hg8 hb7 hO7 hE7 HOO HNN HO1 d0 d1 d2 d3 d4 d5 d6 d7 d8 d9 d10 d11
      go_wp2
      go_roundw
      case rel => exact ⟨i + 1, by omega, by go_num, HF, HB8⟩
      case measure => simp [intOf]; omega
    · have ii : ¬ (i : Int) < (n : Int) := by omega
      obtain rfl : i = n := by omega
      have HF : Hid (GotC w ls (.returned (.slice ao i cm)) w3) := Lib.hid ⟨⟨ao, cm, vm, by rw [hlen], by rw [taken_end hlen] at hO; exact hO⟩, HB.out⟩
      clear hO
      go_wp2
      go_ret
      exact HF.out
set_option maxRecDepth 100000 in
set_option maxHeartbeats 4000000 in
theorem copyR_c (ls : List Cm) (vs : List Value) (a : Option Addr) (n c : Nat) (w : World) (hI : InC w a n c ls vs) (hn : n ≤ 1048576) (hes : ∀ x ∈ ls, x.es.length ≤ 1048576) :
    Calls Try.prog 16 #[.slice a n c] w (GotC w ls) := by
  obtain ⟨j0, hj0, hy0, hy1, hy2⟩ := info_parts infoE
  obtain ⟨i0, hi0, hz0, hz1, hz2⟩ := info_parts infoC
  have hlen := hI.len
  have hroom := hI.room
  have HI := Lib.hid hI
  have HES := Lib.hid hes
  have S0 : Hid (∃ ao c vs, (Value.slice none 0 0 = .slice ao 0 c) ∧ OwC w w.heap.size (ls.take 0) ao c vs) := Lib.hid ⟨none, 0, [], rfl, owC_nil w _⟩
  have HB0 := Lib.hid (Below.refl w.heap.size w)
  clear hI hes
  go_enter Try.func16, Try.ntmps16
  go_wp2
  go_loopw [3, 4, 5] (fun rv iv _ wr => ∃ i : Nat, i ≤ n ∧ iv = .int .i64 i ∧ Hid (∃ ao c vs, rv = .slice ao i c ∧ OwC wr w.heap.size (ls.take i) ao c vs) ∧ Hid (Below w.heap.size w wr)) (fun _ iv _ _ => n - (intOf iv).toNat)
  case atStart => exact ⟨0, by omega, rfl, S0, HB0⟩
  case round =>
    obtain ⟨i, hi, rfl, HS, HB⟩ := hrel
    obtain ⟨w3, rfl⟩ : ∃ v, v = wr := ⟨_, rfl⟩
    clear S0 HB0
    obtain ⟨ao, cm, vm, erv, hO⟩ := HS.out
    subst erv
    clear HS
    have hlt3 : w.heap.size ≤ w3.heap.size := HB.out.size
    by_cases hlt : i < n
    · have ii : (i : Int) < (n : Int) := by omega
      have i0' : (0 : Int) ≤ (i : Int) := by omega
      have ic : (i : Int) ≤ (c : Int) := by omega
      have hI2 := HI.out.below HB.out
      obtain ⟨b1, o1, rfl⟩ := HI.out.block (by omega)
      obtain ⟨k0, k1, k2, k3, k4, k5, k6, k7, k8, k9, k10, k11⟩ := hI2.cell hlt
      obtain ⟨a2, n2, c2, hv, hE⟩ := hI2.ends i hlt
      have ht := HI.out.ty hlt
      rw [hv] at k8
      have hmem := memC (ls := ls) (i := i) (by omega)
      have HTK : Hid (ls.take (i + 1) = ls.take i ++ [ls.getD i cm0] ∧ (ls.take i).length = i) := Lib.hid ⟨take_moreC ls (i := i) (by omega), by rw [List.length_take]; omega⟩
      obtain ⟨x, hx⟩ : ∃ x, x = ls.getD i cm0 := ⟨_, rfl⟩
      rw [← hx] at k0 k1 k2 k3 k4 k5 k6 k7 k9 k10 k11 hE ht hmem HTK
      have hn2 : n2 ≤ 1048576 := by rw [← hE.len]; exact HES.out x hmem
      have hel := hE.len
      have HEL := Lib.hid hel
      obtain ⟨w4, hw4⟩ : ∃ w4, w4 = w3.alloc (x.obj (.slice a2 n2 c2)) := ⟨_, rfl⟩
      have hA := bxC_new w3 x (.slice a2 n2 c2)
      have hb4 : Below w3.heap.size w3 w4 := by rw [hw4]; exact bl_al (Below.refl _ _) _
      have hs4 : w4.heap.size = w3.heap.size + 1 := by rw [hw4]; simp
      obtain ⟨p4, hp4⟩ : ∃ p4, p4 = w3.heap.size := ⟨_, rfl⟩
      rw [← hp4, ← hw4] at hA
      have HP4 : Hid (p4 = w3.heap.size ∧ w4.heap.size = p4 + 1 ∧ w.heap.size ≤ p4) := Lib.hid ⟨hp4, by omega, by omega⟩
      have HW4 := Lib.hid (And.intro hw4 hp4)
      have HB4 := Lib.hid (bl_tr HB.out hb4)
      have HO4 := Lib.hid (hO.later hb4)
      have HE4 := Lib.hid (hE.below hb4)
      have HA4 := Lib.hid hA
      have HBLT := Lib.hid hO.own
      have HOB : Hid (∀ g, (Value.slice ao i cm).ownBlock = some g → g < p4) := Lib.hid (fun g hg => by have := (hO.own.lt g (by rw [HTK.out.2]; exact hg)).2; omega)
      have HVB : Hid (∀ j, j < (ls.take i).length → ∀ g, (vm.getD j undef).ownBlock = some g → g < p4) := Lib.hid (fun j hj g hg => by
        obtain ⟨a3, c3, e, ho⟩ := hO.ends j hj
        rw [e] at hg
        have := (ho.lt g hg).2
        omega)
      obtain ⟨d0, d1, d2, d3, d4, d5, d6, d7, d8, d9, d10, d11⟩ := hA.at.lit
      have df := hA.free 8
      clear hx ht hE hv hI2 hmem hw4 hb4 hp4 hA hs4 hel hO
      go_upto_region 6 with fail
      rw [show w3.alloc (.cells #[.int .i64 x.node, .int .i64 x.boot, .int .i64 x.seq, .int .i64 x.time, .int .i64 x.kind, .int .u32 x.vip, .int .i64 x.proto, .int .i64 x.port, .slice a2 n2 c2, .int .u32 x.dip, .int .u32 x.cvip, .bool x.up] tyC) = w4 from HW4.out.1.symm, ← HW4.out.2]
      clear k0 k1 k2 k3 k4 k5 k6 k7 k8 k9 k10 k11
      have HZ2 := Lib.hid HE4.out.zero
      have HCL : Hid ((cellsE x.es).length = n2 * 3) := Lib.hid (by rw [cellsE_len, HEL.out])
      have HCE0 := Lib.hid HE4.out.cells
      have HBS : Hid (w.heap.size ≤ (w4.alloc (.cells #[] tyE)).heap.size) := Lib.hid (by have := HB4.out.size; simp; omega)
      have HEM := Lib.hid (own_litE w4 w.heap.size HB4.out.size)
      have HCE := Lib.hid (HE4.out.below (bl_al (Below.refl _ _) (.cells #[] tyE))).cells
      have hp4w : p4 < w4.heap.size := HA4.out.lt
      go_wp2_with (at_builtin; refine append_any rfl (.tmp 16) (.tmp 19) 38 rfl w.heap.size tyE j0 (.agg #[.int .u32 0, .int .i64 0, .int .i64 0]) 3 24 Try.underlying38 hj0 hy0 hy1 hy2 rfl (by decide) _ 0 [] rfl HEM.out a2 n2 c2 (cellsE x.es) rfl HZ2.out HCL.out HCE.out (cellsE_one' x.es) (by unfold maxLen; omega) (by omega) HBS.out ?_)
      intro v5 w5 hown5 hg5
      obtain ⟨a5, c5, rfl⟩ := own_form hown5
      try simp only [Nat.zero_add, List.nil_append] at hown5
      have hb5 : Below w4.heap.size w4 w5 := ((bl_al (Below.refl w4.heap.size w4) (.cells #[] tyE)).grown hg5 (by simp) (fun k hk => by cases hk; exact Nat.le_refl _))
      have hO5 := HO4.out.later hb5
      have hA5 := HA4.out.later hb5
      have hne5 : ∀ g, (Value.slice a5 n2 c5).ownBlock = some g → g ≠ p4 := own_ne_box hown5 hA5 (by decide)
      obtain ⟨w6, hw6⟩ : ∃ w6, w6 = w5.setCell ⟨p4, 8, none⟩ (.slice a5 n2 c5) := ⟨_, rfl⟩
      have hT6 : Tch (· = p4) w5 w6 := by rw [hw6]; exact tch_set w5 ⟨p4, 8, none⟩ _
      have hA6 : BxC w6 p4 x (.slice a5 n2 c5) := by rw [hw6]; exact hA5.set8 _
      have hs6 : w6.heap.size = w5.heap.size := by rw [hw6]; simp
      have hO6 : OwC w6 w.heap.size (ls.take i) ao cm vm := ⟨hT6.own hO5.own (fun g hg e => by
        have := HOB.out g (by rw [HTK.out.2] at hg; exact hg); omega), hO5.vlen, hO5.ends.tch hT6 (fun j hj g hg e => by have := HVB.out j hj g hg; omega)⟩
      have hE6 : w6.ownsRow w.heap.size tyE 3 (.slice a5 n2 c5) n2 (cellsE x.es) := hT6.own hown5 (fun g hg e => hne5 g hg e)
      have hB6 : Below w.heap.size w w6 := (bl_tr HB4.out hb5).trans (hT6.below (fun k hk => by have := HP4.out; omega) (by have := HB4.out.size; have := hb5.size; omega))
      have df5 := hA5.free 8
      have dc5 := hA5.at.lit.2.2.2.2.2.2.2.2.1
      have HW6 := Lib.hid hw6
      have HO6 := Lib.hid hO6
      have HE6 := Lib.hid hE6
      have HB6 := Lib.hid hB6
      have HA6 := Lib.hid hA6
      clear hp4w hown5 hg5 hb5 hO5 hA5 hw6 hT6 hA6 hs6 hO6 hE6 hB6 d0 d1 d2 d3 d4 d5 d6 d7 d8 d9 d10 d11 df HBLT hne5
      go_upto_region 7 with fail
      rw [← HW6.out]
      clear df5 dc5
      obtain ⟨d0, d1, d2, d3, d4, d5, d6, d7, d8, d9, d10, d11⟩ := HA6.out.at.lit
      have HOO : Hid ((w6.alloc (.cells #[.int .i64 x.node, .int .i64 x.boot, .int .i64 x.seq, .int .i64 x.time, .int .i64 x.kind, .int .u32 x.vip, .int .i64 x.proto, .int .i64 x.port, .slice a5 n2 c5, .int .u32 x.dip, .int .u32 x.cvip, .bool x.up] tyC)).ownsRow w.heap.size tyC 12 (.slice ao i cm) i (cellsC (ls.take i) vm)) := Lib.hid (by have := HO6.out.own; rw [HTK.out.2] at this; exact this.alloc _)
      have HNN := Lib.hid (cs_new w6 x (.slice a5 n2 c5))
      have HO1 := Lib.hid (cs_one1 x (v := .slice a5 n2 c5) rfl)
      go_wp2_with (at_builtin; refine wpList_append_own _ rfl (.tmp 23) (.tmp 25) 22 rfl w.heap.size tyC i0 _ 12 104 Try.underlying22 hi0 hz0 hz1 hz2 rfl (by decide) _ i (cellsC (ls.take i) vm) rfl HOO.out ⟨w6.heap.size, 0, none⟩ 1 1 (x.cs (.slice a5 n2 c5)) rfl rfl HNN.out HO1.out (by unfold maxLen; omega) (by omega) (by have := HB6.out.size; simp; omega) ?_)
      intro v8 w8 hown8 hg8 _
      obtain ⟨a8, c8, rfl⟩ := own_form hown8
      have hb7 := bl_al (Below.refl w6.heap.size w6) (.cells (x.arr (.slice a5 n2 c5)) tyC)
      have hO7 := HO6.out.later hb7
      have hE7 := owns_bel HE6.out hb7
      have HF : Hid (∃ ao c vs, (Value.slice a8 (i + 1) c8 = .slice ao (i + 1) c) ∧ OwC w8 w.heap.size (ls.take (i + 1)) ao c vs) := Lib.hid (by
        have e2 := HEL.out
        refine ⟨a8, c8, vm ++ [.slice a5 n2 c5], rfl, ?_⟩
        rw [HTK.out.1]
        refine hO7.more (x := x) (a2 := a5) (c2 := c5) (by rw [e2]) (by rw [e2]; exact hE7) ?_ (by rw [HTK.out.2]; exact hg8)
        rw [HTK.out.2]
        exact hown8)
      have HB8 : Hid (Below w.heap.size w w8) := Lib.hid ((HB6.out.alloc HB6.out.size _).grown hg8 (by have := HB6.out.size; simp; omega) (fun k hk => (HOO.out.lt k hk).1))
      clear hown8 hg8 hb7 hO7 hE7 HOO HNN HO1 d0 d1 d2 d3 d4 d5 d6 d7 d8 d9 d10 d11
      go_wp2
      go_roundw
      case rel => exact ⟨i + 1, by omega, by go_num, HF, HB8⟩
      case measure => simp [intOf]; omega
    · have ii : ¬ (i : Int) < (n : Int) := by omega
      obtain rfl : i = n := by omega
      have HF : Hid (GotC w ls (.returned (.slice ao i cm)) w3) := Lib.hid ⟨⟨ao, cm, vm, by rw [hlen], by rw [taken_end hlen] at hO; exact hO⟩, HB.out⟩
      clear hO
      go_wp2
      go_ret
      exact HF.out
end Go.Proofs.Ytbkpkakjfhkfaaa
