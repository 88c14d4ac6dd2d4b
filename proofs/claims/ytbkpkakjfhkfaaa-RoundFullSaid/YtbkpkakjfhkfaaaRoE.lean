/- A round of the call's own; choose. Conditions: those stated. -/
import Derived.Test.YtbkpkakjfhkfaaaRoD
import Derived.Test.YtbkpkakjfhkfaaaQStB
import Derived.Maps.AppendAt
import Derived.Deep.RegionLaw
namespace Go.Proofs.Ytbkpkakjfhkfaaa
open Go Go.RowKit
set_option linter.unusedVariables false
set_option linter.unusedSimpArgs false

theorem step_append_at {P : Program} {w : World} {ops : Array Oper} {o : Oper} {a : Act} {K : Act → World → Prop} {Q : Exit → Act → World → Prop} {E : Prop} (hgd : o.guard = none) (s x : Operand) (t : TypeId)
    (ho : o.op = .call { callee := .builtin .append, args := #[s, x], argTypes := #[t, t] })
    (base : Nat) (e : TypeId) (i : TypeInfo) (z : Value) (size bytes : Nat) (ht : P.underlying t = some (.slice e)) (hi : P.info? e = some i) (hz : i.zero = some z)
    (hsize : i.size = size) (hby : i.bytes = bytes) (hzs : z.cells.size = size) (hsz : 0 < size)
    (v : Value) (n : Nat) (xs : List Value) (hs : a.eval s = v) (hown : w.ownsRow base e size v n xs)
    (ao : Option Addr) (m c : Nat) (news : List Value) (hx : a.eval x = .slice ao m c) (hl : news.length = m * size) (hnone : ao = Option.none → m = 0 ∧ c = 0) (hnews : ∀ ad, ao = some ad → ∀ j u, news[j]? = some u → w.cell? (ad.add j) = some u) (h1 : ∀ u ∈ news, u.oneCell' = true)
    (h63 : n + m ≤ maxLen) (hbytes : (n + m) * bytes ≤ 140737488355328) (hbase : base ≤ w.heap.size)
    (h : ∀ v' w', w'.ownsRow base e size v' (n + m) (xs ++ news) → w.grownBy w' v.ownBlock → (v'.ownBlock = v.ownBlock ∨ v'.ownBlock = some w.heap.size) → K (a.put o.dst v') w') :
    if Region.wanted o (yielded ops a.tmps) = true then Oper.wp P o a w K Q else E := by
  have hw : Region.wanted o (yielded ops a.tmps) = true := by simp [Region.wanted, hgd]
  cases ao with
  | some ad =>
    rw [if_pos hw]
    obtain ⟨v', w', hr, h2, h3, _, h5⟩ := run_append_own_at (P := P) w base t o.type e i z size bytes ht hi hz hsize hby hzs hsz v n xs hown ad m c news hl (hnews ad rfl) h1 h63 hbytes hbase
    unfold Oper.wp execOp
    simp only [ho, resolve, invoke, builtin, Sem.run_bind, Sem.run_pure, Result.andThen_ok, List.map_toArray, List.map_cons, List.map_nil, hs, hx, hr]
    exact h v' w' h2 h3 h5
  | none =>
    obtain ⟨rfl, rfl⟩ := hnone rfl
    have hn : news = [] := List.eq_nil_of_length_eq_zero (by simpa using hl)
    subst hn
    rw [if_pos hw]
    have hr := run_append_owned_none (P := P) w base t o.type e i size ht hi v n xs hown
    unfold Oper.wp execOp
    simp only [ho, resolve, invoke, builtin, Sem.run_bind, Sem.run_pure, Result.andThen_ok, List.map_toArray, List.map_cons, List.map_nil, hs, hx, hr]
    exact h v w (by simpa using hown) (World.grownBy.refl w _) (.inl rfl)
theorem OwC.blks {w : World} {B c : Nat} {ls : List Cm} {ao : Option Addr} {vs : List Value} (h : OwC w B ls ao c vs) : ∀ k, BkC ao vs k → B ≤ k ∧ k < w.heap.size := by
  have go : ∀ {e : TypeId} {size n : Nat} {xs : List Value} {ad : Addr} {m c2 : Nat}, w.ownsRow B e size (.slice (some ad) m c2) n xs → B ≤ ad.block ∧ ad.block < w.heap.size := by
    intro e size n xs ad m c2 ho
    exact ho.lt ad.block rfl
  rintro k (⟨ad, ha, rfl⟩ | ⟨v, hv, ad, n, c2, e, rfl⟩)
  · have := h.own
    rw [ha] at this
    exact go this
  · obtain ⟨j, hj, hvj⟩ := List.getElem_of_mem hv
    have hj2 : j < ls.length := by rw [← h.vlen]; exact hj
    obtain ⟨a2, c3, e2, ho⟩ := h.ends j hj2
    have e3 : vs.getD j undef = v := by rw [List.getD_eq_getElem?_getD, List.getElem?_eq_getElem hj]; exact hvj
    rw [e3, e] at e2
    rw [← e2] at ho
    exact go ho
theorem bkC_own {ao : Option Addr} {n c g : Nat} {vs : List Value} (h : (Value.slice ao n c).ownBlock = some g) : BkC ao vs g := by
  cases ao with
  | none => cases h
  | some a => cases h; exact .inl ⟨a, rfl, rfl⟩
theorem bkC_end {ao : Option Addr} {g j : Nat} {vs : List Value} (hj : j < vs.length) {a2 : Option Addr} {n2 c2 : Nat} (e : vs.getD j undef = .slice a2 n2 c2) (h : (vs.getD j undef).ownBlock = some g) : BkC ao vs g := by
  rw [e] at h
  cases a2 with
  | none => cases h
  | some a => cases h; exact .inr ⟨_, memV hj, a, n2, c2, e, rfl⟩
/-- An own log behind what touches other blocks. -/
theorem OwC.keep {T : Nat → Prop} {w w' : World} {B c : Nat} {ls : List Cm} {ao : Option Addr} {vs : List Value} (h : OwC w B ls ao c vs) (ht : Tch T w w') (hn : ∀ k, BkC ao vs k → ¬ T k) : OwC w' B ls ao c vs :=
  ⟨ht.own h.own (fun g hg => hn g (bkC_own hg)), h.vlen, h.ends.tch ht (fun j hj g hg => by
    obtain ⟨a2, c2, e, _⟩ := h.ends j hj
    exact hn g (bkC_end (by rw [h.vlen]; exact hj) e hg))⟩
/-- One log behind another. -/
theorem OwC.join {w w8 : World} {B c c1 c8 : Nat} {ls ms : List Cm} {ao a1 a8 : Option Addr} {vs us : List Value} (h : OwC w B ls ao c vs) (h2 : OwC w B ms a1 c1 us)
    (hown : w8.ownsRow B tyC 12 (.slice a8 (ls.length + ms.length) c8) (ls.length + ms.length) (cellsC ls vs ++ cellsC ms us)) (hg : w.grownBy w8 (Value.slice ao ls.length c).ownBlock) : OwC w8 B (ls ++ ms) a8 c8 (vs ++ us) := by
  have hne : tyC ≠ tyE := by decide
  have hT := tch_grown hg
  have hl : (ls ++ ms).length = ls.length + ms.length := by simp
  refine ⟨?_, by simp [h.vlen, h2.vlen], fun j hj => ?_⟩
  · rw [hl, cellsC_app h.vlen]
    exact hown
  · rw [hl] at hj
    by_cases hj2 : j < ls.length
    · obtain ⟨a3, c3, e, ho⟩ := h.ends j hj2
      have e1 : (ls ++ ms).getD j cm0 = ls.getD j cm0 := by rw [List.getD_eq_getElem?_getD, List.getD_eq_getElem?_getD, List.getElem?_append_left hj2]
      have e2 : (vs ++ us).getD j undef = vs.getD j undef := by rw [List.getD_eq_getElem?_getD, List.getD_eq_getElem?_getD, List.getElem?_append_left (by rw [h.vlen]; exact hj2)]
      rw [e1, e2]
      exact ⟨a3, c3, e, hT.own ho (fun g hg2 e3 => own_kinds h.own ho hne g e3.symm hg2)⟩
    · obtain ⟨a3, c3, e, ho⟩ := h2.ends (j - ls.length) (by omega)
      have e1 : (ls ++ ms).getD j cm0 = ms.getD (j - ls.length) cm0 := by rw [List.getD_eq_getElem?_getD, List.getD_eq_getElem?_getD, List.getElem?_append_right (by omega)]
      have e2 : (vs ++ us).getD j undef = us.getD (j - ls.length) undef := by rw [List.getD_eq_getElem?_getD, List.getD_eq_getElem?_getD, List.getElem?_append_right (by rw [h.vlen]; omega), h.vlen]
      rw [e1, e2]
      exact ⟨a3, c3, e, hT.own ho (fun g hg2 e3 => own_kinds h.own ho hne g e3.symm hg2)⟩
/-- Blocks K stay, and none goes away. -/
def Kpz (K : Nat → Prop) (w w' : World) : Prop := Kpt K w w' ∧ w.heap.size ≤ w'.heap.size
theorem Kpz.trans {K : Nat → Prop} {a b c : World} (h : Kpz K a b) (h2 : Kpz K b c) : Kpz K a c := ⟨h.1.trans h2.1, Nat.le_trans h.2 h2.2⟩
theorem Kpz.refl (K : Nat → Prop) (w : World) : Kpz K w w := ⟨fun _ _ => rfl, Nat.le_refl _⟩
/-- The round's blocks. -/
def RBk (p : Nat) (a1 : Option Addr) (v1 : List Value) (a2 : Option Addr) (v2 : List Value) (k : Nat) : Prop := k = p ∨ BkC a1 v1 k ∨ BkC a2 v2 k
/-- A round of the call's own, in which blocks K have no part. -/
structure RX (w0 w : World) (p : Nat) (r : Rd) (K : Nat → Prop) (a1 : Option Addr) (c1 : Nat) (v1 : List Value) (a2 : Option Addr) (c2 : Nat) (v2 : List Value) : Prop where
  ob : ROb w p r (.slice a1 r.want.length c1) (.slice a2 r.log.length c2)
  want : OwC w w0.heap.size r.want a1 c1 v1
  log : OwC w w0.heap.size r.log a2 c2 v2
  aprt : r.stage = 1 → Aprt (.slice a1 r.want.length c1) (.slice a2 r.log.length c2)
  away : ∀ k, RBk p a1 v1 a2 v2 k → ¬ K k
  base : w0.heap.size ≤ p
  lt : ∀ k, K k → k < w.heap.size
  bel : Below w0.heap.size w0 w
  ok : OkR r
def ROn (w0 w : World) (p : Nat) (r : Rd) (K : Nat → Prop) : Prop := ∃ a1 c1 v1 a2 c2 v2, RX w0 w p r K a1 c1 v1 a2 c2 v2
theorem tyCR : tyC ≠ tyR := by decide
theorem tyER : tyE ≠ tyR := by decide
/-- No row of commands, and none of ends, is the round's own block. -/
theorem OwC.notBox {w : World} {B c p : Nat} {ls : List Cm} {ao : Option Addr} {vs : List Value} {cs : Array Value} {fr : Nat × Nat} (h : OwC w B ls ao c vs) (hb : w.heap[p]? = some (.cells cs tyR fr)) : ∀ k, BkC ao vs k → k ≠ p := by
  rintro k (⟨ad, ha, rfl⟩ | ⟨v, hv, ad, n, c2, e, rfl⟩)
  · exact own_ne_box h.own hb tyCR ad.block (by rw [ha]; rfl)
  · obtain ⟨j, hj, hvj⟩ := List.getElem_of_mem hv
    have hj2 : j < ls.length := by rw [← h.vlen]; exact hj
    obtain ⟨a2, c3, e2, ho⟩ := h.ends j hj2
    have e3 : vs.getD j undef = v := by rw [List.getD_eq_getElem?_getD, List.getElem?_eq_getElem hj]; exact hvj
    rw [e3, e] at e2
    rw [← e2] at ho
    exact own_ne_box ho hb tyER ad.block rfl
section
variable {w0 w w' : World} {p : Nat} {r : Rd} {K : Nat → Prop} {a1 : Option Addr} {c1 : Nat} {v1 : List Value} {a2 : Option Addr} {c2 : Nat} {v2 : List Value}
theorem RX.blk (h : RX w0 w p r K a1 c1 v1 a2 c2 v2) : ∀ k, RBk p a1 v1 a2 v2 k → w0.heap.size ≤ k ∧ k < w.heap.size := by
  rintro k (rfl | hk | hk)
  · exact ⟨h.base, h.ob.lt⟩
  · exact h.want.blks k hk
  · exact h.log.blks k hk
/-- What touches none of the round's blocks. -/
theorem RX.keep (h : RX w0 w p r K a1 c1 v1 a2 c2 v2) {T : Nat → Prop} (ht : Tch T w w') (hT : ∀ k, RBk p a1 v1 a2 v2 k → ¬ T k) (h0 : ∀ k, T k → w0.heap.size ≤ k) : RX w0 w' p r K a1 c1 v1 a2 c2 v2 :=
  ⟨ht.at h.ob (hT p (.inl rfl)), h.want.keep ht (fun k hk => hT k (.inr (.inl hk))), h.log.keep ht (fun k hk => hT k (.inr (.inr hk))), h.aprt, h.away, h.base, fun k hk => Nat.lt_of_lt_of_le (h.lt k hk) ht.size,
    h.bel.trans (ht.below h0 h.bel.size), h.ok⟩
theorem RX.new (h : RX w0 w p r K a1 c1 v1 a2 c2 v2) (hb : Below w.heap.size w w') : RX w0 w' p r K a1 c1 v1 a2 c2 v2 ∧ Kpz K w w' :=
  ⟨h.keep (tch_new hb) (fun _ _ h => h) (fun _ h => h.elim), fun k hk => hb.block k (h.lt k hk), hb.size⟩
theorem RX.less {K2 : Nat → Prop} (h : RX w0 w p r K a1 c1 v1 a2 c2 v2) (hk : ∀ k, K2 k → K k) : RX w0 w p r K2 a1 c1 v1 a2 c2 v2 :=
  ⟨h.ob, h.want, h.log, h.aprt, fun k h2 h3 => h.away k h2 (hk k h3), h.base, fun k h2 => h.lt k (hk k h2), h.bel, h.ok⟩
theorem RX.grow (h : RX w0 w p r K a1 c1 v1 a2 c2 v2) (hb : Below w.heap.size w w') : RX w0 w' p r (fun k => K k ∨ (w.heap.size ≤ k ∧ k < w'.heap.size)) a1 c1 v1 a2 c2 v2 := by
  have h1 := (h.new hb).1
  refine ⟨h1.ob, h1.want, h1.log, h1.aprt, fun k hk hK => ?_, h1.base, fun k hk => ?_, h1.bel, h1.ok⟩
  · rcases hK with hK | hK
    · exact h.away k hk hK
    · have := (h.blk k hk).2; omega
  · rcases hk with hk | hk
    · exact h1.lt k hk
    · exact hk.2
/-- A cell of the round is written: want and log stay where they are. -/
theorem RX.put (h : RX w0 w p r K a1 c1 v1 a2 c2 v2) {r2 : Rd} (ht : Tch (· = p) w w') (hob : ROb w' p r2 (.slice a1 r2.want.length c1) (.slice a2 r2.log.length c2)) (hw : r2.want = r.want) (hl : r2.log = r.log) (hs : r2.stage = 1 → r.stage = 1) (hok : OkR r2) : RX w0 w' p r2 K a1 c1 v1 a2 c2 v2 ∧ Kpz K w w' := by
  refine ⟨⟨hob, ?_, ?_, fun e => by rw [hw, hl]; exact h.aprt (hs e), h.away, h.base, fun k hk => Nat.lt_of_lt_of_le (h.lt k hk) ht.size, h.bel.trans (ht.below (fun k hk => by rw [hk]; exact h.base) h.bel.size), hok⟩, fun k hk => ht.block k (h.lt k hk) (fun e => h.away k (.inl e) hk), ht.size⟩
  · rw [hw]; exact h.want.keep ht (fun k hk => h.want.notBox h.ob k hk)
  · rw [hl]; exact h.log.keep ht (fun k hk => h.log.notBox h.ob k hk)
/-- The log is another one now. -/
theorem RX.setLog (h : RX w0 w p r K a1 c1 v1 a2 c2 v2) {T : Nat → Prop} {r2 : Rd} {a8 : Option Addr} {c8 : Nat} {v8 : List Value} (ht : Tch T w w') (hT : ∀ k, T k → k = p ∨ (r.stage = 1 ∧ (Value.slice a2 r.log.length c2).ownBlock = some k) ∨ w.heap.size ≤ k)
    (hob : ROb w' p r2 (.slice a1 r2.want.length c1) (.slice a8 r2.log.length c8)) (hw : r2.want = r.want) (ho : OwC w' w0.heap.size r2.log a8 c8 v8) (hb : ∀ k, BkC a8 v8 k → RBk p a1 v1 a2 v2 k ∨ w.heap.size ≤ k)
    (ha : r2.stage = 1 → Aprt (.slice a1 r.want.length c1) (.slice a8 r2.log.length c8)) (hok : OkR r2) : RX w0 w' p r2 K a1 c1 v1 a8 c8 v8 ∧ Kpz K w w' := by
  have hB : ∀ k, T k → w0.heap.size ≤ k := fun k hk => by
    rcases hT k hk with rfl | ⟨_, h2⟩ | h2
    · exact h.base
    · exact (h.log.own.lt k h2).1
    · exact Nat.le_trans h.bel.size h2
  refine ⟨⟨hob, ?_, ho, fun e => by rw [hw]; exact ha e, fun k hk hK => ?_, h.base, fun k hk => Nat.lt_of_lt_of_le (h.lt k hk) ht.size, h.bel.trans (ht.below hB h.bel.size), hok⟩, fun k hk => ht.block k (h.lt k hk) (fun e => ?_), ht.size⟩
  · rw [hw]
    refine h.want.keep ht (fun k hk hT2 => ?_)
    rcases hT k hT2 with e | ⟨hs, h2⟩ | h2
    · exact h.want.notBox h.ob k hk e
    · rcases hk with ⟨ad, ha2, rfl⟩ | ⟨v, hv, ad, n, c3, e, rfl⟩
      · exact h.aprt hs ad.block (by rw [ha2]; rfl) h2
      · obtain ⟨j, hj, hvj⟩ := List.getElem_of_mem hv
        have hj2 : j < r.want.length := by rw [← h.want.vlen]; exact hj
        obtain ⟨a3, c4, e2, ho2⟩ := h.want.ends j hj2
        have e3 : v1.getD j undef = v := by rw [List.getD_eq_getElem?_getD, List.getElem?_eq_getElem hj]; exact hvj
        rw [e3, e] at e2
        rw [← e2] at ho2
        exact own_kinds h.log.own ho2 (by decide) ad.block h2 rfl
    · have := (h.want.blks k hk).2; omega
  · rcases hk with hk | hk | hk
    · exact h.away k (.inl hk) hK
    · exact h.away k (.inr (.inl hk)) hK
    · rcases hb k hk with h2 | h2
      · exact h.away k h2 hK
      · have := h.lt k hK; omega
  · rcases hT k e with e2 | ⟨_, h2⟩ | h2
    · exact h.away k (.inl e2) hk
    · exact h.away k (.inr (.inr (bkC_own h2))) hk
    · have := h.lt k hk; omega
end
/-- What keeps all that lies outside of K. -/
theorem RX.other {w0 w w' : World} {p : Nat} {r : Rd} {K K2 : Nat → Prop} {a1 : Option Addr} {c1 : Nat} {v1 : List Value} {a2 : Option Addr} {c2 : Nat} {v2 : List Value} (h : RX w0 w p r K a1 c1 v1 a2 c2 v2) (hb : Below w0.heap.size w0 w') (hk : Kpz K2 w w') (h2 : ∀ k, ¬ K k → k < w.heap.size → K2 k) : RX w0 w' p r K a1 c1 v1 a2 c2 v2 := by
  have hT : Tch (fun k => ¬ K2 k) w w' := ⟨hb.os.trans h.bel.os.symm, hb.tape.trans h.bel.tape.symm, hb.output.trans h.bel.output.symm, hk.2, fun k hk1 hk2 => hk.1 k (Classical.not_not.1 hk2)⟩
  have hin : ∀ k, RBk p a1 v1 a2 v2 k → ¬ ¬ K2 k := fun k hk3 hn => hn (h2 k (h.away k hk3) (h.blk k hk3).2)
  exact ⟨hT.at h.ob (hin p (.inl rfl)), h.want.keep hT (fun k hk => hin k (.inr (.inl hk))), h.log.keep hT (fun k hk => hin k (.inr (.inr hk))), h.aprt, h.away, h.base, fun k hk3 => Nat.lt_of_lt_of_le (h.lt k hk3) hk.2, hb, h.ok⟩
/-- An elder world to begin at. -/
theorem RX.rebase {w00 w0 w : World} {p : Nat} {r : Rd} {K : Nat → Prop} {a1 : Option Addr} {c1 : Nat} {v1 : List Value} {a2 : Option Addr} {c2 : Nat} {v2 : List Value} (h : RX w0 w p r K a1 c1 v1 a2 c2 v2) (hb : Below w00.heap.size w00 w0) : RX w00 w p r K a1 c1 v1 a2 c2 v2 :=
  ⟨h.ob, h.want.base hb.size, h.log.base hb.size, h.aprt, h.away, Nat.le_trans hb.size h.base, h.lt, hb.trans (h.bel.mono hb.size), h.ok⟩
theorem ROn.other {w0 w w' : World} {p : Nat} {r : Rd} {K K2 : Nat → Prop} (h : ROn w0 w p r K) (hb : Below w0.heap.size w0 w') (hk : Kpz K2 w w') (h2 : ∀ k, ¬ K k → k < w.heap.size → K2 k) : ROn w0 w' p r K := by
  obtain ⟨a1, c1, v1, a2, c2, v2, h⟩ := h
  exact ⟨a1, c1, v1, a2, c2, v2, h.other hb hk h2⟩
theorem ROn.rebase {w00 w0 w : World} {p : Nat} {r : Rd} {K : Nat → Prop} (h : ROn w0 w p r K) (hb : Below w00.heap.size w00 w0) : ROn w00 w p r K := by
  obtain ⟨a1, c1, v1, a2, c2, v2, h⟩ := h
  exact ⟨a1, c1, v1, a2, c2, v2, h.rebase hb⟩
theorem ROn.new {w0 w w' : World} {p : Nat} {r : Rd} {K : Nat → Prop} (h : ROn w0 w p r K) (hb : Below w.heap.size w w') : ROn w0 w' p r K ∧ Kpz K w w' := by
  obtain ⟨a1, c1, v1, a2, c2, v2, h⟩ := h
  exact ⟨⟨a1, c1, v1, a2, c2, v2, (h.new hb).1⟩, (h.new hb).2⟩
theorem ROn.grow {w0 w w' : World} {p : Nat} {r : Rd} {K : Nat → Prop} (h : ROn w0 w p r K) (hb : Below w.heap.size w w') : ROn w0 w' p r (fun k => K k ∨ (w.heap.size ≤ k ∧ k < w'.heap.size)) := by
  obtain ⟨a1, c1, v1, a2, c2, v2, h⟩ := h
  exact ⟨a1, c1, v1, a2, c2, v2, h.grow hb⟩
theorem ROn.less {w0 w : World} {p : Nat} {r : Rd} {K K2 : Nat → Prop} (h : ROn w0 w p r K) (hk : ∀ k, K2 k → K k) : ROn w0 w p r K2 := by
  obtain ⟨a1, c1, v1, a2, c2, v2, h⟩ := h
  exact ⟨a1, c1, v1, a2, c2, v2, h.less hk⟩
theorem ROn.bel {w0 w : World} {p : Nat} {r : Rd} {K : Nat → Prop} (h : ROn w0 w p r K) : Below w0.heap.size w0 w := by
  obtain ⟨a1, c1, v1, a2, c2, v2, h⟩ := h
  exact h.bel
theorem ROn.ok {w0 w : World} {p : Nat} {r : Rd} {K : Nat → Prop} (h : ROn w0 w p r K) : OkR r := by
  obtain ⟨a1, c1, v1, a2, c2, v2, h⟩ := h
  exact h.ok
end Go.Proofs.Ytbkpkakjfhkfaaa
