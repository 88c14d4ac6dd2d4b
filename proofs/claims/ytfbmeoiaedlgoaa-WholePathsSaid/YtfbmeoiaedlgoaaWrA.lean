/- A writer in memory: append where the two slices' types differ; numbers in bytes; the contracts of packet's put and set. Conditions: as stated. -/
import Derived.Test.YtfbmeoiaedlgoaaPkB
import Derived.Deep.AppendLies
import Derived.Deep.RegionLaw
namespace Go.Proofs.Ytfbmeoiaedlgoaa
open Go Go.RowKit
set_option linter.unusedVariables false
set_option linter.unusedSimpArgs false

theorem run_under {P : Program} {t : TypeId} {d : TypeDesc} (ht : P.underlying t = some d) (w : World) : (underlying t).run P w = .ok d w := by
  simp [underlying, go_sem, ht]
theorem run_append_types {P : Program} {w : World} (t t2 ty e e2 : TypeId) (ht : P.underlying t = some (.slice e)) (ht2 : P.underlying t2 = some (.slice e2)) (b : Option Addr) (n c : Nat) (x : Value) :
    (Builtin.append_ #[t, t2] ty #[.slice b n c, x]).run P w = (Builtin.append_ #[t, t] ty #[.slice b n c, x]).run P w := by
  unfold Builtin.append_
  simp only [List.getElem?_toArray, List.getElem?_cons_zero, List.getElem?_cons_succ, Sem.run_bind, run_under ht, Result.andThen_ok]
  congr 1
  funext size w'
  simp only [Sem.run_bind, run_under ht, run_under ht2, Result.andThen_ok]
/-- 'append(v, x...)' onto a row of the call's own, x of whatever slice type, nil, empty or not; and where the new row lies. -/
theorem append_any2 {P : Program} {w : World} {ops : Array Oper} {rest : List Oper} {o : Oper} {a : Act} {Q : Exit → Act → World → Prop} (hgd : o.guard = Option.none) (s x : Operand) (t t2 : TypeId)
    (ho : o.op = .call { callee := .builtin .append, args := #[s, x], argTypes := #[t, t2] })
    (base : Nat) (e e2 : TypeId) (i : TypeInfo) (z : Value) (size bytes : Nat) (ht : P.underlying t = some (.slice e)) (ht2 : P.underlying t2 = some (.slice e2)) (hi : P.info? e = some i) (hz : i.zero = some z)
    (hsize : i.size = size) (hby : i.bytes = bytes) (hzs : z.cells.size = size) (hsz : 0 < size)
    (ab : Option Addr) (n cb : Nat) (xs : List Value) (hs : a.eval s = .slice ab n cb) (hown : w.ownsRow base e size (.slice ab n cb) n xs)
    (ao : Option Addr) (m c : Nat) (news : List Value) (hx : a.eval x = .slice ao m c) (hnone : ao = none → m = 0 ∧ c = 0) (hl : news.length = m * size)
    (hnews : ∀ ad, ao = some ad → ∀ j u, news[j]? = some u → w.cell? (ad.add j) = some u) (h1 : ∀ u ∈ news, u.oneCell' = true)
    (h63 : n + m ≤ maxLen) (hbytes : (n + m) * bytes ≤ 140737488355328) (hbase : base ≤ w.heap.size)
    (h : ∀ v' w', w'.ownsRow base e size v' (n + m) (xs ++ news) → w.grownBy w' (Value.slice ab n cb).ownBlock → (v'.ownBlock = (Value.slice ab n cb).ownBlock ∨ v'.ownBlock = some w.heap.size) → wpList P ops Q rest (a.put o.dst v') w') : wpList P ops Q (o :: rest) a w := by
  refine wpList_plain hgd fun K hK => ?_
  cases ao with
  | some ad =>
    obtain ⟨v', w', hr, h2, h3, _, h5⟩ := run_append_own_at (P := P) w base t o.type e i z size bytes ht hi hz hsize hby hzs hsz (.slice ab n cb) n xs hown ad m c news hl (hnews ad rfl) h1 h63 hbytes hbase
    rw [← run_append_types t t2 o.type e e2 ht ht2] at hr
    unfold Oper.wp execOp
    simp only [ho, resolve, invoke, builtin, Sem.run_bind, Sem.run_pure, Result.andThen_ok, List.map_toArray, List.map_cons, List.map_nil, hs, hx, hr]
    exact hK _ _ (h v' w' h2 h3 h5)
  | none =>
    obtain ⟨rfl, rfl⟩ := hnone rfl
    have hnews : news = [] := List.eq_nil_of_length_eq_zero (by simpa using hl)
    subst hnews
    have hr := run_append_owned_none (P := P) (w := w) base t o.type e i size ht hi (.slice ab n cb) n xs hown
    rw [← run_append_types t t2 o.type e e2 ht ht2] at hr
    unfold Oper.wp execOp
    simp only [ho, resolve, invoke, builtin, Sem.run_bind, Sem.run_pure, Result.andThen_ok, List.map_toArray, List.map_cons, List.map_nil, hs, hx, hr]
    exact hK _ _ (h (.slice ab n cb) w (by simpa using hown) (World.grownBy.refl w _) (.inl rfl))

/-- A number in so many bytes. -/
def be (size : Nat) (n : Int) : List Int := (List.range size).map fun j => n / (256 : Int) ^ (size - 1 - j) % 256
theorem be_len (size : Nat) (n : Int) : (be size n).length = size := by simp [be]
theorem be_fit (size : Nat) (n : Int) : fit (be size n) := by
  intro b hb
  obtain ⟨j, _, rfl⟩ := List.mem_map.1 hb
  omega
theorem be_at {size j : Nat} (n : Int) (hj : j < size) : (be size n).getD j 0 = n / (256 : Int) ^ (size - 1 - j) % 256 := by
  rw [List.getD_eq_getElem?_getD, List.getElem?_eq_getElem (by rw [be_len]; exact hj)]
  simp [be]
theorem be1 (n : Int) : be 1 n = [n % 256] := by simp [be]
theorem be2 (n : Int) : be 2 n = b2 n := by simp [be, b2, List.range_succ]
theorem be4 (n : Int) : be 4 n = b4 n := by
  simp [be, b4, List.range_succ]

/-- A writer: its cell, block b, holds a row that lies behind b. -/
def Wr (b : Nat) (w : World) (l : List Int) : Prop :=
  ∃ ao c, w.heap[b]? = some (.cells #[.slice ao l.length c] 90 (0, 0)) ∧ w.ownsRow (b + 1) 5 1 (.slice ao l.length c) l.length (u8s l)
theorem Wr.lt {b : Nat} {w : World} {l : List Int} (h : Wr b w l) : b < w.heap.size := by
  obtain ⟨_, _, h, _⟩ := h
  exact lt_of_block h
theorem Wr.start (w : World) : Wr w.heap.size (w.alloc (.cells #[.slice none 0 0] 90)) [] := ⟨none, 0, heap_alloc_new w _, World.ownsRow_nil _ _ _ _⟩
theorem Wr.grown {b : Nat} {w w' : World} {l : List Int} {ao : Option Addr} {c : Nat} (h : w.heap[b]? = some (.cells #[.slice ao l.length c] 90 (0, 0))) (ho : w.ownsRow (b + 1) 5 1 (.slice ao l.length c) l.length (u8s l)) (hg : w.grownBy w' none) : Wr b w' l :=
  ⟨ao, c, (hg.block b (lt_of_block h) (by simp)).trans h, ho.kept hg (by cases hv : (Value.slice ao l.length c).ownBlock <;> simp)⟩
theorem Wr.below {b : Nat} {w w' : World} {l : List Int} (h : Wr b w l) (hb : Below w.heap.size w w') : Wr b w' l := by
  obtain ⟨ao, c, h1, h2⟩ := h
  exact Wr.grown h1 h2 ⟨hb.os, hb.tape, hb.output, hb.size, fun k hk _ => hb.block k hk⟩
theorem Wr.at {b : Nat} {w : World} {l : List Int} (h : Wr b w l) : ∃ ao c, w.cell? ⟨b, 0, none⟩ = some (.slice ao l.length c) ∧ At w (.slice ao l.length c) l := by
  obtain ⟨ao, c, h1, h2⟩ := h
  exact ⟨ao, c, cell_of_one h1, At.own h2⟩
end Go.Proofs.Ytfbmeoiaedlgoaa
