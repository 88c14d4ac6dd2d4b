/- Appends onto a row that is there; what QueueUrgent holds. Conditions: those stated. -/
import Derived.Test.YtdjeacmonlgdhaaQLn
import Derived.Test.YtdjeacmonlgdhaaQOr
import Derived.Maps.AppendAt
namespace Go.Proofs.Ytdjeacmonlgdhaa
open Go Go.RowKit
set_option linter.unusedVariables false
set_option linter.unusedSimpArgs false

/-- 'append(v, x...)' onto a row of the call's own that is not nil. -/
theorem append_some {P : Program} {w : World} {ops : Array Oper} {rest : List Oper} {o : Oper} {a : Act} {Q : Exit → Act → World → Prop} (hgd : o.guard = Option.none) (s x : Operand) (t : TypeId)
    (ho : o.op = .call { callee := .builtin .append, args := #[s, x], argTypes := #[t, t] })
    (base : Nat) (e : TypeId) (i : TypeInfo) (z : Value) (size bytes : Nat) (ht : P.underlying t = some (.slice e)) (hi : P.info? e = some i) (hz : i.zero = some z)
    (hsize : i.size = size) (hby : i.bytes = bytes) (hzs : z.cells.size = size) (hsz : 0 < size)
    (g n cv : Nat) (xs : List Value) (hs : a.eval s = .slice (some ⟨g, 0, none⟩) n cv) (hown : w.ownsRow base e size (.slice (some ⟨g, 0, none⟩) n cv) n xs)
    (ao : Option Addr) (m c : Nat) (news : List Value) (hx : a.eval x = .slice ao m c) (hnone : ao = none → m = 0 ∧ c = 0) (hl : news.length = m * size)
    (hnews : ∀ ad, ao = some ad → ∀ j u, news[j]? = some u → w.cell? (ad.add j) = some u) (h1 : ∀ u ∈ news, u.oneCell' = true)
    (h63 : n + m ≤ maxLen) (hbytes : (n + m) * bytes ≤ 140737488355328) (hbase : base ≤ w.heap.size)
    (h : ∀ g' c' w', w'.ownsRow base e size (.slice (some ⟨g', 0, none⟩) (n + m) c') (n + m) (xs ++ news) → Tch (· = g) w w' → (g' = g ∨ w.heap.size ≤ g') → wpList P ops Q rest (a.put o.dst (.slice (some ⟨g', 0, none⟩) (n + m) c')) w') : wpList P ops Q (o :: rest) a w := by
  cases ao with
  | some ad =>
    refine wpList_append_own_at w hgd s x t ho base e i z size bytes ht hi hz hsize hby hzs hsz _ n xs hs hown ad m c news hx hl (hnews ad rfl) h1 h63 hbytes hbase fun v' w' h2 h3 h4 h5 => ?_
    obtain ⟨g', c', rfl⟩ := own_shape' h2 (fun e => by have := (h4.1 e).1; cases this)
    refine h g' c' w' h2 ((tch_grown h3).mono (fun k hk => ob hk.symm)) ?_
    rcases h5 with h5 | h5
    · exact .inl (Option.some.inj h5)
    · exact .inr (Nat.le_of_eq (Option.some.inj h5).symm)
  | none =>
    obtain ⟨rfl, rfl⟩ := hnone rfl
    have hnews : news = [] := List.eq_nil_of_length_eq_zero (by simpa using hl)
    subst hnews
    refine wpList_append_own_none hgd s x t ho base e i size ht hi _ n xs hs hown hx ?_
    exact h g cv w (by simpa using hown) (Tch.refl _ w) (.inl rfl)
theorem own_none {w : World} {B n c size : Nat} {e : TypeId} {ao : Option Addr} {xs : List Value} (h : w.ownsRow B e size (.slice ao n c) n xs) : ao = none → n = 0 ∧ c = 0 := fun e => by
  rcases h.2 with ⟨h, h0⟩ | ⟨g, cap, cur, h, _⟩
  · exact ⟨h0, (Value.slice.inj h).2.2⟩
  · have := (Value.slice.inj h).1
    rw [e] at this
    cases this
/-- What QueueUrgent holds: J rows were taken of all that were put. -/
structure UrI (w0 w : World) (F : Nat → Prop) (l : Nat) (us : List Value) (pu : List (List Int)) (vs : List Value) (pp : List (List Int)) (J g c : Nat) : Prop where
  st : LSt w w0.heap.size F l 1000 (us.drop J) (pu.drop J) (vs.drop (J - us.length)) (pp.drop (J - us.length))
  urg : Rws w w0.heap.size us pu
  pla : Rws w w0.heap.size vs pp
  far : ∀ v ∈ us ++ vs, ∀ k, v.ownBlock = some k → ¬ F k
  got : w.ownsRow w0.heap.size 42 1 (.slice (some ⟨g, 0, none⟩) J c) J ((us ++ vs).take J)
  gf : ¬ F g
  below : Below w0.heap.size w0 w
theorem drop_two {α : Type} (l : List α) (i j : Nat) : (l.drop i).drop j = l.drop (i + j) := by rw [List.drop_drop]
theorem take_two {α : Type} (l : List α) (i j : Nat) : l.take i ++ (l.drop i).take j = l.take (i + j) := List.take_add.symm
theorem drop_both {α : Type} (l m : List α) (i : Nat) : l.drop i ++ m.drop (i - l.length) = (l ++ m).drop i := List.drop_append.symm
/-- Behind a Take and its rows laid down. -/
theorem UrI.took {w0 w w5 w8 : World} {F : Nat → Prop} {l J K g c g8 c8 : Nat} {us vs : List Value} {pu pp : List (List Int)} (h : UrI w0 w F l us pu vs pp J g c)
    (hL : LSt w5 w0.heap.size F l 1000 ((us.drop J).drop K) ((pu.drop J).drop K) ((vs.drop (J - us.length)).drop (K - (us.drop J).length)) ((pp.drop (J - us.length)).drop (K - (us.drop J).length))) (ht : Tch F w w5)
    (h8 : w8.ownsRow w0.heap.size 42 1 (.slice (some ⟨g8, 0, none⟩) (J + K) c8) (J + K) ((us ++ vs).take J ++ (us.drop J ++ vs.drop (J - us.length)).take K)) (ht8 : Tch (· = g) w5 w8) (hg : g8 = g ∨ w5.heap.size ≤ g8) : UrI w0 w8 F l us pu vs pp (J + K) g8 c8 := by
  have hg0 : w0.heap.size ≤ g ∧ g < w.heap.size := h.got.lt g rfl
  have hlk : J - us.length + (K - (us.drop J).length) = J + K - us.length := by rw [List.length_drop]; omega
  rw [drop_two, drop_two, drop_two, drop_two, hlk] at hL
  rw [drop_both, take_two] at h8
  have r5 := (h.urg.app h.pla).keep ht h.far
  have u5 := h.urg.keep ht (fun v hv => h.far v (List.mem_append_left _ hv))
  have p5 := h.pla.keep ht (fun v hv => h.far v (List.mem_append_right _ hv))
  have hk1 : ∀ v ∈ us ++ vs, ∀ k, v.ownBlock = some k → k ≠ g := fun v hv k hk e => by
    subst e
    obtain ⟨j, hj, ej⟩ := List.getElem_of_mem hv
    have hl := r5.len
    have hrow := (r5.at (j := j) (by omega)).1
    rw [List.getD_eq_getElem?_getD, List.getElem?_eq_getElem hj, Option.getD_some, ej] at hrow
    exact own_kinds (ht.own h.got (fun k hk => by rw [ob hk]; exact h.gf)) hrow k rfl hk
  have hL8 := hL.keep ht8 (fun k hk e => by
    subst e
    rcases hk with hk | ⟨v, hv, hk⟩
    · exact h.gf hk
    · exact hk1 v ((List.mem_append.1 hv).elim (fun h => List.mem_append_left _ (List.mem_of_mem_drop h)) (fun h => List.mem_append_right _ (List.mem_of_mem_drop h))) k hk rfl)
  have b5 := h.below.trans (ht.below (fun k hk => (h.st.base k hk).1) h.below.size)
  refine ⟨hL8, u5.keep ht8 (fun v hv k hk e => hk1 v (List.mem_append_left _ hv) k hk e), p5.keep ht8 (fun v hv k hk e => hk1 v (List.mem_append_right _ hv) k hk e), h.far, h8, ?_, b5.trans (ht8.below (fun k hk => by rw [hk]; exact hg0.1) b5.size)⟩
  rcases hg with rfl | hg
  · exact h.gf
  · intro e
    have := (h.st.base g8 e).2
    have := ht.size
    omega
end Go.Proofs.Ytdjeacmonlgdhaa
