/- Rows of bytes in memory: new ones, rows of rows, rows of the call's own, rows that came in. No program but for the number of type uint8. -/
import Derived.Test.YtlmkmbpikhagiaaRowB
import Derived.Lib.SlBytesConst
import Derived.Laws.IdiomStrings
import Derived.OwnWalk
import Derived.Laws.OwnMore
import Derived.OneCell
import Derived.Laws.AppendOwnNone
namespace Go.Proofs.Ytlmkmbpikhagiaa
open Go Go.RowKit
set_option linter.unusedVariables false
set_option linter.unusedSimpArgs false

theorem bl_al {w w' : World} (h : Below w.heap.size w w') (o : Obj) : Below w.heap.size w (w'.alloc o) := h.alloc h.size o
theorem bl_tr {a b c : World} (h1 : Below a.heap.size a b) (h2 : Below b.heap.size b c) : Below a.heap.size a c := h1.trans (h2.mono h1.size)
theorem At.below {w w' : World} {v : Value} {l : List Int} (h : At w v l) (hb : Below w.heap.size w w') : At w' v l := by
  obtain ⟨a, cap, e, h0 | ⟨b, off, ha, hc⟩⟩ := h
  · exact ⟨a, cap, e, .inl h0⟩
  · refine ⟨a, cap, e, .inr ⟨b, off, ha, fun j hj => ?_⟩⟩
    have := hc j hj
    exact (hb.cell (p := ⟨b, off + j, none⟩) (block_lt_of_cell this)).trans this
theorem Parts.below {w w' : World} {v : Value} {ps : List (List Int)} (h : Parts w v ps) (hb : Below w.heap.size w w') : Parts w' v ps := by
  obtain ⟨a, cap, e, h0 | ⟨b, off, ha, hc⟩⟩ := h
  · exact ⟨a, cap, e, .inl h0⟩
  · refine ⟨a, cap, e, .inr ⟨b, off, ha, fun j p hj => ?_⟩⟩
    obtain ⟨u, hu, hA⟩ := hc j p hj
    exact ⟨u, (hb.cell (p := ⟨b, off + j, none⟩) (block_lt_of_cell hu)).trans hu, hA.below hb⟩
theorem cells_new (w : World) (us : List Value) (t : TypeId) (m : Nat × Nat) (j : Nat) (u : Value) (h : us[j]? = some u) : (w.alloc (.cells us.toArray t m)).cell? ⟨w.heap.size, 0 + j, none⟩ = some u := by
  rw [World.cell?_alloc_mark, Nat.zero_add, List.getElem?_toArray, h]
theorem At.new (w : World) (l : List Int) (C : Array Value) (hC : C = (l.map (Value.int .u8)).toArray) (t : TypeId) (m : Nat × Nat) (c : Nat) (n : Nat) (hn : n = w.heap.size) (k : Nat) (hk : k = l.length) : At (w.alloc (.cells C t m)) (.slice (some ⟨n, 0, none⟩) k c) l := by
  subst hC hn hk
  refine ⟨_, c, rfl, .inr ⟨w.heap.size, 0, rfl, fun j hj => ?_⟩⟩
  apply cells_new
  rw [List.getElem?_map, List.getElem?_eq_getElem hj, List.getD_eq_getElem?_getD, List.getElem?_eq_getElem hj]
  rfl
theorem Parts.one {w : World} {u : Value} {p : List Int} (h : At w u p) (t : TypeId) (n : Nat) (hn : n = w.heap.size) : Parts (w.alloc (.cells #[u] t)) (.slice (some ⟨n, 0, none⟩) 1 1) [p] := by
  subst hn
  refine ⟨_, 1, rfl, .inr ⟨_, 0, rfl, fun j q hj => ?_⟩⟩
  match j, hj with
  | 0, hj =>
    cases hj
    exact ⟨u, cells_new w [u] t (0, 0) 0 u rfl, h.below (bl_al (Below.refl _ _) _)⟩
theorem Parts.two {w : World} {u v : Value} {p q : List Int} (h : At w u p) (h' : At w v q) (t : TypeId) (n : Nat) (hn : n = w.heap.size) : Parts (w.alloc (.cells #[u, v] t)) (.slice (some ⟨n, 0, none⟩) 2 2) [p, q] := by
  subst hn
  refine ⟨_, 2, rfl, .inr ⟨_, 0, rfl, fun j x hj => ?_⟩⟩
  match j, hj with
  | 0, hj =>
    cases hj
    exact ⟨u, cells_new w [u, v] t (0, 0) 0 u rfl, h.below (bl_al (Below.refl _ _) _)⟩
  | 1, hj =>
    cases hj
    exact ⟨v, cells_new w [u, v] t (0, 0) 1 v rfl, h'.below (bl_al (Below.refl _ _) _)⟩
theorem Parts.three {w : World} {u v x : Value} {p q r : List Int} (h : At w u p) (h' : At w v q) (h2 : At w x r) (t : TypeId) (n : Nat) (hn : n = w.heap.size) : Parts (w.alloc (.cells #[u, v, x] t)) (.slice (some ⟨n, 0, none⟩) 3 3) [p, q, r] := by
  subst hn
  refine ⟨_, 3, rfl, .inr ⟨_, 0, rfl, fun j y hj => ?_⟩⟩
  match j, hj with
  | 0, hj =>
    cases hj
    exact ⟨u, cells_new w [u, v, x] t (0, 0) 0 u rfl, h.below (bl_al (Below.refl _ _) _)⟩
  | 1, hj =>
    cases hj
    exact ⟨v, cells_new w [u, v, x] t (0, 0) 1 v rfl, h'.below (bl_al (Below.refl _ _) _)⟩
  | 2, hj =>
    cases hj
    exact ⟨x, cells_new w [u, v, x] t (0, 0) 2 x rfl, h2.below (bl_al (Below.refl _ _) _)⟩
theorem At.nil (w : World) (a : Option Addr) (c : Nat) : At w (.slice a 0 c) [] := ⟨a, c, rfl, .inl rfl⟩
theorem Parts.none (w : World) (a : Option Addr) (c : Nat) : Parts w (.slice a 0 c) [] := ⟨a, c, rfl, .inl rfl⟩
theorem info5 : (Try.prog.info? 5).map (fun i => (i.zero, i.size, i.bytes)) = some (some (.int .u8 0), 1, 1) := by kernel_rfl
def u8s (l : List Int) : List Value := l.map (Value.int .u8)
theorem u8s_one (l : List Int) : ∀ u ∈ u8s l, u.oneCell' = true := by
  intro u hu
  obtain ⟨x, _, rfl⟩ := List.mem_map.1 hu
  rfl
theorem u8s_cells {w : World} {b off : Nat} {l : List Int} (h : ∀ j, j < l.length → w.cell? ⟨b, off + j, none⟩ = some (.int .u8 (l.getD j 0))) : ∀ j u, (u8s l)[j]? = some u → w.cell? ((⟨b, off, none⟩ : Addr).add j) = some u := by
  intro j u hu
  rw [Go.WideShapes.add_plain]
  unfold u8s at hu
  rw [List.getElem?_map] at hu
  by_cases hj : j < l.length
  · rw [List.getElem?_eq_getElem hj] at hu
    rw [h j hj, List.getD_eq_getElem?_getD, List.getElem?_eq_getElem hj]
    exact hu
  · rw [List.getElem?_eq_none (by omega)] at hu
    cases hu
theorem At.own {w : World} {B : Nat} {v : Value} {l : List Int} (h : w.ownsRow B 5 1 v l.length (u8s l)) : At w v l := by
  rcases h.2 with ⟨rfl, h0⟩ | ⟨g, cap, cur, rfl, hb, hg, h1, h2, h3, h4⟩
  · have : l = [] := List.eq_nil_of_length_eq_zero h0
    subst this
    exact At.nil w none 0
  · refine ⟨_, cap, rfl, .inr ⟨g, 0, rfl, fun j hj => ?_⟩⟩
    have := h.cellAt (g := g) (cap := cap) (0 + j) (by omega)
    rw [this, Nat.zero_add]
    unfold u8s
    rw [List.getElem?_map, List.getElem?_eq_getElem hj, List.getD_eq_getElem?_getD, List.getElem?_eq_getElem hj]
    rfl

theorem own_shape {w : World} {B : Nat} {e : TypeId} {size n : Nat} {v : Value} {xs : List Value} (h : w.ownsRow B e size v n xs) (hn : 0 < n) : ∃ g cap, v = .slice (some ⟨g, 0, none⟩) n cap ∧ B ≤ g := by
  rcases h.2 with ⟨_, h0⟩ | ⟨g, cap, cur, hv, hb, _⟩
  · omega
  · exact ⟨g, cap, hv, hb⟩
theorem u8s_at {l : List Int} {j : Nat} (hj : j < l.length) : (u8s l)[j]? = some (.int .u8 (l.getD j 0)) := by
  unfold u8s
  rw [List.getElem?_map, List.getElem?_eq_getElem hj, List.getD_eq_getElem?_getD, List.getElem?_eq_getElem hj]
  rfl
theorem u8s_set (l : List Int) (j : Nat) (x : Int) : (u8s l).set j (.int .u8 x) = u8s (l.set j x) := by
  unfold u8s
  rw [List.map_set]

theorem fit_set {l : List Int} (hf : fit l) (J : Nat) {y : Int} (hy : 0 ≤ y ∧ y < 256) : fit (l.set J y) := by
  intro b hb
  rcases List.mem_or_eq_of_mem_set hb with h | h
  · exact hf b h
  · rw [h]; exact hy
theorem At.orig {w w' : World} {b off cap n : Nat} {l : List Int} (hn : l.length = n) (hc : ∀ j, j < l.length → w.cell? ⟨b, off + j, none⟩ = some (.int .u8 (l.getD j 0))) (hb : Below w.heap.size w w') : At w' (.slice (some ⟨b, off, none⟩) n cap) l :=
  At.below ⟨_, cap, by rw [hn], .inr ⟨b, off, rfl, hc⟩⟩ hb

/-- 'append(v, x...)' onto a row of the call's own, x nil, empty or not. -/
theorem append_any {P : Program} {w : World} {ops : Array Oper} {rest : List Oper} {o : Oper} {a : Act} {Q : Exit → Act → World → Prop} (hgd : o.guard = Option.none) (s x : Operand) (t : TypeId)
    (ho : o.op = .call { callee := .builtin .append, args := #[s, x], argTypes := #[t, t] })
    (base : Nat) (e : TypeId) (i : TypeInfo) (z : Value) (size bytes : Nat) (ht : P.underlying t = some (.slice e)) (hi : P.info? e = some i) (hz : i.zero = some z)
    (hsize : i.size = size) (hby : i.bytes = bytes) (hzs : z.cells.size = size) (hsz : 0 < size)
    (v : Value) (n : Nat) (xs : List Value) (hs : a.eval s = v) (hown : w.ownsRow base e size v n xs)
    (ao : Option Addr) (m c : Nat) (news : List Value) (hx : a.eval x = .slice ao m c) (hnone : ao = none → m = 0 ∧ c = 0) (hl : news.length = m * size)
    (hnews : ∀ ad, ao = some ad → ∀ j u, news[j]? = some u → w.cell? (ad.add j) = some u) (h1 : ∀ u ∈ news, u.oneCell' = true)
    (h63 : n + m ≤ maxLen) (hbytes : (n + m) * bytes ≤ 140737488355328) (hbase : base ≤ w.heap.size)
    (h : ∀ v' w', w'.ownsRow base e size v' (n + m) (xs ++ news) → w.grownBy w' v.ownBlock → wpList P ops Q rest (a.put o.dst v') w') : wpList P ops Q (o :: rest) a w := by
  cases ao with
  | some ad => exact wpList_append_own w hgd s x t ho base e i z size bytes ht hi hz hsize hby hzs hsz v n xs hs hown ad m c news hx hl (hnews ad rfl) h1 h63 hbytes hbase fun v' w' h2 h3 _ => h v' w' h2 h3
  | none =>
    obtain ⟨rfl, rfl⟩ := hnone rfl
    have hnews : news = [] := List.eq_nil_of_length_eq_zero (by simpa using hl)
    subst hnews
    refine wpList_append_own_none hgd s x t ho base e i size ht hi v n xs hs hown hx ?_
    exact h v w (by simpa using hown) (World.grownBy.refl w _)

/-- A row of bytes that came in. -/
structure In (w : World) (a : Option Addr) (n cap : Nat) (l : List Int) : Prop where
  len : l.length = n
  room : n ≤ cap
  none : a = Option.none → cap = 0
  here : At w (.slice a n cap) l
  fit : fit l
theorem In.below {w w' : World} {a : Option Addr} {n cap : Nat} {l : List Int} (h : In w a n cap l) (hb : Below w.heap.size w w') : In w' a n cap l := ⟨h.len, h.room, h.none, h.here.below hb, h.fit⟩
theorem At.take {w : World} {a : Option Addr} {n cap : Nat} {l : List Int} (h : At w (.slice a n cap) l) (hn : l.length = n) (k : Nat) (hk : k ≤ n) : At w (.slice a k cap) (l.take k) := by
  have hlk : (l.take k).length = k := by rw [List.length_take]; omega
  obtain ⟨a', cap', e, hA⟩ := h
  cases e
  refine ⟨a, cap, by rw [hlk], ?_⟩
  rcases hA with rfl | ⟨b, off, ha, hc⟩
  · exact .inl (by simp)
  · refine .inr ⟨b, off, ha, fun j hj => ?_⟩
    rw [hlk] at hj
    rw [hc j (by omega), List.getD_eq_getElem?_getD, List.getD_eq_getElem?_getD, List.getElem?_take, if_pos hj]
theorem In.take {w : World} {a : Option Addr} {n cap : Nat} {l : List Int} (h : In w a n cap l) (k : Nat) (hk : k ≤ n) : In w a k cap (l.take k) :=
  ⟨by rw [List.length_take, h.len]; omega, Nat.le_trans hk h.room, h.none, h.here.take h.len k hk, fit_take h.fit k⟩
/-- The cells that an append takes from it. -/
theorem In.cells {w : World} {a : Option Addr} {n cap : Nat} {l : List Int} (h : In w a n cap l) : ∀ ad, a = some ad → ∀ j u, (u8s l)[j]? = some u → w.cell? (ad.add j) = some u := by
  intro ad ha j u hu
  obtain ⟨a', cap', e, hA⟩ := h.here
  cases e
  rcases hA with rfl | ⟨b, off, ha', hc⟩
  · simp [u8s] at hu
  · rw [ha] at ha'
    cases ha'
    exact u8s_cells hc j u hu
theorem In.zero {w : World} {a : Option Addr} {n cap : Nat} {l : List Int} (h : In w a n cap l) : a = Option.none → n = 0 ∧ cap = 0 := fun e => by
  have h1 := h.none e
  have h2 := h.room
  exact ⟨by omega, h1⟩

theorem own_form {w : World} {B : Nat} {e : TypeId} {size n : Nat} {v : Value} {xs : List Value} (h : w.ownsRow B e size v n xs) : ∃ ao c, v = .slice ao n c := by
  rcases h.2 with ⟨hv, h0⟩ | ⟨g, cap, cur, hv, hb, _⟩
  · exact ⟨none, 0, by rw [hv, h0]⟩
  · exact ⟨_, _, hv⟩
theorem u8s_app (l m : List Int) : u8s l ++ u8s m = u8s (l ++ m) := by unfold u8s; rw [List.map_append]

def w16 (x : Int) : Prop := 0 ≤ x ∧ x < 65536
/-- Word I becomes the bytes x, y. -/
def setw (l : List Int) (I : Nat) (x y : Int) : List Int := (l.set (2 * I) x).set (2 * I + 1) y
def wordAt (l : List Int) (I : Nat) : Int := 256 * l.getD (2 * I) 0 + l.getD (2 * I + 1) 0
theorem setw_len (l : List Int) (I : Nat) (x y : Int) : (setw l I x y).length = l.length := by unfold setw; simp
theorem ws_setw : ∀ (l : List Int) (I : Nat) (x y : Int), 2 * I + 1 < l.length → ws (setw l I x y) + wordAt l I = ws l + (256 * x + y)
  | [], _, _, _, h => by simp at h
  | [_], _, _, _, h => by simp at h
  | a :: b :: r, 0, x, y, _ => by simp [setw, wordAt, ws]; omega
  | a :: b :: r, I + 1, x, y, h => by
    have ih := ws_setw r I x y (by simp at h; omega)
    have e1 : setw (a :: b :: r) (I + 1) x y = a :: b :: setw r I x y := by
      unfold setw
      rw [show 2 * (I + 1) + 1 = (2 * I + 1) + 1 + 1 by omega, show 2 * (I + 1) = 2 * I + 1 + 1 by omega]
      rfl
    have e2 : wordAt (a :: b :: r) (I + 1) = wordAt r I := by
      unfold wordAt
      rw [show 2 * (I + 1) + 1 = (2 * I + 1) + 1 + 1 by omega, show 2 * (I + 1) = 2 * I + 1 + 1 by omega]
      rfl
    rw [e1, e2]
    simp only [ws]
    omega
theorem fit_setw {l : List Int} (hf : fit l) (I : Nat) {x y : Int} (hx : 0 ≤ x ∧ x < 256) (hy : 0 ≤ y ∧ y < 256) : fit (setw l I x y) := fit_set (fit_set hf _ hx) _ hy
theorem wordAt_set {l : List Int} {I : Nat} (x y : Int) (h : 2 * I + 1 < l.length) : wordAt (setw l I x y) I = 256 * x + y := by
  unfold wordAt setw
  simp only [List.getD_eq_getElem?_getD]
  rw [List.getElem?_set_ne (by omega), List.getElem?_set_self (by omega), List.getElem?_set_self (by simp; omega)]
  rfl
theorem wordAt_other {l : List Int} {I J : Nat} (x y : Int) (h : I ≠ J) : wordAt (setw l I x y) J = wordAt l J := by
  unfold wordAt setw
  simp only [List.getD_eq_getElem?_getD]
  rw [List.getElem?_set_ne (by omega), List.getElem?_set_ne (by omega), List.getElem?_set_ne (by omega), List.getElem?_set_ne (by omega)]
theorem wordAt_fit {l : List Int} (hf : fit l) {I : Nat} (h : 2 * I + 1 < l.length) : w16 (wordAt l I) := by
  have h1 := fit_at hf (j := 2 * I) (by omega)
  have h2 := fit_at hf h
  unfold wordAt w16
  omega
/-- A row of words in memory that the call made. -/
def Own (w : World) (B g cap N : Nat) (l : List Int) : Prop := w.ownsRow B 5 1 (.slice (some ⟨g, 0, none⟩) N cap) N (u8s l) ∧ l.length = N ∧ B ≤ g
theorem Own.word {w : World} {B g cap N : Nat} {l : List Int} (h : Own w B g cap N l) {I : Nat} (hI : 2 * I + 1 < N) :
    w.cell? ⟨g, 2 * I, none⟩ = some (.int .u8 (l.getD (2 * I) 0)) ∧ w.cell? ⟨g, 2 * I + 1, none⟩ = some (.int .u8 (l.getD (2 * I + 1) 0)) ∧ w.frozen? ⟨g, 2 * I, none⟩ = false ∧ w.frozen? ⟨g, 2 * I + 1, none⟩ = false :=
  ⟨(h.1.cellAt _ (by omega)).trans (u8s_at (by rw [h.2.1]; omega)), (h.1.cellAt _ (by omega)).trans (u8s_at (by rw [h.2.1]; omega)), h.1.frozenAt _, h.1.frozenAt _⟩
theorem Own.put {w : World} {B g cap N : Nat} {l : List Int} (h : Own w B g cap N l) (I : Nat) (x y : Int) : Own ((w.setCell ⟨g, 2 * I, none⟩ (.int .u8 x)).setCell ⟨g, 2 * I + 1, none⟩ (.int .u8 y)) B g cap N (setw l I x y) := by
  have h1 := (h.1.stored (2 * I) (.int .u8 x)).1
  have h2 := (h1.stored (2 * I + 1) (.int .u8 y)).1
  rw [u8s_set, u8s_set] at h2
  exact ⟨h2, by rw [setw_len]; exact h.2.1, h.2.2⟩
theorem Own.at {w : World} {B g cap N : Nat} {l : List Int} (h : Own w B g cap N l) : At w (.slice (some ⟨g, 0, none⟩) N cap) l := by
  have := h.1
  rw [← h.2.1] at this
  rw [← h.2.1]
  exact At.own this
theorem Own.alloc {w : World} {B g cap N : Nat} {l : List Int} (h : Own w B g cap N l) (o : Obj) : Own (w.alloc o) B g cap N l := ⟨h.1.alloc o, h.2⟩
theorem Own.drewN {w : World} {B g cap N : Nat} {l : List Int} (h : Own w B g cap N l) (n : Nat) : Own (w.drewN n) B g cap N l := ⟨h.1, h.2⟩
theorem Own.below {w w' : World} {B g cap N : Nat} {l : List Int} (h : Own w B g cap N l) (hb : Below w.heap.size w w') : Own w' B g cap N l := by
  refine ⟨⟨h.1.1, ?_⟩, h.2⟩
  rcases h.1.2 with hn | ⟨g', cap', cur, hv, h1, h2, h3⟩
  · exact .inl hn
  · exact .inr ⟨g', cap', cur, hv, h1, (hb.block g' (lt_of_block h2)).trans h2, h3⟩
theorem bl_put {B : Nat} {w w' : World} (h : Below B w w') {g : Nat} (hg : B ≤ g) (i j : Nat) (x y : Value) : Below B w ((w'.setCell ⟨g, i, none⟩ x).setCell ⟨g, j, none⟩ y) :=
  (h.setCell (p := ⟨g, i, none⟩) hg x).setCell (p := ⟨g, j, none⟩) hg y

theorem flat1 (l : List Int) : [l].flatten = l := by simp
end Go.Proofs.Ytlmkmbpikhagiaa
