/- Speakers in memory, and rows of messages. Conditions: those stated. -/
import Derived.Test.YtlmkmbpikhagiaaSpA
import Derived.Test.YtlmkmbpikhagiaaQStB
namespace Go.Proofs.Ytlmkmbpikhagiaa
open Go Go.RowKit Go.Lib
set_option linter.unusedVariables false
set_option linter.unusedSimpArgs false

abbrev tyM : TypeId := 40
/-- A message's cells: its kind, where its numbers lie. -/
structure MC where
  kind : Int
  a : Option Addr
  n : Nat
  c : Nat
def MC.v (u : MC) : Value := .slice u.a u.n u.c
def MC.cs (u : MC) : List Value := [.int .i64 u.kind, u.v, .slice none 0 0]
def cellsM (us : List MC) : List Value := us.flatMap MC.cs
theorem cellsM_len (us : List MC) : (cellsM us).length = us.length * 3 := by
  unfold cellsM
  induction us with
  | nil => rfl
  | cons u us ih => rw [List.flatMap_cons, List.length_append, ih, List.length_cons]; show 3 + _ = _; omega
theorem cellsM_one (us : List MC) : ∀ x ∈ cellsM us, x.oneCell' = true := by
  intro x hx
  obtain ⟨u, _, hu⟩ := List.mem_flatMap.1 hx
  simp only [MC.cs, List.mem_cons, List.not_mem_nil, or_false] at hu
  rcases hu with rfl | rfl | rfl <;> rfl
theorem cellsM_at : ∀ {us : List MC} {j : Nat} {u : MC} {i : Nat}, us[j]? = some u → i < 3 → (cellsM us)[j * 3 + i]? = u.cs[i]?
  | [], j, u, i, h, _ => by simp at h
  | v :: us, 0, u, i, h, hi => by
    simp at h
    subst h
    unfold cellsM
    rw [List.flatMap_cons, Nat.zero_mul, Nat.zero_add, List.getElem?_append_left (by exact hi)]
  | v :: us, j + 1, u, i, h, hi => by
    have := cellsM_at (us := us) (j := j) (u := u) (i := i) (by simpa using h) hi
    unfold cellsM at this ⊢
    rw [List.flatMap_cons, List.getElem?_append_right (by show 3 ≤ _; omega), ← this]
    congr 1
    show (j + 1) * 3 + i - 3 = _
    omega
/-- Messages, whose numbers lie in the blocks G. -/
def MsAt (w : World) (G : Nat → Prop) (B : Nat) : List MC → List Mg → Prop
  | [], [] => True
  | u :: us, m :: ms => (u.kind = m.kind ∧ m.data = [] ∧ u.n = m.nums.length ∧ w.ownsRow B 3 1 u.v u.n (i64s m.nums) ∧ fitI m.nums ∧ ∀ g, u.v.ownBlock = some g → G g) ∧ MsAt w G B us ms
  | _, _ => False
theorem MsAt.len {w : World} {G : Nat → Prop} {B : Nat} : ∀ {us : List MC} {ms : List Mg}, MsAt w G B us ms → us.length = ms.length
  | [], [], _ => rfl
  | _ :: us, _ :: ms, h => by rw [List.length_cons, List.length_cons, MsAt.len h.2]
  | [], _ :: _, h => h.elim
  | _ :: _, [], h => h.elim
theorem MsAt.map {w w' : World} {G G' : Nat → Prop} {B B' : Nat} : ∀ {us : List MC} {ms : List Mg}, MsAt w G B us ms →
    (∀ u ∈ us, ∀ n xs, w.ownsRow B 3 1 u.v n xs → (∀ g, u.v.ownBlock = some g → G g) → w'.ownsRow B' 3 1 u.v n xs ∧ ∀ g, u.v.ownBlock = some g → G' g) → MsAt w' G' B' us ms
  | [], [], _, _ => trivial
  | u :: us, m :: ms, h, hm => by
    obtain ⟨⟨h1, h2, h3, h4, h5, h6⟩, ht⟩ := h
    obtain ⟨q1, q2⟩ := hm u (by simp) _ _ h4 h6
    exact ⟨⟨h1, h2, h3, q1, h5, q2⟩, MsAt.map ht (fun v hv => hm v (by simp [hv]))⟩
  | [], _ :: _, h, _ => h.elim
  | _ :: _, [], h, _ => h.elim
theorem MsAt.tch {T G : Nat → Prop} {w w' : World} {B : Nat} {us : List MC} {ms : List Mg} (h : MsAt w G B us ms) (ht : Tch T w w') (hn : ∀ k, G k → ¬ T k) : MsAt w' G B us ms :=
  h.map (fun u _ n xs ho hg => ⟨ht.own ho (fun g he hT => hn g (hg g he) hT), hg⟩)
theorem MsAt.mono {G G' : Nat → Prop} {w : World} {B : Nat} {us : List MC} {ms : List Mg} (h : MsAt w G B us ms) (hg : ∀ k, G k → G' k) : MsAt w G' B us ms :=
  h.map (fun u _ n xs ho h => ⟨ho, fun g e => hg g (h g e)⟩)
theorem MsAt.app {w : World} {G : Nat → Prop} {B : Nat} : ∀ {us vs : List MC} {ms ks : List Mg}, MsAt w G B us ms → MsAt w G B vs ks → MsAt w G B (us ++ vs) (ms ++ ks)
  | [], _, [], _, _, h => h
  | _ :: us, _, _ :: ms, _, h, h2 => ⟨h.1, MsAt.app h.2 h2⟩
  | [], _, _ :: _, _, h, _ => h.elim
  | _ :: _, _, [], _, h, _ => h.elim
/-- Rows of unlike things lie in unlike blocks. -/
theorem own_ne {w : World} {B B' s s' n n' : Nat} {e e' : TypeId} {v v' : Value} {xs xs' : List Value} (h : w.ownsRow B e s v n xs) (h' : w.ownsRow B' e' s' v' n' xs') (hne : e ≠ e') {g : Nat} (hg : v.ownBlock = some g) : v'.ownBlock ≠ some g := fun hg' => by
  rcases h.2 with ⟨rfl, _⟩ | ⟨k, cap, cur, rfl, _, h1, _⟩
  · cases hg
  · rcases h'.2 with ⟨rfl, _⟩ | ⟨k', cap', cur', rfl, _, h1', _⟩
    · cases hg'
    · have e1 : k = g := by simpa [Value.ownBlock] using hg
      have e2 : k' = g := by simpa [Value.ownBlock] using hg'
      subst e1
      subst e2
      rw [h1] at h1'
      cases h1'
      exact hne rfl
theorem own_not {w : World} {B s n : Nat} {e e' : TypeId} {v : Value} {xs : List Value} (h : w.ownsRow B e s v n xs) {p : Nat} {cs : Array Value} (hp : w.heap[p]? = some (.cells cs e' (0, 0))) (hne : e ≠ e') : v.ownBlock ≠ some p := fun hg => by
  rcases h.2 with ⟨rfl, _⟩ | ⟨k, cap, cur, rfl, _, h1, _⟩
  · cases hg
  · have e1 : k = p := by simpa [Value.ownBlock] using hg
    subst e1
    rw [h1] at hp
    cases hp
    exact hne rfl
/-- A row of messages, all in the blocks F. -/
def MsR (w : World) (F : Nat → Prop) (B : Nat) (v : Value) (ms : List Mg) : Prop :=
  ∃ us, w.ownsRow B tyM 3 v ms.length (cellsM us) ∧ MsAt w F B us ms ∧ ∀ g, v.ownBlock = some g → F g
theorem MsR.tch {T F : Nat → Prop} {w w' : World} {B : Nat} {v : Value} {ms : List Mg} (h : MsR w F B v ms) (ht : Tch T w w') (hn : ∀ k, F k → ¬ T k) : MsR w' F B v ms := by
  obtain ⟨us, h1, h2, h3⟩ := h
  exact ⟨us, ht.own h1 (fun g he hT => hn g (h3 g he) hT), h2.tch ht hn, h3⟩
theorem MsR.mono {F G : Nat → Prop} {w : World} {B : Nat} {v : Value} {ms : List Mg} (h : MsR w F B v ms) (hg : ∀ k, F k → G k) : MsR w G B v ms := by
  obtain ⟨us, h1, h2, h3⟩ := h
  exact ⟨us, h1, h2.mono hg, fun g e => hg g (h3 g e)⟩
theorem MsR.nil (w : World) (F : Nat → Prop) (B : Nat) : MsR w F B (.slice none 0 0) [] := ⟨[], World.ownsRow_nil _ _ _ _, trivial, fun g e => by cases e⟩
/-- The blocks F, and those that are new. -/
def Gr (F : Nat → Prop) (w w' : World) : Nat → Prop := fun k => F k ∨ (w.heap.size ≤ k ∧ k < w'.heap.size)
/-- A speaker: the program's and the document's have the same cells. -/
structure SpS (ty : TypeId) (w : World) (F : Nat → Prop) (B p : Nat) (boot : Int) (op : Bool) (vips : List Int) (said : List Mg) : Prop where
  here : F p
  blocks : ∀ k, F k → B ≤ k ∧ k < w.heap.size
  at_ : ∃ va vc sv, w.heap[p]? = some (.cells #[.int .i64 boot, .bool op, .slice va vips.length vc, sv] ty (0, 0)) ∧ w.ownsRow B 44 1 (.slice va vips.length vc) vips.length (a32s vips) ∧ (∀ g, (Value.slice va vips.length vc).ownBlock = some g → F g) ∧ MsR w F B sv said
  fit : fitA vips
  few : vips.length ≤ 39
  boot_ : IsTm boot
section
variable {ty : TypeId} {w w' : World} {F : Nat → Prop} {B p : Nat} {boot : Int} {op : Bool} {vips : List Int} {said : List Mg}
theorem SpS.tch {T : Nat → Prop} (h : SpS ty w F B p boot op vips said) (ht : Tch T w w') (hn : ∀ k, F k → ¬ T k) : SpS ty w' F B p boot op vips said := by
  obtain ⟨va, vc, sv, h1, h2, h3, h4⟩ := h.at_
  exact ⟨h.here, fun k hk => ⟨(h.blocks k hk).1, Nat.lt_of_lt_of_le (h.blocks k hk).2 ht.size⟩, ⟨va, vc, sv, ht.at h1 (hn p h.here), ht.own h2 (fun g he hT => hn g (h3 g he) hT), h3, h4.tch ht hn⟩, h.fit, h.few, h.boot_⟩
theorem SpS.below (h : SpS ty w F B p boot op vips said) (hb : Below w.heap.size w w') : SpS ty w' F B p boot op vips said := h.tch (tch_new hb) (fun _ _ h => h)
theorem SpS.gr {G : Nat → Prop} (h : SpS ty w F B p boot op vips said) (hg : ∀ k, F k → G k) (hb : ∀ k, G k → B ≤ k ∧ k < w.heap.size) : SpS ty w G B p boot op vips said := by
  obtain ⟨va, vc, sv, h1, h2, h3, h4⟩ := h.at_
  exact ⟨hg p h.here, hb, ⟨va, vc, sv, h1, h2, fun g e => hg g (h3 g e), h4.mono hg⟩, h.fit, h.few, h.boot_⟩
end
/-- What a call on a speaker leaves. -/
def SpTo (ty : TypeId) (w : World) (F : Nat → Prop) (B p : Nat) (boot : Int) (op : Bool) (vips : List Int) (said : List Mg) (w' : World) : Prop :=
  SpS ty w' (Gr F w w') B p boot op vips said ∧ Tch F w w'
theorem Gr.trans {F : Nat → Prop} {w w1 w2 : World} (h1 : w.heap.size ≤ w1.heap.size) (h2 : w1.heap.size ≤ w2.heap.size) : ∀ k, Gr (Gr F w w1) w1 w2 k → Gr F w w2 k := by
  intro k hk
  rcases hk with (hk | hk) | hk
  · exact .inl hk
  · exact .inr ⟨hk.1, by omega⟩
  · exact .inr ⟨by omega, hk.2⟩
theorem SpTo.trans {ty : TypeId} {w w1 w2 : World} {F : Nat → Prop} {B p : Nat} {boot : Int} {op op2 : Bool} {vips vips2 : List Int} {said said2 : List Mg} (h : SpTo ty w F B p boot op vips said w1) (h2 : SpTo ty w1 (Gr F w w1) B p boot op2 vips2 said2 w2) (hB : B ≤ w.heap.size) : SpTo ty w F B p boot op2 vips2 said2 w2 :=
  ⟨h2.1.gr (Gr.trans h.2.size h2.2.size) (fun k hk => by
    rcases hk with hk | hk
    · exact h2.1.blocks k (.inl (.inl hk))
    · exact ⟨by omega, hk.2⟩), h.2.trans' h2.2 (fun k hk e => by
      rcases e with e | e
      · exact e
      · omega)⟩
theorem SpS.to {ty : TypeId} {w w' : World} {F : Nat → Prop} {B p : Nat} {boot : Int} {op : Bool} {vips : List Int} {said : List Mg} (h : SpS ty w F B p boot op vips said) (hb : Below w.heap.size w w') (hB : B ≤ w.heap.size) : SpTo ty w F B p boot op vips said w' :=
  ⟨(h.below hb).gr (fun k hk => .inl hk) (fun k hk => by
    rcases hk with hk | hk
    · exact ⟨(h.blocks k hk).1, Nat.lt_of_lt_of_le (h.blocks k hk).2 hb.size⟩
    · exact ⟨by omega, hk.2⟩), (tch_new hb).mono (fun _ h => h.elim)⟩
/-- A word more is said. -/
theorem SpS.said {ty : TypeId} (t1 : ty ≠ 3) (t2 : ty ≠ 44) (t3 : ty ≠ tyM) {w w5 w8 : World} {F : Nat → Prop} {B p : Nat} {boot : Int} {op : Bool} {vips : List Int} {said : List Mg} {va : Option Addr} {vc : Nat} {sv : Value} {us : List MC}
    (hS : SpS ty w F B p boot op vips said) (hB : B ≤ w.heap.size) (hp0 : w.heap[p]? = some (.cells #[.int .i64 boot, .bool op, .slice va vips.length vc, sv] ty (0, 0)))
    (hv : w.ownsRow B 44 1 (.slice va vips.length vc) vips.length (a32s vips)) (hvF : ∀ g, (Value.slice va vips.length vc).ownBlock = some g → F g)
    (hsv : w.ownsRow B tyM 3 sv said.length (cellsM us)) (hat : MsAt w F B us said) (hsF : ∀ g, sv.ownBlock = some g → F g)
    (hb5 : Below w.heap.size w w5) (hg8 : w5.grownBy w8 sv.ownBlock) {a8 : Option Addr} {c8 : Nat} {u : MC} {m : Mg} (hown8 : w8.ownsRow B tyM 3 (.slice a8 (said.length + 1) c8) (said.length + 1) (cellsM us ++ u.cs))
    (hwh : (Value.slice a8 (said.length + 1) c8).ownBlock = sv.ownBlock ∨ (Value.slice a8 (said.length + 1) c8).ownBlock = some w5.heap.size)
    (hk : u.kind = m.kind) (hd : m.data = []) (hn : u.n = m.nums.length) (hu : w5.ownsRow w.heap.size 3 1 u.v u.n (i64s m.nums)) (hf : fitI m.nums) :
    SpTo ty w F B p boot op vips (said ++ [m]) (w8.setCell ⟨p, 3, none⟩ (.slice a8 (said.length + 1) c8)) := by
  obtain ⟨W, hW⟩ : ∃ W, W = w8.setCell ⟨p, 3, none⟩ (.slice a8 (said.length + 1) c8) := ⟨_, rfl⟩
  have hT5 : Tch Non w w5 := tch_new hb5
  have hT8 := tch_grown hg8
  have hTW : Tch (· = p) w8 W := by rw [hW]; exact tch_set w8 ⟨p, 3, none⟩ _
  have hsv5 := hT5.own hsv (fun _ _ h => h)
  have hp5 := hT5.at hp0 (fun h => h)
  have hp8 := hT8.at hp5 (fun e => own_not hsv5 hp5 (fun e => t3 e.symm) e.symm)
  have hpW : W.heap[p]? = some (.cells #[.int .i64 boot, .bool op, .slice va vips.length vc, .slice a8 (said.length + 1) c8] ty (0, 0)) := by
    rw [hW]
    have := put_row (i := 3) hp8 (.slice a8 (said.length + 1) c8)
    simpa using this
  have sz5 := hb5.size
  have sz8 := hT8.size
  have szW := hTW.size
  have lsv : ∀ g, sv.ownBlock = some g → g < w.heap.size := fun g hg => (hsv.lt g hg).2
  have hF : ∀ k, F k → k < w.heap.size := fun k hk => (hS.blocks k hk).2
  have htot : Tch F w W := by
    refine ((hT5.mono (fun _ h => h.elim)).trans' (hT8.mono (U := fun k => F k) (fun k hk => hsF k hk.symm)) (fun _ _ h => h)).trans' (hTW.mono (U := fun k => F k) (fun k hk => by rw [hk]; exact hS.here)) (fun _ _ h => h)
  rw [← hW]
  have ints : ∀ {v : Value} {n : Nat} {xs : List Value} {b : Nat}, w5.ownsRow b 3 1 v n xs → W.ownsRow b 3 1 v n xs := fun {v n xs b} ho => by
    have h8 := hT8.own ho (fun g hg hs => own_ne ho hsv5 (by decide) hg hs.symm)
    exact hTW.own h8 (fun g hg e => own_not h8 hp8 (fun e => t1 e.symm) (by rw [hg, e]))
  refine ⟨⟨.inl hS.here, fun k hk => ?_, ⟨va, vc, _, hpW, ?_, fun g hg => .inl (hvF g hg), us ++ [u], ?_, ?_, ?_⟩, hS.fit, hS.few, hS.boot_⟩, htot⟩
  · rcases hk with hk | hk
    · exact ⟨(hS.blocks k hk).1, Nat.lt_of_lt_of_le (hF k hk) (by omega)⟩
    · exact ⟨by omega, hk.2⟩
  · have h5 := hT5.own hv (fun _ _ h => h)
    have h8 := hT8.own h5 (fun g hg hs => own_ne h5 hsv5 (by decide) hg hs.symm)
    exact hTW.own h8 (fun g hg e => own_not h8 hp8 (fun e => t2 e.symm) (by rw [hg, e]))
  · have e1 : cellsM (us ++ [u]) = cellsM us ++ u.cs := by unfold cellsM; simp
    rw [e1, List.length_append, List.length_singleton]
    exact hTW.own hown8 (fun g hg e => own_not hown8 hp8 (fun e => t3 e.symm) (by rw [hg, e]))
  · refine MsAt.app (hat.map (fun x _ n xs ho hg => ⟨ints (hT5.own ho (fun _ _ h => h)), fun g e => .inl (hg g e)⟩)) ⟨⟨hk, hd, hn, own_base (ints hu) hB, hf, fun g hg => ?_⟩, trivial⟩
    have := hu.lt g hg
    exact .inr ⟨this.1, by omega⟩
  · intro g hg
    rcases hwh with e | e
    · exact .inl (hsF g (by rw [← e]; exact hg))
    · rw [hg] at e
      cases e
      have := (hown8.lt _ hg).2
      exact .inr ⟨sz5, by omega⟩
end Go.Proofs.Ytlmkmbpikhagiaa
