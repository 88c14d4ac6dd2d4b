/- Sessions: the router's map from muxes to them, in memory. Conditions: those stated. -/
import Derived.Test.YtlmkmbpikhagiaaSpH
import Derived.Maps.OwnSet
import Derived.Maps.RangeWalk
import Derived.Laws.IdiomRangeMap
namespace Go.Proofs.Ytlmkmbpikhagiaa
open Go Go.RowKit Go.Maps
set_option linter.unusedVariables false
set_option linter.unusedSimpArgs false

abbrev DS := DataW Value
abbrev tyMap : TypeId := 83
abbrev tyI : TypeId := 3
abbrev tyE : TypeId := 88
/-- A session. -/
structure Se where
  mux : Int
  boot : Int
  heard : Int
  vips : List Int
/-- A session's value: where its row lies. -/
structure SV where
  boot : Int
  heard : Int
  a : Option Addr
  n : Nat
  c : Nat
def SV.row (x : SV) : Value := .slice x.a x.n x.c
def SV.v (x : SV) : Value := .agg #[.int .i64 x.boot, .int .i64 x.heard, .slice x.a x.n x.c]
def svOf : List Value → Option SV
  | [.int .i64 b, .int .i64 h, .slice a n c] => some ⟨b, h, a, n, c⟩
  | _ => none
def rdS (v : Value) : Option (DS × List MemPlace) := match v with
  | .agg a => (svOf a.toList).map fun e => (.held e.v, [])
  | _ => none
def sv0 : SV := ⟨0, 0, none, 0, 0⟩
theorem rdS_v (x : SV) : rdS x.v = some (.held x.v, []) := rfl
theorem svOf_inv {l : List Value} {e : SV} (h : svOf l = some e) : l = [.int .i64 e.boot, .int .i64 e.heard, .slice e.a e.n e.c] := by
  unfold svOf at h
  split at h
  · cases h; rfl
  · cases h
theorem rdS_inv {v : Value} {y : DS × List MemPlace} (h : rdS v = some y) : ∃ x : SV, v = x.v ∧ y = (.held x.v, []) := by
  unfold rdS at h
  split at h
  · rename_i a
    obtain ⟨e, h1, rfl⟩ := Option.map_eq_some_iff.1 h
    refine ⟨e, ?_, rfl⟩
    have := svOf_inv h1
    have h2 : a = #[.int .i64 e.boot, .int .i64 e.heard, .slice e.a e.n e.c] := by rw [← Array.toArray_toList (xs := a), this]
    rw [h2]
    rfl
  · cases h
theorem invV : ∀ v y, rdS v = some y → ∃ c : SV, v = c.v := fun v y h => by obtain ⟨x, hx, _⟩ := rdS_inv h; exact ⟨x, hx⟩
theorem lawI : Keyed Try.prog tyI := int_keyed Try.underlying3
theorem zeroS (w : World) : (zeroValue tyE).run Try.prog w = .ok sv0.v w := by kernel_rfl
abbrev kI (x : Int) : Lit := .int .i64 x
theorem wfI {x : Int} (h : i64c x) : (Lit.int .i64 x).wf = true := WalkArith.wf_i64 (by unfold i64c at h; omega)
theorem keyI {x : Int} (h : i64c x) : keyOf Try.prog tyI (.int .i64 x) = some (.int .i64 x) := keyOf_int_mk Try.underlying3 (wfI h)
theorem kI_ne {x y : Int} (h : x ≠ y) : kI x ≠ kI y := fun e => h (by injection e)
theorem isKey (k : Int) : Go.WideAt.IsKeyLit (kI k) := trivial
theorem invK : ∀ key kl, keyOf Try.prog tyI key = some kl → ∃ x, key = Value.int .i64 x := fun key kl h => by obtain ⟨x, rfl, _⟩ := Maps.keyOf_int_inv Try.underlying3 h; exact ⟨x, rfl⟩
/-- Rising muxes. -/
def SrtS (l : List Se) : Prop := l.Pairwise (fun a b => a.mux < b.mux)
def findS (k : Int) (l : List Se) : Option Se := l.find? (fun e => e.mux == k)
def cutS (k : Int) (l : List Se) : List Se := l.filter (fun e => e.mux != k)
def putS (x : Se) (l : List Se) : List Se := l.filter (fun e => decide (e.mux < x.mux)) ++ x :: l.filter (fun e => decide (x.mux < e.mux))
theorem findS_mem {k : Int} {l : List Se} {e : Se} (h : findS k l = some e) : e ∈ l ∧ e.mux = k := ⟨List.mem_of_find?_eq_some h, by simpa using List.find?_some h⟩
theorem srt_inj {l : List Se} (hs : SrtS l) {a b : Se} (ha : a ∈ l) (hb : b ∈ l) (h : a.mux = b.mux) : a = b := by
  induction l with
  | nil => cases ha
  | cons e l ih =>
    have h1 := List.pairwise_cons.1 hs
    rcases List.mem_cons.1 ha with h2 | h2 <;> rcases List.mem_cons.1 hb with h3 | h3
    · rw [h2, h3]
    · have := h1.1 b h3; rw [h2] at h; omega
    · have := h1.1 a h2; rw [h3] at h; omega
    · exact ih h1.2 h2 h3
theorem findS_of {l : List Se} (hs : SrtS l) {e : Se} (h : e ∈ l) : findS e.mux l = some e := by
  cases hf : findS e.mux l with
  | none =>
    have := List.find?_eq_none.1 hf e h
    simp at this
  | some x =>
    obtain ⟨h1, h2⟩ := findS_mem hf
    rw [srt_inj hs h1 h h2]
theorem findS_none {k : Int} {l : List Se} : findS k l = none ↔ ∀ e ∈ l, e.mux ≠ k := by
  unfold findS
  rw [List.find?_eq_none]
  constructor <;> intro h e he <;> simpa using h e he
theorem srt_cut {l : List Se} (hs : SrtS l) (k : Int) : SrtS (cutS k l) := hs.sublist List.filter_sublist
theorem srt_put {l : List Se} (hs : SrtS l) (x : Se) : SrtS (putS x l) := by
  unfold putS SrtS
  rw [List.pairwise_append]
  refine ⟨hs.sublist List.filter_sublist, List.pairwise_cons.2 ⟨fun e he => by simpa using (List.mem_filter.1 he).2, hs.sublist List.filter_sublist⟩, fun a ha b hb => ?_⟩
  have h1 : a.mux < x.mux := by simpa using (List.mem_filter.1 ha).2
  rcases List.mem_cons.1 hb with rfl | hb
  · exact h1
  · have h2 : x.mux < b.mux := by simpa using (List.mem_filter.1 hb).2
    omega
theorem mem_put {x e : Se} {l : List Se} : e ∈ putS x l ↔ e = x ∨ (e ∈ l ∧ e.mux ≠ x.mux) := by
  unfold putS
  rw [List.mem_append, List.mem_cons, List.mem_filter, List.mem_filter]
  constructor
  · rintro (⟨h, h2⟩ | rfl | ⟨h, h2⟩)
    · exact .inr ⟨h, by simp at h2; omega⟩
    · exact .inl rfl
    · exact .inr ⟨h, by simp at h2; omega⟩
  · rintro (rfl | ⟨h, h2⟩)
    · exact .inr (.inl rfl)
    · rcases Int.lt_or_gt_of_ne h2 with h3 | h3
      · exact .inl ⟨h, by simp; omega⟩
      · exact .inr (.inr ⟨h, by simp; omega⟩)
theorem findS_put {l : List Se} (hs : SrtS l) (x : Se) (k : Int) : findS k (putS x l) = if k = x.mux then some x else findS k l := by
  by_cases hk : k = x.mux
  · rw [if_pos hk, hk]; exact findS_of (srt_put hs x) (mem_put.2 (.inl rfl))
  · rw [if_neg hk]
    cases hf : findS k l with
    | none =>
      rw [findS_none] at hf ⊢
      intro e he
      rcases mem_put.1 he with rfl | ⟨h, _⟩
      · exact fun h => hk h.symm
      · exact hf e h
    | some e =>
      obtain ⟨h1, h2⟩ := findS_mem hf
      have := findS_of (srt_put hs x) (mem_put.2 (.inr ⟨h1, by rw [h2]; exact hk⟩) : e ∈ putS x l)
      rwa [h2] at this
theorem findS_cut (l : List Se) (k g : Int) : findS g (cutS k l) = if g = k then none else findS g l := by
  by_cases h : g = k
  · rw [if_pos h, findS_none]
    intro e he
    have := (List.mem_filter.1 he).2
    rw [h]
    simpa using this
  · rw [if_neg h]
    unfold findS cutS
    rw [List.find?_filter]
    congr 1
    funext e
    by_cases h2 : e.mux = g
    · simp [h2, h]
    · simp [h2]
theorem len_cut {l : List Se} (hs : SrtS l) (k : Int) : (cutS k l).length + (if (findS k l).isSome then 1 else 0) = l.length := by
  induction l with
  | nil => rfl
  | cons e l ih =>
    have h1 := List.pairwise_cons.1 hs
    by_cases h : e.mux = k
    · have h2 : cutS k l = l := by
        unfold cutS
        rw [List.filter_eq_self]
        intro x hx
        have := h1.1 x hx
        simp
        omega
      have h3 : findS k (e :: l) = some e := by unfold findS; rw [List.find?_cons_of_pos (by simp [h])]
      have h4 : cutS k (e :: l) = cutS k l := by unfold cutS; rw [List.filter_cons_of_neg (by simp [h])]
      rw [h3, h4, h2]
      rfl
    · have h3 : findS k (e :: l) = findS k l := by unfold findS; rw [List.find?_cons_of_neg (by simp [h])]
      have h4 : cutS k (e :: l) = e :: cutS k l := by unfold cutS; rw [List.filter_cons_of_pos (by simp [h])]
      have := ih h1.2
      rw [h3, h4, List.length_cons, List.length_cons]
      omega
theorem len_put {l : List Se} (hs : SrtS l) (x : Se) : (putS x l).length = if (findS x.mux l).isSome then l.length else l.length + 1 := by
  have h1 := len_cut hs x.mux
  have h2 : (putS x l).length = (cutS x.mux l).length + 1 := by
    unfold putS cutS
    rw [List.length_append, List.length_cons]
    have : ∀ m : List Se, (m.filter (fun e => decide (e.mux < x.mux))).length + (m.filter (fun e => decide (x.mux < e.mux))).length = (m.filter (fun e => e.mux != x.mux)).length := by
      intro m
      induction m with
      | nil => rfl
      | cons e m ih =>
        simp only [List.filter_cons]
        rcases Int.lt_trichotomy e.mux x.mux with h | h | h
        · have a1 : decide (e.mux < x.mux) = true := by simp [h]
          have a2 : decide (x.mux < e.mux) = false := by simp; omega
          have a3 : (e.mux != x.mux) = true := by simp; omega
          simp [a1, a2, a3]; omega
        · have a1 : decide (e.mux < x.mux) = false := by simp; omega
          have a2 : decide (x.mux < e.mux) = false := by simp; omega
          have a3 : (e.mux != x.mux) = false := by simp [h]
          simp [a1, a2, a3]; omega
        · have a1 : decide (e.mux < x.mux) = false := by simp; omega
          have a2 : decide (x.mux < e.mux) = true := by simp [h]
          have a3 : (e.mux != x.mux) = true := by simp; omega
          simp [a1, a2, a3]; omega
    have := this l
    omega
  split at h1 <;> split <;> simp_all <;> omega
/-- A session's row in memory, in the blocks F. -/
def RowS (w : World) (F : Nat → Prop) (B : Nat) (x : SV) (e : Se) : Prop :=
  x.boot = e.boot ∧ x.heard = e.heard ∧ x.n = e.vips.length ∧ w.ownsRow B 44 1 x.row x.n (a32s e.vips) ∧ fitA e.vips ∧ ∀ g, x.row.ownBlock = some g → F g
theorem RowS.tch {T F : Nat → Prop} {w w' : World} {B : Nat} {x : SV} {e : Se} (h : RowS w F B x e) (ht : Tch T w w') (hn : ∀ g, x.row.ownBlock = some g → ¬ T g) : RowS w' F B x e :=
  ⟨h.1, h.2.1, h.2.2.1, ht.own h.2.2.2.1 hn, h.2.2.2.2⟩
theorem RowS.mono {F G : Nat → Prop} {w : World} {B : Nat} {x : SV} {e : Se} (h : RowS w F B x e) (hg : ∀ k, F k → G k) : RowS w G B x e := ⟨h.1, h.2.1, h.2.2.1, h.2.2.2.1, h.2.2.2.2.1, fun g e => hg g (h.2.2.2.2.2 g e)⟩
/-- A map reads as sessions. -/
structure MR (w : World) (F : Nat → Prop) (B : Nat) (D : DS) (l : List Se) : Prop where
  some_ : ∀ k e, findS k l = some e → Maps.has D (kI k) = true ∧ ∃ x : SV, (∀ z, D.atKey (kI k) z = .held x.v) ∧ RowS w F B x e
  none_ : ∀ k, findS k l = none → Maps.has D (kI k) = false
  size : Maps.size D = l.length
theorem MR.nil {w : World} {F : Nat → Prop} {B : Nat} : MR w F B (.map []) [] := ⟨fun k e h => (by cases h), fun _ _ => rfl, rfl⟩
theorem MR.turn {w w' : World} {F G : Nat → Prop} {B B' : Nat} {D : DS} {l : List Se} (h : MR w F B D l) (ht : ∀ x e, RowS w F B x e → RowS w' G B' x e) : MR w' G B' D l :=
  ⟨fun k e hk => by
    obtain ⟨h1, x, h2, h3⟩ := h.some_ k e hk
    exact ⟨h1, x, h2, ht x e h3⟩, h.none_, h.size⟩
theorem MR.has {F : Nat → Prop} {w : World} {B : Nat} {D : DS} {l : List Se} (h : MR w F B D l) (k : Int) : Maps.has D (kI k) = (findS k l).isSome := by
  cases e : findS k l with
  | none => rw [h.none_ k e]; rfl
  | some r => rw [(h.some_ k r e).1]; rfl
theorem MR.cut {F : Nat → Prop} {w : World} {B : Nat} {D : DS} {l : List Se} (h : MR w F B D l) (hs : SrtS l) (hT : Tidy D) (k : Int) : MR w F B (D.del (kI k)) (cutS k l) := by
  refine ⟨fun g e hg => ?_, fun g hg => ?_, ?_⟩
  · rw [findS_cut] at hg
    by_cases e : g = k
    · rw [if_pos e] at hg; cases hg
    · rw [if_neg e] at hg
      obtain ⟨h1, v, h2, h3⟩ := h.some_ g _ hg
      exact ⟨by rw [has_del_other (kI_ne e)]; exact h1, v, fun z => by rw [atKey_del_other (kI_ne e)]; exact h2 z, h3⟩
  · rw [findS_cut] at hg
    by_cases e : g = k
    · subst e; rw [has_del_same]
    · rw [if_neg e] at hg
      rw [has_del_other (kI_ne e), h.none_ g hg]
  · have h1 := size_del (k := kI k) hT
    have h2 := len_cut hs k
    rw [h.has k] at h1
    have := h.size
    omega
theorem MR.put {F : Nat → Prop} {w : World} {B : Nat} {D : DS} {l : List Se} (h : MR w F B D l) (hs : SrtS l) (hT : Tidy D) (e : Se) {x : SV} (hv : RowS w F B x e) : MR w F B (D.put (kI e.mux) (.held x.v)) (putS e l) := by
  have ik := isKey e.mux
  refine ⟨fun g q hg => ?_, fun g hg => ?_, ?_⟩
  · rw [findS_put hs] at hg
    by_cases he : g = e.mux
    · subst he
      rw [if_pos rfl] at hg
      cases hg
      exact ⟨by rw [has_put_same hT.isMap ik], x, fun z => by rw [atKey_put_same hT.isMap ik], hv⟩
    · rw [if_neg he] at hg
      obtain ⟨h1, u, h2, h3⟩ := h.some_ g q hg
      exact ⟨by rw [has_put_other (kI_ne he)]; exact h1, u, fun z => by rw [atKey_put_other (kI_ne he)]; exact h2 z, h3⟩
  · rw [findS_put hs] at hg
    by_cases he : g = e.mux
    · rw [if_pos he] at hg; cases hg
    · rw [if_neg he] at hg
      rw [has_put_other (kI_ne he), h.none_ g hg]
  · rw [size_put hT, h.has, h.size, len_put hs]
theorem own_tight {P : Program} {k : TypeId} {R : Value → Option (DS × List MemPlace)} {w : World} {b n : Nat} {D : DS} (h : w.ownsMap P k R b n D) : w.ownsMap P k R b (Maps.size D) D := by
  obtain ⟨es, clock, hb, Ft, hs, rfl⟩ := h
  exact ⟨es, clock, hb, Ft, by simp [Maps.size, length_sorted], rfl⟩
/-- Block b is a map that reads as these sessions. -/
def MapS (w : World) (F : Nat → Prop) (B b : Nat) (l : List Se) : Prop := F b ∧ ∃ D : DS, w.ownsMap Try.prog tyI rdS b l.length D ∧ MR w F B D l
theorem MapS.of {F : Nat → Prop} {w : World} {B b n : Nat} {D : DS} {l : List Se} (hF : F b) (h : w.ownsMap Try.prog tyI rdS b n D) (hm : MR w F B D l) : MapS w F B b l := ⟨hF, D, by rw [← hm.size]; exact own_tight h, hm⟩
theorem own_block_m {w w' : World} {b n : Nat} {D : DS} (h : w.ownsMap Try.prog tyI rdS b n D) (hb : w'.heap[b]? = w.heap[b]?) : w'.ownsMap Try.prog tyI rdS b n D := by
  obtain ⟨es, clock, h1, h2⟩ := h
  exact ⟨es, clock, hb.trans h1, h2⟩
theorem MapS.obj {F : Nat → Prop} {w : World} {B b : Nat} {l : List Se} (h : MapS w F B b l) : ∃ es clock, w.heap[b]? = some (.map es clock) := by
  obtain ⟨_, D, ⟨es, clock, h1, _⟩, _⟩ := h
  exact ⟨es, clock, h1⟩
theorem MapS.lt {F : Nat → Prop} {w : World} {B b : Nat} {l : List Se} (h : MapS w F B b l) : b < w.heap.size := by
  obtain ⟨_, D, hd, _⟩ := h
  exact hd.lt
theorem own_map {w : World} {B s n : Nat} {e : TypeId} {v : Value} {xs : List Value} (h : w.ownsRow B e s v n xs) {b : Nat} {es : Array MapEntry} {clock : Nat} (hb : w.heap[b]? = some (.map es clock)) : v.ownBlock ≠ some b := fun hg => by
  rcases h.2 with ⟨rfl, _⟩ | ⟨k, cap, cur, rfl, _, h1, _⟩
  · cases hg
  · have e1 : k = b := by simpa [Value.ownBlock] using hg
    subst e1
    rw [h1] at hb
    cases hb
theorem tch_turned {w w' : World} {b : Nat} (h : w.mapTurned w' b) : Tch (· = b) w w' := by
  have := tch_grown h.grown
  exact this.mono (fun k hk => by simpa using hk)
theorem size_turned {w w' : World} {b : Nat} (h : w.mapTurned w' b) : w'.heap.size = w.heap.size := by
  obtain ⟨es, clock, es', clock', hb, rfl⟩ := h
  simp [Go.ChangeMaps.setBlock]
theorem MapS.tch {T F : Nat → Prop} {w w' : World} {B b : Nat} {l : List Se} (h : MapS w F B b l) (ht : Tch T w w') (hn : ∀ k, F k → ¬ T k) : MapS w' F B b l := by
  obtain ⟨hF, D, hd, hm⟩ := h
  exact ⟨hF, D, own_block_m hd (ht.block b hd.lt (hn b hF)), hm.turn (fun x e h => h.tch ht (fun g hg => hn g (h.2.2.2.2.2 g hg)))⟩
theorem MapS.mono {F G : Nat → Prop} {w : World} {B b : Nat} {l : List Se} (h : MapS w F B b l) (hG : ∀ k, F k → G k) : MapS w G B b l := by
  obtain ⟨hF, D, hd, hm⟩ := h
  exact ⟨hG b hF, D, hd, hm.turn (fun x e h => h.mono hG)⟩
theorem MapS.new {F : Nat → Prop} (w : World) (B : Nat) (hF : F w.heap.size) : MapS (w.alloc (.map #[] 0)) F B w.heap.size [] := ⟨hF, _, World.ownsMap_made w _ _ _, MR.nil⟩
/-- What a look-up hands over. -/
def LookS (w : World) (F : Nat → Prop) (B : Nat) (k : Int) (l : List Se) (x : SV) : Prop := match findS k l with
  | some e => RowS w F B x e
  | none => x = sv0
theorem SV.inj {x y : SV} (h : x.v = y.v) : x = y := by
  obtain ⟨a, b, c, d, e⟩ := x
  obtain ⟨a', b', c', d', e'⟩ := y
  unfold SV.v at h
  simp only [Value.agg.injEq, Array.mk.injEq, List.cons.injEq, Value.int.injEq, Value.slice.injEq, true_and, and_true] at h
  obtain ⟨rfl, rfl, rfl, rfl, rfl⟩ := h
  rfl
theorem MapS.look {F : Nat → Prop} {w : World} {B b : Nat} {l : List Se} (h : MapS w F B b l) {k : Int} (hk : i64c k) : ∃ x : SV, (Instr.lookup tyMap (.map (some b)) (.int .i64 k) true).run Try.prog w = .ok (.tuple #[x.v, .bool (findS k l).isSome]) w ∧ LookS w F B k l x := by
  obtain ⟨_, D, hd, hm⟩ := h
  obtain ⟨v, ps, hr, hv⟩ := hd.look_ok (t := tyMap) lawI Try.underlying83 (zeroS w) (rdS_v sv0) (keyI hk)
  obtain ⟨x, rfl, hx⟩ := rdS_inv hv
  refine ⟨x, by rw [hr, hm.has k], ?_⟩
  have h1 : D.atKey (kI k) (.held sv0.v) = .held x.v := congrArg Prod.fst hx
  unfold LookS
  cases e : findS k l with
  | none =>
    rw [atKey_of_not_has (hm.none_ k e)] at h1
    simp only [DataW.held.injEq] at h1
    exact (SV.inj h1).symm
  | some r =>
    obtain ⟨_, u, h2, h3⟩ := hm.some_ k r e
    rw [h2] at h1
    simp only [DataW.held.injEq] at h1
    rw [← SV.inj h1]
    exact h3
theorem MapS.store {F : Nat → Prop} {w : World} {B b : Nat} {l : List Se} (h : MapS w F B b l) (hs : SrtS l) (hn : l.length ≤ 1048576) {e : Se} (hk : i64c e.mux) {x : SV} (hv : RowS w F B x e) :
    ∃ w', (Instr.mapUpdate tyMap (.map (some b)) (.int .i64 e.mux) x.v).run Try.prog w = .ok () w' ∧ MapS w' F B b (putS e l) ∧ Tch (· = b) w w' ∧ w'.heap.size = w.heap.size := by
  obtain ⟨es, clock, hobj⟩ := h.obj
  obtain ⟨hF, D, hown, hmr⟩ := h
  obtain ⟨w', hr, h1, h2⟩ := hown.store (t := tyMap) lawI Try.underlying83 (by unfold maxLen; omega) (keyI hk) (rdS_v x)
  have ht := tch_turned h2
  refine ⟨w', hr, MapS.of hF h1 ?_, ht, size_turned h2⟩
  exact (hmr.put hs (hown.tidy lawI) e hv).turn (fun y f h => h.tch ht (fun g hg e => own_map h.2.2.2.1 hobj (by rw [hg, e])))
theorem MapS.drop {F : Nat → Prop} {w : World} {B b : Nat} {l : List Se} (h : MapS w F B b l) (hs : SrtS l) {k : Int} (hk : i64c k) (ty : TypeId) :
    ∃ w', (Builtin.delete_ #[tyMap, tyI] ty #[.map (some b), .int .i64 k]).run Try.prog w = .ok (.tuple #[]) w' ∧ MapS w' F B b (cutS k l) ∧ Tch (· = b) w w' ∧ w'.heap.size = w.heap.size := by
  obtain ⟨es, clock, hobj⟩ := h.obj
  obtain ⟨hF, D, hown, hmr⟩ := h
  obtain ⟨w', hr, h1, h2⟩ := hown.drop (t := tyMap) lawI Try.underlying83 (keyI hk) ty
  have ht := tch_turned h2
  refine ⟨w', hr, MapS.of hF h1 ?_, ht, size_turned h2⟩
  exact (hmr.cut hs (hown.tidy lawI) k).turn (fun y f h => h.tch ht (fun g hg e => own_map h.2.2.2.1 hobj (by rw [hg, e])))
/-- A listener. -/
structure LiS (w : World) (F : Nat → Prop) (B p : Nat) (l : List Se) : Prop where
  here : F p
  blocks : ∀ k, F k → B ≤ k ∧ k < w.heap.size
  srt : SrtS l
  fit : ∀ e ∈ l, IsMux e.mux ∧ IsTm e.boot ∧ IsTm e.heard
  at_ : ∃ b, w.heap[p]? = some (.cells #[.map (some b)] 85 (0, 0)) ∧ MapS w F B b l
theorem LiS.tch {T F : Nat → Prop} {w w' : World} {B p : Nat} {l : List Se} (h : LiS w F B p l) (ht : Tch T w w') (hn : ∀ k, F k → ¬ T k) : LiS w' F B p l := by
  obtain ⟨b, h1, h2⟩ := h.at_
  exact ⟨h.here, fun k hk => ⟨(h.blocks k hk).1, Nat.lt_of_lt_of_le (h.blocks k hk).2 ht.size⟩, h.srt, h.fit, b, ht.at h1 (hn p h.here), h2.tch ht hn⟩
theorem LiS.below {F : Nat → Prop} {w w' : World} {B p : Nat} {l : List Se} (h : LiS w F B p l) (hb : Below w.heap.size w w') : LiS w' F B p l := h.tch (tch_new hb) (fun _ _ h => h)
theorem LiS.gr {F G : Nat → Prop} {w : World} {B p : Nat} {l : List Se} (h : LiS w F B p l) (hg : ∀ k, F k → G k) (hb : ∀ k, G k → B ≤ k ∧ k < w.heap.size) : LiS w G B p l := by
  obtain ⟨b, h1, h2⟩ := h.at_
  exact ⟨hg p h.here, hb, h.srt, h.fit, b, h1, h2.mono hg⟩
/-- What a call on a listener leaves. -/
def LiTo (w : World) (F : Nat → Prop) (B p : Nat) (l : List Se) (w' : World) : Prop := LiS w' (Gr F w w') B p l ∧ Tch F w w'
theorem LiS.to {w w' : World} {F : Nat → Prop} {B p : Nat} {l : List Se} (h : LiS w F B p l) (hb : Below w.heap.size w w') (hB : B ≤ w.heap.size) : LiTo w F B p l w' :=
  ⟨(h.below hb).gr (fun k hk => .inl hk) (fun k hk => by
    rcases hk with hk | hk
    · exact ⟨(h.blocks k hk).1, Nat.lt_of_lt_of_le (h.blocks k hk).2 hb.size⟩
    · exact ⟨by omega, hk.2⟩), (tch_new hb).mono (fun _ h => h.elim)⟩
theorem muxes_few : ∀ {l : List Se}, SrtS l → (∀ e ∈ l, IsMux e.mux) → l.length ≤ 8 := by
  have key : ∀ (l : List Se) (lo : Int), SrtS l → (∀ e ∈ l, lo ≤ e.mux ∧ e.mux ≤ 39) → lo ≤ 40 → (l.length : Int) ≤ 40 - lo := by
    intro l
    induction l with
    | nil => intro lo _ _ h; simp; omega
    | cons e l ih =>
      intro lo hs hm h
      have h1 := List.pairwise_cons.1 hs
      have he := hm e (by simp)
      have := ih (e.mux + 1) h1.2 (fun x hx => ⟨by have := h1.1 x hx; omega, (hm x (by simp [hx])).2⟩) (by omega)
      rw [List.length_cons]
      omega
  intro l hs hm
  have := key l 32 hs (fun e he => hm e he) (by omega)
  omega
end Go.Proofs.Ytlmkmbpikhagiaa
