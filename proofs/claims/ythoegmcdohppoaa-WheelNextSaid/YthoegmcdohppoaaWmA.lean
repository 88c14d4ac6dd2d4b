/- A map from keys to times, as timers: what it reads as, in memory. No conditions but those stated. -/
import Derived.Test.YthoegmcdohppoaaWcS
import Derived.Maps.OwnSet
import Derived.Maps.RangeWalk
namespace Go.Proofs.Ythoegmcdohppoaa
open Go Go.RowKit Go.Maps
set_option linter.unusedVariables false
set_option linter.unusedSimpArgs false

abbrev DU := DataW Unit
abbrev tyI : TypeId := 3
abbrev tyM : TypeId := 59
theorem lawI : Keyed Try.prog tyI := int_keyed Try.underlying3
theorem zeroI (w : World) : (zeroValue tyI).run Try.prog w = .ok (.int .i64 0) w := by kernel_rfl
theorem wfI {x : Int} (h : I64 x) : (Lit.int .i64 x).wf = true := WalkArith.wf_i64 (by unfold I64 at h; omega)
theorem keyI {x : Int} (h : I64 x) : keyOf Try.prog tyI (.int .i64 x) = some (.int .i64 x) := keyOf_int_mk Try.underlying3 (wfI h)
abbrev kI (x : Int) : Lit := .int .i64 x
abbrev vI (x : Int) : DU := .lit (.int .i64 x)
theorem kI_ne {x y : Int} (h : x ≠ y) : kI x ≠ kI y := fun e => h (by injection e)

/-- How many had a key: one or none. -/
theorem cutT_cnt (k : Int) (ts : List Wy) : (cutT k ts).length + cntT k ts = ts.length := by
  unfold cutT cntT
  induction ts with
  | nil => rfl
  | cons t ts ih =>
    by_cases h : t.2 = k
    · rw [List.filter_cons_of_neg (by simp [h]), List.countP_cons_of_pos (by simp [h]), List.length_cons]
      omega
    · rw [List.filter_cons_of_pos (by simp [h]), List.countP_cons_of_neg (by simp [h]), List.length_cons, List.length_cons]
      omega
theorem cutT_none {k : Int} {ts : List Wy} (h : atT k ts = none) : cutT k ts = ts := by
  unfold cutT
  rw [List.filter_eq_self]
  intro t ht
  simpa using atT_none.1 h t ht
theorem cutT_size {k : Int} {ts : List Wy} (hk : KeyT ts) : (cutT k ts).length + (if (atT k ts).isSome then 1 else 0) = ts.length := by
  cases h : atT k ts with
  | none => rw [cutT_none h]; rfl
  | some a =>
    have := (cut_one hk ((atT_some hk).1 h)).length_eq
    rw [List.length_cons] at this
    simpa using this.symm
theorem atT_cut (k x : Int) (ts : List Wy) : atT x (cutT k ts) = if x = k then none else atT x ts := by
  split
  · rename_i e
    rw [atT_none]
    intro t ht
    have := (List.mem_filter.1 ht).2
    rw [e]
    simpa using this
  · rename_i e
    unfold atT cutT
    congr 1
    induction ts with
    | nil => rfl
    | cons t ts ih =>
      by_cases h : t.2 = k
      · rw [List.filter_cons_of_neg (by simp [h]), ih, List.find?_cons_of_neg (by simp [h]; omega)]
      · rw [List.filter_cons_of_pos (by simp [h])]
        by_cases h2 : t.2 = x
        · rw [List.find?_cons_of_pos (by simp [h2]), List.find?_cons_of_pos (by simp [h2])]
        · rw [List.find?_cons_of_neg (by simp [h2]), List.find?_cons_of_neg (by simp [h2]), ih]
theorem atT_put (a k x : Int) (ts : List Wy) : atT x (putT a ts k) = if x = k then some a else atT x ts := by
  have hc := atT_cut k x ts
  unfold putT
  unfold atT at hc ⊢
  rw [List.find?_append]
  by_cases e : x = k
  · rw [if_pos e] at hc ⊢
    rw [Option.map_eq_none_iff.1 hc]
    simp [e]
  · rw [if_neg e] at hc ⊢
    rw [← hc]
    have : List.find? (fun t : Wy => t.2 == x) [(a, k)] = none := by simp; omega
    rw [this, Option.or_none]

/-- A map reads as timers. -/
structure MR (D : DU) (ts : List Wy) : Prop where
  look : ∀ k z, D.atKey (kI k) z = (match atT k ts with | some t => vI t | none => z)
  has : ∀ k, Maps.has D (kI k) = (atT k ts).isSome
  size : Maps.size D = ts.length
theorem MR.nil : MR (.map []) [] := ⟨fun _ _ => rfl, fun _ => rfl, rfl⟩
theorem isKey (k : Int) : Go.WideAt.IsKeyLit (kI k) := trivial
theorem MR.cut {D : DU} {ts : List Wy} (h : MR D ts) (hk : KeyT ts) (hT : Tidy D) (k : Int) : MR (D.del (kI k)) (cutT k ts) := by
  refine ⟨fun x z => ?_, fun x => ?_, ?_⟩
  · rw [atT_cut]
    by_cases e : x = k
    · rw [if_pos e, e, atKey_del_same]
    · rw [if_neg e, atKey_del_other (kI_ne e), h.look]
  · rw [atT_cut]
    by_cases e : x = k
    · rw [if_pos e, e, has_del_same]; rfl
    · rw [if_neg e, has_del_other (kI_ne e), h.has]
  · have h1 := size_del (k := kI k) hT
    have h2 := cutT_size (k := k) hk
    rw [h.has] at h1
    have := h.size
    omega
theorem MR.put {D : DU} {ts : List Wy} (h : MR D ts) (hk : KeyT ts) (hT : Tidy D) (a k : Int) : MR (D.put (kI k) (vI a)) (putT a ts k) := by
  refine ⟨fun x z => ?_, fun x => ?_, ?_⟩
  · rw [atT_put]
    by_cases e : x = k
    · rw [if_pos e, e, atKey_put_same hT.isMap (isKey k)]
    · rw [if_neg e, atKey_put_other (kI_ne e), h.look]
  · rw [atT_put]
    by_cases e : x = k
    · rw [if_pos e, e, has_put_same hT.isMap (isKey k)]; rfl
    · rw [if_neg e, has_put_other (kI_ne e), h.has]
  · have h2 := cutT_size (k := k) hk
    rw [size_put hT, h.has]
    unfold putT
    rw [List.length_append, List.length_singleton]
    have := h.size
    split <;> simp_all <;> omega
/-- Block b is a map that reads as the timers ts. -/
def MapS (w : World) (b : Nat) (ts : List Wy) : Prop := ∃ D : DU, w.ownsMap Try.prog tyI (plainElem (H := Unit) Try.prog tyI) b ts.length D ∧ MR D ts
theorem own_tight {P : Program} {k : TypeId} {R : Value → Option (DU × List MemPlace)} {w : World} {b n : Nat} {D : DU} (h : w.ownsMap P k R b n D) : w.ownsMap P k R b (Maps.size D) D := by
  obtain ⟨es, clock, hb, F, hs, rfl⟩ := h
  exact ⟨es, clock, hb, F, by simp [Maps.size, length_sorted], rfl⟩
theorem MapS.of {w : World} {b n : Nat} {D : DU} {ts : List Wy} (h : w.ownsMap Try.prog tyI (plainElem (H := Unit) Try.prog tyI) b n D) (hm : MR D ts) : MapS w b ts := ⟨D, by rw [← hm.size]; exact own_tight h, hm⟩
theorem MapS.block {w w' : World} {b : Nat} {ts : List Wy} (h : MapS w b ts) (hb : w'.heap[b]? = w.heap[b]?) : MapS w' b ts := by
  obtain ⟨D, ⟨es, clock, h1, h2⟩, hm⟩ := h
  exact ⟨D, ⟨es, clock, hb.trans h1, h2⟩, hm⟩
theorem MapS.lt {w : World} {b : Nat} {ts : List Wy} (h : MapS w b ts) : b < w.heap.size := by
  obtain ⟨D, hd, _⟩ := h
  exact hd.lt
theorem MapS.new (w : World) : MapS (w.alloc (.map #[] 0)) w.heap.size [] := ⟨_, World.ownsMap_made w _ _ _, MR.nil⟩
theorem tch_turned {w w' : World} {b : Nat} (h : w.mapTurned w' b) : Tch (· = b) w w' := by
  have := tch_grown h.grown
  exact this.mono (fun k hk => by simpa using hk)

/-- A wheel in memory: its one cell leads to a map. -/
structure WSt (w : World) (B : Nat) (F : Nat → Prop) (p : Nat) (ts : List Wy) : Prop where
  key : KeyT ts
  fit : ∀ t ∈ ts, OkA t.1 ∧ I64 t.2
  here : F p
  blocks : ∀ k, F k → B ≤ k ∧ k < w.heap.size
  map : ∃ b, F b ∧ w.cell? ⟨p, 0, none⟩ = some (.map (some b)) ∧ MapS w b ts
theorem WSt.keep {T : Nat → Prop} {w w' : World} {B p : Nat} {F : Nat → Prop} {ts : List Wy} (h : WSt w B F p ts) (ht : Tch T w w') (hn : ∀ k, F k → ¬ T k) : WSt w' B F p ts := by
  obtain ⟨b, hb, hc, hm⟩ := h.map
  exact ⟨h.key, h.fit, h.here, fun k hk => ⟨(h.blocks k hk).1, Nat.lt_of_lt_of_le (h.blocks k hk).2 ht.size⟩, b, hb, ht.cell hc (hn p h.here), hm.block (ht.block b hm.lt (hn b hb))⟩
theorem WSt.base {w : World} {B B' p : Nat} {F : Nat → Prop} {ts : List Wy} (h : WSt w B F p ts) (hb : B' ≤ B) : WSt w B' F p ts := ⟨h.key, h.fit, h.here, fun k hk => ⟨Nat.le_trans hb (h.blocks k hk).1, (h.blocks k hk).2⟩, h.map⟩
end Go.Proofs.Ythoegmcdohppoaa
