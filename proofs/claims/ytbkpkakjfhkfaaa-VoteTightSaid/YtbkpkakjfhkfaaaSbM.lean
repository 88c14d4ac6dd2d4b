/- A map from keys to rows: what it reads as, in memory, and how it turns. No conditions but those stated. -/
import Derived.Test.YtbkpkakjfhkfaaaSbP
import Derived.Test.YtbkpkakjfhkfaaaTch
import Derived.Test.YtbkpkakjfhkfaaaQStB
import Derived.Maps.OwnSet
import Derived.Maps.RangeWalk
import Derived.Sort.KeysCollected
import Derived.Laws.IdiomRangeMap
namespace Go.Proofs.Ytbkpkakjfhkfaaa
open Go Go.RowKit Go.Maps
set_option linter.unusedVariables false
set_option linter.unusedSimpArgs false

abbrev DV := DataW Value
abbrev tyM : TypeId := 153
abbrev tyK : TypeId := 9
abbrev tyB : TypeId := 26
def rdV : Value → Option (DV × List MemPlace)
  | .slice a n c => some (.held (.slice a n c), [])
  | _ => none
theorem lawK : Keyed Try.prog tyK := string_keyed Try.underlying9
theorem zeroM (w : World) : (zeroValue tyB).run Try.prog w = .ok (.slice none 0 0) w := by kernel_rfl
theorem zeroR : rdV (.slice none 0 0) = some (.held (.slice none 0 0), []) := rfl
abbrev kI (k : Ky) : Lit := .string k
theorem key_ok {k : Ky} (h : k.length ≤ maxLen) : keyOf Try.prog tyK (encStr k) = some (kI k) := by
  have : (⟨k.toArray⟩ : ByteArray).size ≤ maxLen := by simpa [ByteArray.size] using h
  simp [keyOf, Try.underlying9, mapKey, encStr, this]
theorem key_lit (k : Ky) : Go.WideAt.IsKeyLit (kI k) := trivial
theorem key_ne {k g : Ky} (h : g ≠ k) : kI g ≠ kI k := fun e => h (by injection e)
/-- A row of bytes of the call's own, in the blocks F. -/
def RowF (w : World) (F : Nat → Prop) (B : Nat) (v : Value) (r : List Int) : Prop := w.ownsRow B 5 1 v r.length (u8s r) ∧ fit r ∧ ∀ g, v.ownBlock = some g → F g
/-- Block k holds no row of bytes. -/
def NoRow (w : World) (k : Nat) : Prop := ∀ cs fr, w.heap[k]? ≠ some (.cells cs 5 fr)
theorem RowF.no {w : World} {F : Nat → Prop} {B k : Nat} {v : Value} {r : List Int} (h : RowF w F B v r) (hn : NoRow w k) : v.ownBlock ≠ some k := fun e => by
  rcases h.1.2 with ⟨rfl, _⟩ | ⟨g, cap, cur, rfl, _, hg, _⟩
  · cases e
  · have : g = k := by simpa [Value.ownBlock] using e
    subst this
    exact hn _ _ hg
theorem RowF.tch {T F : Nat → Prop} {w w' : World} {B : Nat} {v : Value} {r : List Int} (h : RowF w F B v r) (ht : Tch T w w') (hn : ∀ k, T k → F k → NoRow w k) : RowF w' F B v r :=
  ⟨ht.own h.1 (fun g hg hT => h.no (hn g hT (h.2.2 g hg)) hg), h.2⟩
theorem RowF.mono {F G : Nat → Prop} {w : World} {B : Nat} {v : Value} {r : List Int} (h : RowF w F B v r) (hG : ∀ k, F k → G k) : RowF w G B v r := ⟨h.1, h.2.1, fun g hg => hG g (h.2.2 g hg)⟩
theorem RowF.base {F : Nat → Prop} {w : World} {B B' : Nat} {v : Value} {r : List Int} (h : RowF w F B v r) (hb : B' ≤ B) : RowF w F B' v r := ⟨own_base h.1 hb, h.2⟩
/-- A map reads as pairs. -/
structure MR (w : World) (F : Nat → Prop) (B : Nat) (D : DV) (l : List Pr) : Prop where
  some_ : ∀ k r, findP k l = some r → Maps.has D (kI k) = true ∧ ∃ v, (∀ z, D.atKey (kI k) z = .held v) ∧ RowF w F B v r
  none_ : ∀ k, findP k l = none → Maps.has D (kI k) = false
  size : Maps.size D = l.length
theorem MR.nil {w : World} {F : Nat → Prop} {B : Nat} : MR w F B (.map []) [] := ⟨fun k r h => (by cases h), fun _ _ => rfl, rfl⟩
theorem MR.tch {T F : Nat → Prop} {w w' : World} {B : Nat} {D : DV} {l : List Pr} (h : MR w F B D l) (ht : Tch T w w') (hn : ∀ k, T k → F k → NoRow w k) : MR w' F B D l :=
  ⟨fun k r hk => by
    obtain ⟨h1, v, h2, h3⟩ := h.some_ k r hk
    exact ⟨h1, v, h2, h3.tch ht hn⟩, h.none_, h.size⟩
theorem MR.mono {F G : Nat → Prop} {w : World} {B : Nat} {D : DV} {l : List Pr} (h : MR w F B D l) (hG : ∀ k, F k → G k) : MR w G B D l :=
  ⟨fun k r hk => by
    obtain ⟨h1, v, h2, h3⟩ := h.some_ k r hk
    exact ⟨h1, v, h2, h3.mono hG⟩, h.none_, h.size⟩
theorem MR.base {F : Nat → Prop} {w : World} {B B' : Nat} {D : DV} {l : List Pr} (h : MR w F B D l) (hb : B' ≤ B) : MR w F B' D l :=
  ⟨fun k r hk => by
    obtain ⟨h1, v, h2, h3⟩ := h.some_ k r hk
    exact ⟨h1, v, h2, h3.base hb⟩, h.none_, h.size⟩
theorem MR.has {F : Nat → Prop} {w : World} {B : Nat} {D : DV} {l : List Pr} (h : MR w F B D l) (k : Ky) : Maps.has D (kI k) = (findP k l).isSome := by
  cases e : findP k l with
  | none => rw [h.none_ k e]; rfl
  | some r => rw [(h.some_ k r e).1]; rfl
theorem MR.cut {F : Nat → Prop} {w : World} {B : Nat} {D : DV} {l : List Pr} (h : MR w F B D l) (hs : SrtP l) (hT : Tidy D) (k : Ky) : MR w F B (D.del (kI k)) (cutP k l) := by
  refine ⟨fun g r hg => ?_, fun g hg => ?_, ?_⟩
  · rw [findP_cut] at hg
    by_cases e : g = k
    · rw [if_pos e] at hg; cases hg
    · rw [if_neg e] at hg
      obtain ⟨h1, v, h2, h3⟩ := h.some_ g r hg
      exact ⟨by rw [has_del_other (key_ne e)]; exact h1, v, fun z => by rw [atKey_del_other (key_ne e)]; exact h2 z, h3⟩
  · rw [findP_cut] at hg
    by_cases e : g = k
    · subst e; rw [has_del_same]
    · rw [if_neg e] at hg
      rw [has_del_other (key_ne e), h.none_ g hg]
  · have h1 := size_del (k := kI k) hT
    have h2 := len_cut (k := k) hs
    rw [h.has k] at h1
    have := h.size
    omega
theorem MR.put {F : Nat → Prop} {w : World} {B : Nat} {D : DV} {l : List Pr} (h : MR w F B D l) (hs : SrtP l) (hT : Tidy D) (k : Ky) {v : Value} {r : List Int} (hv : RowF w F B v r) : MR w F B (D.put (kI k) (.held v)) (putP k r l) := by
  have ik := key_lit k
  refine ⟨fun g q hg => ?_, fun g hg => ?_, ?_⟩
  · rw [findP_put] at hg
    by_cases e : g = k
    · subst e
      rw [if_pos rfl] at hg
      cases hg
      exact ⟨by rw [has_put_same hT.isMap ik], v, fun z => by rw [atKey_put_same hT.isMap ik], hv⟩
    · rw [if_neg e] at hg
      obtain ⟨h1, u, h2, h3⟩ := h.some_ g q hg
      exact ⟨by rw [has_put_other (key_ne e)]; exact h1, u, fun z => by rw [atKey_put_other (key_ne e)]; exact h2 z, h3⟩
  · rw [findP_put] at hg
    by_cases e : g = k
    · rw [if_pos e] at hg; cases hg
    · rw [if_neg e] at hg
      rw [has_put_other (key_ne e), h.none_ g hg]
  · rw [size_put hT, h.has, h.size, len_put hs]
theorem own_tight {P : Program} {k : TypeId} {R : Value → Option (DV × List MemPlace)} {w : World} {b n : Nat} {D : DV} (h : w.ownsMap P k R b n D) : w.ownsMap P k R b (Maps.size D) D := by
  obtain ⟨es, clock, hb, Ft, hs, rfl⟩ := h
  exact ⟨es, clock, hb, Ft, by simp [Maps.size, length_sorted], rfl⟩
/-- Block b is a map that reads as these pairs. -/
def MapS (w : World) (F : Nat → Prop) (B b : Nat) (l : List Pr) : Prop := F b ∧ ∃ D : DV, w.ownsMap Try.prog tyK rdV b l.length D ∧ MR w F B D l
theorem MapS.of {F : Nat → Prop} {w : World} {B b n : Nat} {D : DV} {l : List Pr} (hF : F b) (h : w.ownsMap Try.prog tyK rdV b n D) (hm : MR w F B D l) : MapS w F B b l := ⟨hF, D, by rw [← hm.size]; exact own_tight h, hm⟩
theorem own_block_m {w w' : World} {b n : Nat} {D : DV} (h : w.ownsMap Try.prog tyK rdV b n D) (hb : w'.heap[b]? = w.heap[b]?) : w'.ownsMap Try.prog tyK rdV b n D := by
  obtain ⟨es, clock, h1, h2⟩ := h
  exact ⟨es, clock, hb.trans h1, h2⟩
theorem MapS.lt {F : Nat → Prop} {w : World} {B b : Nat} {l : List Pr} (h : MapS w F B b l) : b < w.heap.size := by
  obtain ⟨_, D, hd, _⟩ := h
  exact hd.lt
theorem MapS.noRow {F : Nat → Prop} {w : World} {B b : Nat} {l : List Pr} (h : MapS w F B b l) : NoRow w b := fun cs fr e => by
  obtain ⟨_, D, ⟨es, clock, h1, _⟩, _⟩ := h
  rw [h1] at e
  cases e
theorem MapS.tch {T F : Nat → Prop} {w w' : World} {B b : Nat} {l : List Pr} (h : MapS w F B b l) (ht : Tch T w w') (hb : ¬ T b) (hn : ∀ k, T k → F k → NoRow w k) : MapS w' F B b l := by
  obtain ⟨hF, D, hd, hm⟩ := h
  exact ⟨hF, D, own_block_m hd (ht.block b hd.lt hb), hm.tch ht hn⟩
theorem MapS.mono {F G : Nat → Prop} {w : World} {B b : Nat} {l : List Pr} (h : MapS w F B b l) (hG : ∀ k, F k → G k) : MapS w G B b l := by
  obtain ⟨hF, D, hd, hm⟩ := h
  exact ⟨hG b hF, D, hd, hm.mono hG⟩
theorem MapS.base {F : Nat → Prop} {w : World} {B B' b : Nat} {l : List Pr} (h : MapS w F B b l) (hb : B' ≤ B) : MapS w F B' b l := by
  obtain ⟨hF, D, hd, hm⟩ := h
  exact ⟨hF, D, hd, hm.base hb⟩
theorem MapS.new {F : Nat → Prop} (w : World) (B : Nat) (hF : F w.heap.size) : MapS (w.alloc (.map #[] 0)) F B w.heap.size [] := ⟨hF, _, World.ownsMap_made w _ _ _, MR.nil⟩
/-- A map that may be nil. -/
def MapO (w : World) (F : Nat → Prop) (B : Nat) (c : Option Nat) (l : List Pr) : Prop := match c with
  | none => l = []
  | some b => MapS w F B b l
theorem MapO.tch {T F : Nat → Prop} {w w' : World} {B : Nat} {c : Option Nat} {l : List Pr} (h : MapO w F B c l) (ht : Tch T w w') (hb : ∀ b, c = some b → ¬ T b) (hn : ∀ k, T k → F k → NoRow w k) : MapO w' F B c l := by
  cases c with
  | none => exact h
  | some b => exact MapS.tch h ht (hb b rfl) hn
theorem MapO.mono {F G : Nat → Prop} {w : World} {B : Nat} {c : Option Nat} {l : List Pr} (h : MapO w F B c l) (hG : ∀ k, F k → G k) : MapO w G B c l := by
  cases c with
  | none => exact h
  | some b => exact MapS.mono h hG
theorem MapO.base {F : Nat → Prop} {w : World} {B B' : Nat} {c : Option Nat} {l : List Pr} (h : MapO w F B c l) (hb : B' ≤ B) : MapO w F B' c l := by
  cases c with
  | none => exact h
  | some b => exact MapS.base h hb
/-- What a look-up hands over: the row's value. -/
def LookV (w : World) (F : Nat → Prop) (B : Nat) (k : Ky) (l : List Pr) (v : Value) : Prop := match findP k l with
  | some r => RowF w F B v r
  | none => v = .slice none 0 0
theorem rd_val {v : Value} {d : DV} {ps : List MemPlace} (h : rdV v = some (d, ps)) : d = .held v ∧ ∃ a n c, v = .slice a n c := by
  cases v <;> simp [rdV] at h
  exact ⟨h.1.symm, _, _, _, rfl⟩
theorem MR.at {F : Nat → Prop} {w : World} {B : Nat} {D : DV} {l : List Pr} (hm : MR w F B D l) {k : Ky} {v : Value} {ps : List MemPlace} (h : rdV v = some (D.atKey (kI k) (.held (.slice none 0 0)), ps)) : LookV w F B k l v := by
  have h1 := (rd_val h).1
  unfold LookV
  cases e : findP k l with
  | none =>
    rw [atKey_of_not_has (hm.none_ k e)] at h1
    simp only [DataW.held.injEq] at h1
    exact h1.symm
  | some r =>
    obtain ⟨_, u, h2, h3⟩ := hm.some_ k r e
    rw [h2] at h1
    simp only [DataW.held.injEq] at h1
    rw [← h1]
    exact h3
theorem MapO.look {F : Nat → Prop} {w : World} {B : Nat} {c : Option Nat} {l : List Pr} (h : MapO w F B c l) {k : Ky} (hk : k.length ≤ maxLen) : ∃ v, (∀ W : World, (∀ b, c = some b → W.heap[b]? = w.heap[b]?) → (Instr.lookup tyM (.map c) (encStr k) true).run Try.prog W = .ok (.tuple #[v, .bool (findP k l).isSome]) W) ∧ LookV w F B k l v := by
  cases c with
  | none =>
    have hl : l = [] := h
    subst hl
    exact ⟨.slice none 0 0, fun W _ => Maps.look_nil true lawK Try.underlying153 (zeroM W) (key_ok hk), rfl⟩
  | some b =>
    obtain ⟨_, D, hd, hm⟩ := h
    obtain ⟨v, ps, hr, hv⟩ := hd.look_ok (t := tyM) lawK Try.underlying153 (zeroM w) zeroR (key_ok hk)
    refine ⟨v, fun W hW => ?_, hm.at hv⟩
    have hdW := own_block_m hd (hW b rfl)
    obtain ⟨v2, ps2, hr2, hv2⟩ := hdW.look_ok (t := tyM) lawK Try.underlying153 (zeroM W) zeroR (key_ok hk)
    rw [hr2, hm.has k]
    have e1 := (rd_val hv).1
    have e2 := (rd_val hv2).1
    have e3 := e1.symm.trans e2
    simp only [DataW.held.injEq] at e3
    rw [e3]
theorem MapO.len {F : Nat → Prop} {w : World} {B : Nat} {c : Option Nat} {l : List Pr} (h : MapO w F B c l) (ty : TypeId) : ∀ W : World, (∀ b, c = some b → W.heap[b]? = w.heap[b]?) → (Builtin.len_ #[tyM] ty #[.map c]).run Try.prog W = .ok (.int .i64 (l.length : Nat)) W := by
  intro W hW
  cases c with
  | none =>
    have hl : l = [] := h
    subst hl
    exact Maps.len_nil Try.underlying153 ty
  | some b =>
    obtain ⟨_, D, hd, hm⟩ := h
    rw [(own_block_m hd (hW b rfl)).len (t := tyM) Try.underlying153 ty, hm.size]
theorem tch_turned {w w' : World} {b : Nat} (h : w.mapTurned w' b) : Tch (· = b) w w' := by
  have := tch_grown h.grown
  exact this.mono (fun k hk => by simpa using hk)
theorem size_turned {w w' : World} {b : Nat} (h : w.mapTurned w' b) : w'.heap.size = w.heap.size := by
  obtain ⟨es, clock, es', clock', hb, rfl⟩ := h
  simp [Go.ChangeMaps.setBlock]
theorem MapS.store {F : Nat → Prop} {w : World} {B b : Nat} {l : List Pr} (h : MapS w F B b l) (hs : SrtP l) (hn : l.length ≤ 67108864) {k : Ky} (hk : k.length ≤ maxLen) {a : Option Addr} {n c : Nat} {r : List Int} (hv : RowF w F B (.slice a n c) r) :
    ∃ w', (Instr.mapUpdate tyM (.map (some b)) (encStr k) (.slice a n c)).run Try.prog w = .ok () w' ∧ MapS w' F B b (putP k r l) ∧ Tch (· = b) w w' ∧ w'.heap.size = w.heap.size := by
  have hnr := h.noRow
  obtain ⟨hF, D, hown, hmr⟩ := h
  obtain ⟨w', hr, h1, h2⟩ := hown.store (t := tyM) lawK Try.underlying153 (by unfold maxLen; omega) (key_ok hk) (show rdV (.slice a n c) = some (.held (.slice a n c), []) from rfl)
  have ht := tch_turned h2
  refine ⟨w', hr, MapS.of hF h1 ?_, ht, size_turned h2⟩
  exact (hmr.put hs (hown.tidy lawK) k hv).tch ht (fun j hj _ => by subst hj; exact hnr)
theorem MapO.drop {F : Nat → Prop} {w : World} {B : Nat} {c : Option Nat} {l : List Pr} (h : MapO w F B c l) (hs : SrtP l) {k : Ky} (hk : k.length ≤ maxLen) (ty : TypeId) :
    ∃ w', (Builtin.delete_ #[tyM, tyK] ty #[.map c, encStr k]).run Try.prog w = .ok (.tuple #[]) w' ∧ MapO w' F B c (cutP k l) ∧ Tch (fun j => c = some j) w w' ∧ w'.heap.size = w.heap.size := by
  cases c with
  | none =>
    have hl : l = [] := h
    subst hl
    exact ⟨w, Maps.drop_nil lawK Try.underlying153 (key_ok hk) ty, rfl, Tch.refl _ _, rfl⟩
  | some b =>
    have hnr := MapS.noRow h
    obtain ⟨hF, D, hown, hmr⟩ := h
    obtain ⟨w', hr, h1, h2⟩ := hown.drop (t := tyM) lawK Try.underlying153 (key_ok hk) ty
    have ht := tch_turned h2
    refine ⟨w', hr, MapS.of hF h1 ?_, ht.mono (fun j hj => by rw [hj]), size_turned h2⟩
    exact (hmr.cut hs (hown.tidy lawK) k).tch ht (fun j hj _ => by subst hj; exact hnr)
/-- The keys of the map. -/
theorem MR.keys {F : Nat → Prop} {w : World} {B b n : Nat} {D : DV} {l : List Pr} (hm : MR w F B D l) (hd : w.ownsMap Try.prog tyK rdV b n D) (hs : SrtP l) : (strKeys D).mergeSort leB = l.map (·.k) := by
  have hsort : (l.map (·.k)).Pairwise (fun a b => leB a b = true) := by
    rw [List.pairwise_map]
    refine List.Pairwise.imp ?_ (show l.Pairwise (fun a b => a.k < b.k) from hs)
    intro a b h
    exact decide_eq_true (List.le_of_lt h)
  have hnd : (l.map (·.k)).Nodup := by
    rw [List.nodup_iff_pairwise_ne, List.pairwise_map]
    refine List.Pairwise.imp ?_ (show l.Pairwise (fun a b => a.k < b.k) from hs)
    intro a b h e
    exact ky_irr b.k (by rw [e] at h; exact h)
  obtain ⟨es, rfl, hap, hke⟩ := hd.entries lawK
  obtain ⟨es2, e2, hk2⟩ := hd.keysOf
  cases e2
  have hp : (l.map (·.k)).Perm (strKeys (.map es)) := by
    refine perm_strKeys hap (fun p hp => ?_) hnd (fun x => ?_)
    · obtain ⟨key, hkey⟩ := hk2 p hp
      obtain ⟨x, _, h1, _⟩ := Maps.keyOf_str Try.underlying9 hkey
      exact ⟨x, h1⟩
    · rw [hm.has x]
      constructor
      · intro h
        obtain ⟨e, he, rfl⟩ := List.mem_map.1 h
        rw [findP_of_mem hs he]; rfl
      · intro h
        obtain ⟨r, hr⟩ := Option.isSome_iff_exists.1 h
        exact List.mem_map.2 ⟨_, findP_mem hr, rfl⟩
  rw [← mergeSort_of_perm hp]
  exact List.mergeSort_of_pairwise hsort
end Go.Proofs.Ytbkpkakjfhkfaaa
