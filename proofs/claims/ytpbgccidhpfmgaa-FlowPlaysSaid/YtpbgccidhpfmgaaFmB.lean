/- A map from flows to entries: how it turns; the program's table in memory. No conditions but those stated. -/
import Derived.Test.YtpbgccidhpfmgaaFmA
namespace Go.Proofs.Ytpbgccidhpfmgaa
open Go Go.RowKit Go.Maps
set_option linter.unusedVariables false
set_option linter.unusedSimpArgs false

theorem cut_len {f : Fl} {l : List En} (hs : SrtE l) : (cutE f l).length + (if (findE f l).isSome then 1 else 0) = l.length := by
  induction l with
  | nil => rfl
  | cons a l ih =>
    have h1 := List.pairwise_cons.1 hs
    by_cases h : a.f = f
    · have h2 : cutE f l = l := cut_miss (findE_none.2 (fun e he e2 => ltF_irr _ (by have := h1.1 e he; rw [h, e2] at this; exact this)))
      have h3 : findE f (a :: l) = some a := by unfold findE; rw [List.find?_cons_of_pos (by simp [h])]
      have h4 : cutE f (a :: l) = cutE f l := by unfold cutE; rw [List.filter_cons_of_neg (by simp [h])]
      rw [h3, h4, h2]
      rfl
    · have h3 : findE f (a :: l) = findE f l := by unfold findE; rw [List.find?_cons_of_neg (by simp [h])]
      have h4 : cutE f (a :: l) = a :: cutE f l := by unfold cutE; rw [List.filter_cons_of_pos (by simp [h])]
      have := ih h1.2
      rw [h3, h4, List.length_cons, List.length_cons]
      omega
/-- A map reads as entries. -/
structure MR (D : DE) (l : List En) : Prop where
  look : ∀ f kl z, KeyAt f kl → D.atKey kl z = (match findE f l with | some e => .held e | none => z)
  has : ∀ f kl, KeyAt f kl → Maps.has D kl = (findE f l).isSome
  size : Maps.size D = l.length
theorem MR.nil : MR (.map []) [] := ⟨fun _ _ _ _ => rfl, fun _ _ _ => rfl, rfl⟩
theorem MR.cut {D : DE} {l : List En} (h : MR D l) (hs : SrtE l) (hT : Tidy D) {f : Fl} {kl : Lit} (hk : KeyAt f kl) : MR (D.del kl) (cutE f l) := by
  refine ⟨fun g kg z hg => ?_, fun g kg hg => ?_, ?_⟩
  · rw [findE_cut]
    by_cases e : g = f
    · subst e
      rw [if_pos rfl, hg.one hk, atKey_del_same]
    · rw [if_neg e, atKey_del_other (hk.ne hg e), h.look g kg z hg]
  · rw [findE_cut]
    by_cases e : g = f
    · subst e
      rw [if_pos rfl, hg.one hk, has_del_same]; rfl
    · rw [if_neg e, has_del_other (hk.ne hg e), h.has g kg hg]
  · have h1 := size_del (k := kl) hT
    have h2 := cut_len (f := f) hs
    rw [h.has f kl hk] at h1
    have := h.size
    omega
theorem MR.put {D : DE} {l m : List En} (h : MR D l) (hT : Tidy D) {x : En} {kl : Lit} (hk : KeyAt x.f kl) (hf : ∀ g, findE g m = if g = x.f then some x else findE g l) (hl : m.length = if (findE x.f l).isSome then l.length else l.length + 1) : MR (D.put kl (.held x)) m := by
  have ik : Go.WideAt.IsKeyLit kl := lawF.key hk
  refine ⟨fun g kg z hg => ?_, fun g kg hg => ?_, ?_⟩
  · rw [hf]
    by_cases e : g = x.f
    · subst e
      rw [if_pos rfl, hg.one hk, atKey_put_same hT.isMap ik]
    · rw [if_neg e, atKey_put_other (hk.ne hg e), h.look g kg z hg]
  · rw [hf]
    by_cases e : g = x.f
    · subst e
      rw [if_pos rfl, hg.one hk, has_put_same hT.isMap ik]; rfl
    · rw [if_neg e, has_put_other (hk.ne hg e), h.has g kg hg]
  · rw [size_put hT, h.has _ _ hk, h.size, hl]
/-- Block b is a map that reads as these entries. -/
def MapS (w : World) (b : Nat) (l : List En) : Prop := ∃ D : DE, w.ownsMap Try.prog tyF rdE b l.length D ∧ MR D l
theorem own_tight {P : Program} {k : TypeId} {R : Value → Option (DE × List MemPlace)} {w : World} {b n : Nat} {D : DE} (h : w.ownsMap P k R b n D) : w.ownsMap P k R b (Maps.size D) D := by
  obtain ⟨es, clock, hb, F, hs, rfl⟩ := h
  exact ⟨es, clock, hb, F, by simp [Maps.size, length_sorted], rfl⟩
theorem MapS.of {w : World} {b n : Nat} {D : DE} {l : List En} (h : w.ownsMap Try.prog tyF rdE b n D) (hm : MR D l) : MapS w b l := ⟨D, by rw [← hm.size]; exact own_tight h, hm⟩
theorem MapS.block {w w' : World} {b : Nat} {l : List En} (h : MapS w b l) (hb : w'.heap[b]? = w.heap[b]?) : MapS w' b l := by
  obtain ⟨D, ⟨es, clock, h1, h2⟩, hm⟩ := h
  exact ⟨D, ⟨es, clock, hb.trans h1, h2⟩, hm⟩
theorem MapS.lt {w : World} {b : Nat} {l : List En} (h : MapS w b l) : b < w.heap.size := by
  obtain ⟨D, hd, _⟩ := h
  exact hd.lt
theorem MapS.obj {w : World} {b : Nat} {l : List En} (h : MapS w b l) : ∃ es clock, w.heap[b]? = some (.map es clock) := by
  obtain ⟨D, ⟨es, clock, h1, h2⟩, hm⟩ := h
  exact ⟨es, clock, h1⟩
theorem MapS.new (w : World) : MapS (w.alloc (.map #[] 0)) w.heap.size [] := ⟨_, World.ownsMap_made w _ _ _, MR.nil⟩
theorem MapS.tch {T : Nat → Prop} {w w' : World} {b : Nat} {l : List En} (h : MapS w b l) (ht : Tch T w w') (hn : ¬ T b) : MapS w' b l := h.block (ht.block b h.lt hn)
theorem rd_is {D : DE} {l : List En} (hm : MR D l) {f : Fl} {kl : Lit} (hk : KeyAt f kl) {v : Value} {ps : List MemPlace} (h : rdE v = some (D.atKey kl (.held en0), ps)) : v = ((findE f l).getD en0).val := by
  obtain ⟨e, rfl, h2⟩ := rdE_inv h
  rw [hm.look f kl _ hk] at h2
  cases hf : findE f l with
  | none => rw [hf] at h2; simp only [Prod.mk.injEq, DataW.held.injEq] at h2; rw [← h2.1]; rfl
  | some x => rw [hf] at h2; simp only [Prod.mk.injEq, DataW.held.injEq] at h2; rw [← h2.1]; rfl
theorem MapS.look {w : World} {b : Nat} {l : List En} (h : MapS w b l) {f : Fl} (hf : FitF f) : (Instr.lookup tyM (.map (some b)) f.val true).run Try.prog w = .ok (.tuple #[((findE f l).getD en0).val, .bool (findE f l).isSome]) w := by
  obtain ⟨D, hown, hm⟩ := h
  obtain ⟨kl, hk⟩ := keyF hf
  obtain ⟨v, ps, hr, hv⟩ := hown.look_ok (t := tyM) lawF Try.underlying106 (zeroM w) (rdE_val en0) hk
  rw [hr, rd_is hm hk hv, hm.has f kl hk]
theorem MapS.get {w : World} {b : Nat} {l : List En} (h : MapS w b l) {f : Fl} (hf : FitF f) : (Instr.lookup tyM (.map (some b)) f.val false).run Try.prog w = .ok ((findE f l).getD en0).val w := by
  obtain ⟨D, hown, hm⟩ := h
  obtain ⟨kl, hk⟩ := keyF hf
  obtain ⟨v, ps, hr, hv⟩ := hown.lookup (t := tyM) lawF Try.underlying106 (zeroM w) (rdE_val en0) hk
  rw [hr, rd_is hm hk hv]
theorem MapS.len {w : World} {b : Nat} {l : List En} (h : MapS w b l) (ty : TypeId) : (Builtin.len_ #[tyM] ty #[.map (some b)]).run Try.prog w = .ok (.int .i64 (l.length : Nat)) w := by
  obtain ⟨D, hown, hm⟩ := h
  rw [hown.len (t := tyM) Try.underlying106 ty, hm.size]
theorem tch_turned {w w' : World} {b : Nat} (h : w.mapTurned w' b) : Tch (· = b) w w' := by
  have := tch_grown h.grown
  exact this.mono (fun k hk => by simpa using hk)
theorem MapS.store {w : World} {b : Nat} {l m : List En} (h : MapS w b l) (hn : l.length ≤ 1048576) {x : En} (hf : FitF x.f) (hm : ∀ g, findE g m = if g = x.f then some x else findE g l) (hl : m.length = if (findE x.f l).isSome then l.length else l.length + 1) :
    ∃ w', (Instr.mapUpdate tyM (.map (some b)) x.f.val x.val).run Try.prog w = .ok () w' ∧ MapS w' b m ∧ Tch (· = b) w w' ∧ w'.heap.size = w.heap.size := by
  obtain ⟨D, hown, hmr⟩ := h
  obtain ⟨kl, hk⟩ := keyF hf
  obtain ⟨w', hr, h1, h2⟩ := hown.store (t := tyM) lawF Try.underlying106 (by unfold maxLen; omega) hk (rdE_val x)
  refine ⟨w', hr, MapS.of h1 (hmr.put (hown.tidy lawF) hk hm hl), tch_turned h2, ?_⟩
  obtain ⟨es, clock, es', clock', hb, rfl⟩ := h2
  simp [Go.ChangeMaps.setBlock]
theorem MapS.drop {w : World} {b : Nat} {l : List En} (h : MapS w b l) (hs : SrtE l) {f : Fl} (hf : FitF f) (ty : TypeId) :
    ∃ w', (Builtin.delete_ #[tyM, tyF] ty #[.map (some b), f.val]).run Try.prog w = .ok (.tuple #[]) w' ∧ MapS w' b (cutE f l) ∧ Tch (· = b) w w' ∧ w'.heap.size = w.heap.size := by
  obtain ⟨D, hown, hmr⟩ := h
  obtain ⟨kl, hk⟩ := keyF hf
  obtain ⟨w', hr, h1, h2⟩ := hown.drop (t := tyM) lawF Try.underlying106 hk ty
  refine ⟨w', hr, MapS.of h1 (hmr.cut hs (hown.tidy lawF) hk), tch_turned h2, ?_⟩
  obtain ⟨es, clock, es', clock', hb, rfl⟩ := h2
  simp [Go.ChangeMaps.setBlock]
/-- The table in memory. -/
abbrev tbl (qt qu : Int) (b : Nat) (n : Nat) : Obj := .cells #[.int .i64 qt, .int .i64 qu, .map (some b), .int .i64 (n : Int)] tyT
def TbAt (w : World) (p : Nat) (qt qu : Int) (b n : Nat) : Prop := w.heap[p]? = some (tbl qt qu b n)
theorem TbAt.cs {w : World} {p : Nat} {qt qu : Int} {b n : Nat} (h : TbAt w p qt qu b n) : w.cell? ⟨p, 0, none⟩ = some (.int .i64 qt) ∧ w.cell? ⟨p, 1, none⟩ = some (.int .i64 qu) ∧ w.cell? ⟨p, 2, none⟩ = some (.map (some b)) ∧ w.cell? ⟨p, 3, none⟩ = some (.int .i64 (n : Int)) := by
  have h2 : w.heap[p]? = some (.cells #[.int .i64 qt, .int .i64 qu, .map (some b), .int .i64 (n : Int)] tyT (0, 0)) := h
  refine ⟨?_, ?_, ?_, ?_⟩ <;> (rw [cell_of_row w p _ _ _ _ h2]; rfl)
theorem TbAt.free {w : World} {p : Nat} {qt qu : Int} {b n : Nat} (h : TbAt w p qt qu b n) (o : Nat) : w.frozen? ⟨p, o, none⟩ = false := frozen_of_row w p o _ _ h
theorem TbAt.tch {T : Nat → Prop} {w w' : World} {p : Nat} {qt qu : Int} {b n : Nat} (h : TbAt w p qt qu b n) (ht : Tch T w w') (hn : ¬ T p) : TbAt w' p qt qu b n := ht.at h hn
theorem TbAt.lt {w : World} {p : Nat} {qt qu : Int} {b n : Nat} (h : TbAt w p qt qu b n) : p < w.heap.size := lt_of_block h
theorem TbAt.set {w : World} {p : Nat} {qt qu : Int} {b n m : Nat} (h : TbAt w p qt qu b n) : TbAt (w.setCell ⟨p, 3, none⟩ (.int .i64 (m : Int))) p qt qu b m := by
  have h2 : w.heap[p]? = some (.cells #[.int .i64 qt, .int .i64 qu, .map (some b), .int .i64 (n : Int)] tyT (0, 0)) := h
  have := put_row (i := 3) h2 (.int .i64 (m : Int))
  unfold TbAt
  simpa using this
/-- A table of the program's. -/
structure TSt (w : World) (B : Nat) (F : Nat → Prop) (p : Nat) (qt qu : Int) (l : List En) : Prop where
  srt : SrtE l
  fit : ∀ e ∈ l, FitE e
  quota : OkQ qt ∧ OkQ qu
  here : F p
  blocks : ∀ k, F k → B ≤ k ∧ k < w.heap.size
  map : ∃ b, F b ∧ b ≠ p ∧ TbAt w p qt qu b (trE l) ∧ MapS w b l
theorem TSt.keep {T : Nat → Prop} {w w' : World} {B p : Nat} {F : Nat → Prop} {qt qu : Int} {l : List En} (h : TSt w B F p qt qu l) (ht : Tch T w w') (hn : ∀ k, F k → ¬ T k) : TSt w' B F p qt qu l := by
  obtain ⟨b, hb, hne, hc, hm⟩ := h.map
  exact ⟨h.srt, h.fit, h.quota, h.here, fun k hk => ⟨(h.blocks k hk).1, Nat.lt_of_lt_of_le (h.blocks k hk).2 ht.size⟩, b, hb, hne, hc.tch ht (hn p h.here), hm.tch ht (hn b hb)⟩
theorem TSt.base {w : World} {B B' p : Nat} {F : Nat → Prop} {qt qu : Int} {l : List En} (h : TSt w B F p qt qu l) (hb : B' ≤ B) : TSt w B' F p qt qu l := ⟨h.srt, h.fit, h.quota, h.here, fun k hk => ⟨Nat.le_trans hb (h.blocks k hk).1, (h.blocks k hk).2⟩, h.map⟩
/-- It has turned. -/
theorem TSt.set {w w' : World} {B p b : Nat} {F : Nat → Prop} {qt qu : Int} {l m : List En} (h : TSt w B F p qt qu l) (hF : F b) (hne : b ≠ p) (ht : Tch (fun k => k = b ∨ k = p) w w') (hs : SrtE m) (hf : ∀ e ∈ m, FitE e) (hc : TbAt w' p qt qu b (trE m)) (hm : MapS w' b m) : TTo TSt w B F p qt qu m w' :=
  ⟨F, ⟨hs, hf, h.quota, h.here, fun k hk => ⟨(h.blocks k hk).1, Nat.lt_of_lt_of_le (h.blocks k hk).2 ht.size⟩, b, hF, hne, hc, hm⟩, fun k hk => .inl hk, ht.mono (fun k hk => by rcases hk with rfl | rfl; exact hF; exact h.here)⟩
theorem TSt.stay {w w' : World} {B p : Nat} {F : Nat → Prop} {qt qu : Int} {l : List En} (h : TSt w B F p qt qu l) (hb : Below w.heap.size w w') : TTo TSt w B F p qt qu l w' :=
  ⟨F, h.keep (tch_new hb) (fun _ _ h => h), fun k hk => .inl hk, (tch_new hb).mono (fun _ h => h.elim)⟩
theorem trE_le (l : List En) : trE l ≤ l.length := by have := tr_un l; omega
end Go.Proofs.Ytpbgccidhpfmgaa
