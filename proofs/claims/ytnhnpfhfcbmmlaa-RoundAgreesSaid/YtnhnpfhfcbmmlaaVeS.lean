/- What a voter does to its store, plainly: older pairs out, new ones in, or all as it was; pairs in memory. No conditions but those stated. takeOut: what stands under the pairs' keys is taken out of the store, and told. Conditions: those stated. put and save: pairs into the store, all or none. Conditions: those stated. save: pairs put into the store and synced, or all as it was. Conditions: those stated. -/
import Derived.Test.YtnhnpfhfcbmmlaaVdL
namespace Go.Proofs.Ytnhnpfhfcbmmlaa
open Go Go.RowKit
set_option linter.unusedVariables false
set_option linter.unusedSimpArgs false

def keysP (ps : List Pr) : List Ky := ps.map (·.k)
def hitP (k : Ky) (l : List Pr) : List Pr := match findP k l with
  | some r => [⟨k, r⟩]
  | none => []
def olderP : List Pr → List Pr → List Pr
  | [], _ => []
  | e :: ps, l => hitP e.k l ++ olderP ps (cutP e.k l)
theorem olderP_snoc (ps : List Pr) (e : Pr) (l : List Pr) : olderP (ps ++ [e]) l = olderP ps l ++ hitP e.k (dropP (keysP ps) l) := by
  induction ps generalizing l with
  | nil => simp [olderP, keysP, dropP]
  | cons a ps ih =>
    simp only [List.cons_append, olderP]
    rw [ih, List.append_assoc]
    rfl
theorem dropP_snoc (ps : List Pr) (e : Pr) (l : List Pr) : dropP (keysP (ps ++ [e])) l = cutP e.k (dropP (keysP ps) l) := by
  unfold keysP
  rw [List.map_append, List.map_singleton]
  exact dropP_app _ _ _
def putsP (size : Int) : List Pr → List Pr → Nat × List Pr
  | [], l => (0, l)
  | e :: ps, l => if putN size e.k e.b l = 0 then putsP size ps (putP e.k e.b l) else (putN size e.k e.b l, l)
/-- The store behind a save, and its answer. -/
def saveP (size : Int) (ps l : List Pr) : Nat × List Pr :=
  if (putsP size ps (dropP (keysP ps) l)).1 = 0 then (0, (putsP size ps (dropP (keysP ps) l)).2) else ((putsP size ps (dropP (keysP ps) l)).1, l)
theorem find_drop (ks : List Ky) (g : Ky) (l : List Pr) : findP g (dropP ks l) = if g ∈ ks then none else findP g l := by
  induction ks generalizing l with
  | nil => simp [dropP]
  | cons k ks ih =>
    show findP g (dropP ks (cutP k l)) = _
    rw [ih, findP_cut]
    by_cases h1 : g ∈ ks
    · rw [if_pos h1, if_pos (List.mem_cons_of_mem _ h1)]
    · rw [if_neg h1]
      by_cases h2 : g = k
      · rw [if_pos h2, if_pos (by rw [h2]; exact List.mem_cons_self)]
      · rw [if_neg h2, if_neg (fun h => (List.mem_cons.1 h).elim h2 h1)]
theorem srt_puts (size : Int) (ps : List Pr) {l : List Pr} (h : SrtP l) : SrtP (putsP size ps l).2 := by
  induction ps generalizing l with
  | nil => exact h
  | cons e ps ih =>
    unfold putsP
    split
    · exact ih (srt_put h)
    · exact h
theorem find_puts_other (size : Int) (ps : List Pr) (l : List Pr) {g : Ky} (hg : g ∉ keysP ps) : findP g (putsP size ps l).2 = findP g l := by
  induction ps generalizing l with
  | nil => rfl
  | cons e ps ih =>
    have h1 : g ≠ e.k := fun h => hg (by rw [h]; exact List.mem_cons_self)
    have h2 : g ∉ keysP ps := fun h => hg (List.mem_cons_of_mem _ h)
    unfold putsP
    split
    · rw [ih _ h2, findP_put, if_neg h1]
    · rfl
theorem find_puts_in (size : Int) (ps : List Pr) (l : List Pr) (hn : (keysP ps).Nodup) (h0 : (putsP size ps l).1 = 0) : ∀ e ∈ ps, findP e.k (putsP size ps l).2 = some e.b := by
  induction ps generalizing l with
  | nil => intro e he; cases he
  | cons a ps ih =>
    have hn2 : a.k ∉ keysP ps ∧ (keysP ps).Nodup := List.nodup_cons.1 hn
    unfold putsP at h0 ⊢
    by_cases hp : putN size a.k a.b l = 0
    · rw [if_pos hp] at h0 ⊢
      intro e he
      rcases List.mem_cons.1 he with rfl | he
      · rw [find_puts_other size ps _ hn2.1, findP_put, if_pos rfl]
      · exact ih _ hn2.2 h0 e he
    · rw [if_neg hp] at h0
      exact absurd h0 hp
theorem drop_puts (size : Int) (ps : List Pr) {l : List Pr} (h : SrtP l) : dropP (keysP ps) (putsP size ps l).2 = dropP (keysP ps) l := by
  refine pr_ext (srt_drop _ (srt_puts size ps h)) (srt_drop _ h) (fun k => ?_)
  rw [find_drop, find_drop]
  by_cases hk : k ∈ keysP ps
  · rw [if_pos hk, if_pos hk]
  · rw [if_neg hk, if_neg hk, find_puts_other size ps l hk]
theorem drop_drop (ks : List Ky) {l : List Pr} (h : SrtP l) : dropP ks (dropP ks l) = dropP ks l := by
  refine pr_ext (srt_drop _ (srt_drop _ h)) (srt_drop _ h) (fun k => ?_)
  rw [find_drop, find_drop]
  split <;> rfl
theorem used_cutv_le (k : Ky) (l : List Pr) : usedP (cutP k l) ≤ usedP l := by
  have := used_drop_le [k] l
  exact this
/-- What was taken out finds room again. -/
theorem restore (size : Int) (ps : List Pr) {l : List Pr} (hs : SrtP l) (ho : ∀ e ∈ l, OkP e) (hu : (usedP l : Int) ≤ size) (hn : (keysP ps).Nodup) : putsP size (olderP ps l) (dropP (keysP ps) l) = (0, l) := by
  induction ps generalizing l with
  | nil => rfl
  | cons a ps ih =>
    have hn2 : a.k ∉ keysP ps ∧ (keysP ps).Nodup := List.nodup_cons.1 hn
    have e1 : dropP (keysP (a :: ps)) l = dropP (keysP ps) (cutP a.k l) := rfl
    have hold : olderP ps (cutP a.k l) = olderP ps l := by
      clear ih hn e1
      obtain ⟨h1, h2⟩ := hn2
      have key : ∀ (qs : List Pr) (x y : List Pr), (∀ g ∈ keysP qs, findP g x = findP g y) → (keysP qs).Nodup → olderP qs x = olderP qs y := by
        intro qs
        induction qs with
        | nil => intro x y _ _; rfl
        | cons q qs ih =>
          intro x y hxy hnd
          have hnd2 : q.k ∉ keysP qs ∧ (keysP qs).Nodup := List.nodup_cons.1 hnd
          have e2 : hitP q.k x = hitP q.k y := by unfold hitP; rw [hxy q.k List.mem_cons_self]
          simp only [olderP]
          rw [e2]
          congr 1
          refine ih _ _ (fun g hg => ?_) hnd2.2
          rw [findP_cut, findP_cut, hxy g (List.mem_cons_of_mem _ hg)]
      refine key ps _ _ (fun g hg => ?_) h2
      rw [findP_cut, if_neg (fun e => h1 (by rw [← e]; exact hg))]
    simp only [olderP]
    rw [e1, hold]
    unfold hitP
    cases hf : findP a.k l with
    | none =>
      rw [cut_miss (findP_none.1 hf)]
      exact ih hs ho hu hn2.2
    | some r =>
      have hput : putP a.k r (dropP (keysP ps) (cutP a.k l)) = dropP (keysP ps) l := by
        refine pr_ext (srt_put (srt_drop _ (srt_cut hs))) (srt_drop _ hs) (fun g => ?_)
        rw [findP_put, find_drop, find_drop, findP_cut]
        by_cases h1 : g = a.k
        · rw [if_pos h1, if_neg (by rw [h1]; exact hn2.1), h1, hf]
        · rw [if_neg h1, if_neg h1]
      have hok := (ho _ (findP_mem hf)).k
      have hN : putN size a.k r (dropP (keysP ps) (cutP a.k l)) = 0 := by
        unfold putN
        rw [if_pos hok, if_neg]
        have h1 := used_cutv_le a.k (dropP (keysP ps) (cutP a.k l))
        have h2 := used_drop_le (keysP ps) (cutP a.k l)
        have h3 := used_cut (k := a.k) hs
        unfold sizeAt at h3
        rw [hf] at h3
        simp only at h3
        omega
      show putsP size (⟨a.k, r⟩ :: olderP ps l) _ = _
      unfold putsP
      rw [if_pos hN, hput]
      exact ih hs ho hu hn2.2
theorem older_ok (ps : List Pr) {l : List Pr} (ho : ∀ e ∈ l, OkP e) : ∀ e ∈ olderP ps l, OkP e := by
  induction ps generalizing l with
  | nil => intro e he; cases he
  | cons a ps ih =>
    intro e he
    simp only [olderP, List.mem_append] at he
    rcases he with he | he
    · unfold hitP at he
      split at he
      · rename_i r hf
        rw [List.mem_singleton] at he
        rw [he]
        exact ho _ (findP_mem hf)
      · cases he
    · exact ih (ok_cut ho) e he
theorem older_sz (ps : List Pr) {l : List Pr} {N : Nat} (ho : ∀ e ∈ l, e.b.length ≤ N) : ∀ e ∈ olderP ps l, e.b.length ≤ N := by
  induction ps generalizing l with
  | nil => intro e he; cases he
  | cons a ps ih =>
    intro e he
    simp only [olderP, List.mem_append] at he
    rcases he with he | he
    · unfold hitP at he
      split at he
      · rename_i r hf
        rw [List.mem_singleton] at he
        rw [he]
        exact ho _ (findP_mem hf)
      · cases he
    · exact ih (fun e he => ho e (cut_sub e he)) e he
theorem older_len (ps l : List Pr) : (olderP ps l).length ≤ ps.length := by
  induction ps generalizing l with
  | nil => exact Nat.le_refl _
  | cons a ps ih =>
    simp only [olderP, List.length_append, List.length_cons]
    have h1 : (hitP a.k l).length ≤ 1 := by unfold hitP; split <;> simp
    have := ih (cutP a.k l)
    omega
/-! ### Pairs in memory -/
abbrev tyPr : TypeId := 144
theorem infoPr : (Try.prog.info? 144).map (fun i => (i.zero, i.size, i.bytes)) = some (some (.agg #[.string ⟨#[]⟩, .slice none 0 0]), 2, 40) := by kernel_rfl
def Pr.cs (e : Pr) (v : Value) : List Value := [sv e.k, v]
def cellsPr : List Pr → List Value → List Value
  | l :: ls, v :: vs => l.cs v ++ cellsPr ls vs
  | _, _ => []
theorem cellsPr_len : ∀ {ls : List Pr} {vs : List Value}, vs.length = ls.length → (cellsPr ls vs).length = ls.length * 2
  | [], [], _ => rfl
  | l :: ls, v :: vs, h => by
    have := cellsPr_len (ls := ls) (vs := vs) (by simpa using h)
    simp only [cellsPr, Pr.cs, List.length_append, List.length_cons, List.length_nil, this]
    omega
  | [], _ :: _, h => by simp at h
  | _ :: _, [], h => by simp at h
theorem cellsPr_app : ∀ {ls : List Pr} {vs : List Value}, vs.length = ls.length → ∀ {ms : List Pr} {us : List Value}, cellsPr (ls ++ ms) (vs ++ us) = cellsPr ls vs ++ cellsPr ms us
  | [], [], _, _, _ => rfl
  | l :: ls, v :: vs, h, ms, us => by
    have := cellsPr_app (ls := ls) (vs := vs) (by simpa using h) (ms := ms) (us := us)
    simp only [List.cons_append, cellsPr, this, List.append_assoc]
  | [], _ :: _, h, _, _ => by simp at h
  | _ :: _, [], h, _, _ => by simp at h
theorem cellsPr_one (l : Pr) (v : Value) : cellsPr [l] [v] = l.cs v := by simp [cellsPr]
theorem cellsPr_at : ∀ {ls : List Pr} {vs : List Value}, vs.length = ls.length → ∀ {j i : Nat}, j < ls.length → i < 2 → (cellsPr ls vs)[j * 2 + i]? = ((ls.getD j pr0).cs (vs.getD j undef))[i]?
  | [], [], _, j, i, hj, _ => by simp at hj
  | l :: ls, v :: vs, h, 0, i, _, hi => by
    simp only [cellsPr, Nat.zero_mul, Nat.zero_add, List.getD_cons_zero]
    exact List.getElem?_append_left (by simp [Pr.cs]; omega)
  | l :: ls, v :: vs, h, j + 1, i, hj, hi => by
    have := cellsPr_at (ls := ls) (vs := vs) (by simpa using h) (j := j) (i := i) (by simpa using hj) hi
    simp only [cellsPr, List.getD_cons_succ]
    rw [List.getElem?_append_right (by simp [Pr.cs]; omega), ← this]
    congr 1
    simp [Pr.cs]
    omega
  | [], _ :: _, h, _, _, _, _ => by simp at h
  | _ :: _, [], h, _, _, _, _ => by simp at h
/-- Pairs that can be read, in blocks K. -/
structure PsIn (w : World) (K : Nat → Prop) (a : Option Addr) (n c : Nat) (ps : List Pr) (vs : List Value) : Prop where
  len : ps.length = n
  vlen : vs.length = ps.length
  room : n ≤ c
  here : ps = [] ∨ ∃ b off, a = some ⟨b, off, .none⟩ ∧ K b ∧ ∀ t u, (cellsPr ps vs)[t]? = some u → w.cell? ⟨b, off + t, .none⟩ = some u
  rows : ∀ j, j < n → ∃ ao k cc, vs.getD j undef = .slice ao k cc ∧ In w ao k cc (ps.getD j pr0).b ∧ ∀ ad, ao = some ad → 0 < k → K ad.block
theorem PsIn.kpt {K : Nat → Prop} {w w' : World} {a : Option Addr} {n c : Nat} {ps : List Pr} {vs : List Value} (h : PsIn w K a n c ps vs) (hk : Kpt K w w') : PsIn w' K a n c ps vs := by
  refine ⟨h.len, h.vlen, h.room, ?_, fun j hj => ?_⟩
  · rcases h.here with h0 | ⟨b, off, ha, hb, hc⟩
    · exact .inl h0
    · exact .inr ⟨b, off, ha, hb, fun t u hu => hk.cell (hc t u hu) hb⟩
  · obtain ⟨ao, k, cc, e, hI, hK⟩ := h.rows j hj
    exact ⟨ao, k, cc, e, hI.kpt hk hK, hK⟩
theorem PsIn.more {K K2 : Nat → Prop} {w : World} {a : Option Addr} {n c : Nat} {ps : List Pr} {vs : List Value} (h : PsIn w K a n c ps vs) (hk : ∀ k, K k → K2 k) : PsIn w K2 a n c ps vs := by
  refine ⟨h.len, h.vlen, h.room, ?_, fun j hj => ?_⟩
  · rcases h.here with h0 | ⟨b, off, ha, hb, hc⟩
    · exact .inl h0
    · exact .inr ⟨b, off, ha, hk _ hb, hc⟩
  · obtain ⟨ao, k, cc, e, hI, hK⟩ := h.rows j hj
    exact ⟨ao, k, cc, e, hI, fun ad e2 h2 => hk _ (hK ad e2 h2)⟩
theorem PsIn.block {w : World} {K : Nat → Prop} {a : Option Addr} {n c : Nat} {ps : List Pr} {vs : List Value} (h : PsIn w K a n c ps vs) (hn : 0 < n) : ∃ b off, a = some ⟨b, off, .none⟩ ∧ K b := by
  rcases h.here with h0 | ⟨b, off, ha, hb, _⟩
  · have := h.len; rw [h0] at this; simp at this; omega
  · exact ⟨b, off, ha, hb⟩
theorem PsIn.cell {w : World} {K : Nat → Prop} {b off n c : Nat} {ps : List Pr} {vs : List Value} (h : PsIn w K (some ⟨b, off, .none⟩) n c ps vs) {j : Nat} (hj : j < n) : w.cell? ⟨b, off + j * 2, .none⟩ = some (sv (ps.getD j pr0).k) ∧ w.cell? ⟨b, off + j * 2 + 1, .none⟩ = some (vs.getD j undef) := by
  have hl := h.len
  rcases h.here with h0 | ⟨b', off', ha, _, hc⟩
  · rw [h0] at hl; simp at hl; omega
  · cases ha
    have g0 := hc (j * 2 + 0) (sv (ps.getD j pr0).k) (by rw [cellsPr_at h.vlen (by omega) (by omega)]; rfl)
    have g1 := hc (j * 2 + 1) (vs.getD j undef) (by rw [cellsPr_at h.vlen (by omega) (by omega)]; rfl)
    exact ⟨g0, by rw [Nat.add_assoc]; exact g1⟩
theorem memPr {ps : List Pr} {i : Nat} (hi : i < ps.length) : ps.getD i pr0 ∈ ps := by
  rw [List.getD_eq_getElem?_getD, List.getElem?_eq_getElem hi]
  exact List.getElem_mem _
theorem take_morePr (ps : List Pr) {i : Nat} (hi : i < ps.length) : ps.take (i + 1) = ps.take i ++ [ps.getD i pr0] := take_more ps pr0 hi
/-- The store is left alone by what writes blocks of K; new blocks may be taken into K. -/
theorem SOn.wgrow {w0 w w' : World} {p : Nat} {size : Int} {l m : List Pr} {K T : Nat → Prop} (h : SOn w0 w p size l m K) (ht : Tch T w w') (hT : ∀ k, T k → K k ∧ w0.heap.size ≤ k) : SOn w0 w' p size l m (fun k => K k ∨ (w.heap.size ≤ k ∧ k < w'.heap.size)) := by
  obtain ⟨F, hst, hK⟩ := h.st
  refine ⟨⟨F, hst.keep ht (fun k hF hT2 => hK k (hT k hT2).1 hF), fun k hk hF => ?_⟩, h.bel.trans (ht.below (fun k hk => (hT k hk).2) h.bel.size), fun k hk => ?_⟩
  · rcases hk with hk | hk
    · exact hK k hk hF
    · have := (hst.blocks k hF).2; omega
  · rcases hk with hk | hk
    · exact Nat.lt_of_lt_of_le (h.lt k hk) ht.size
    · exact hk.2
end Go.Proofs.Ytnhnpfhfcbmmlaa
namespace Go.Proofs.Ytnhnpfhfcbmmlaa
open Go Go.RowKit
set_option linter.unusedVariables false
set_option linter.unusedSimpArgs false

theorem pr_new (w : World) (e : Pr) (v : Value) : ∀ j u, (e.cs v)[j]? = some u → (w.alloc (.cells #[sv e.k, v] tyPr)).cell? ((⟨w.heap.size, 0, none⟩ : Addr).add j) = some u := by
  intro j u hu
  rw [Go.WideShapes.add_plain, World.cell?_alloc_mark, Nat.zero_add]
  have : (#[sv e.k, v] : Array Value) = (e.cs v).toArray := rfl
  rw [this, List.getElem?_toArray]
  exact hu
/-- Older pairs in a row of the call's own. -/
structure OlP (w : World) (B : Nat) (K : Nat → Prop) (ao : Option Addr) (c : Nat) (ps : List Pr) (vs : List Value) : Prop where
  own : w.ownsRow B tyPr 2 (.slice ao ps.length c) ps.length (cellsPr ps vs)
  vlen : vs.length = ps.length
  blk : ∀ g, (Value.slice ao ps.length c).ownBlock = some g → K g
  rows : ∀ j, j < ps.length → ∃ a2 c2, vs.getD j undef = .slice a2 (ps.getD j pr0).b.length c2 ∧ w.ownsRow B 5 1 (.slice a2 (ps.getD j pr0).b.length c2) (ps.getD j pr0).b.length (u8s (ps.getD j pr0).b) ∧ ∀ g, (Value.slice a2 (ps.getD j pr0).b.length c2).ownBlock = some g → K g
theorem olP_nil (w : World) (B : Nat) (K : Nat → Prop) : OlP w B K none 0 [] [] := ⟨⟨rfl, .inl ⟨rfl, rfl⟩⟩, rfl, (fun g hg => by cases hg), fun j hj => absurd hj (Nat.not_lt_zero j)⟩
theorem OlP.kpt {w w' : World} {B c : Nat} {K : Nat → Prop} {ao : Option Addr} {ps : List Pr} {vs : List Value} (h : OlP w B K ao c ps vs) (hk : Kpt K w w') : OlP w' B K ao c ps vs := by
  have go : ∀ {e : TypeId} {size n : Nat} {v : Value} {xs : List Value}, w.ownsRow B e size v n xs → (∀ g, v.ownBlock = some g → K g) → w'.ownsRow B e size v n xs := by
    intro e size n v xs ho hb
    refine ⟨ho.1, ?_⟩
    rcases ho.2 with h0 | ⟨g, cap, cur, hv, h1, h2, h3⟩
    · exact .inl h0
    · exact .inr ⟨g, cap, cur, hv, h1, (hk g (hb g (by rw [hv]; rfl))).trans h2, h3⟩
  exact ⟨go h.own h.blk, h.vlen, h.blk, fun j hj => by
    obtain ⟨a2, c2, e, ho, hb⟩ := h.rows j hj
    exact ⟨a2, c2, e, go ho hb, hb⟩⟩
theorem OlP.more {w : World} {B c : Nat} {K K2 : Nat → Prop} {ao : Option Addr} {ps : List Pr} {vs : List Value} (h : OlP w B K ao c ps vs) (hk : ∀ k, K k → K2 k) : OlP w B K2 ao c ps vs :=
  ⟨h.own, h.vlen, fun g hg => hk g (h.blk g hg), fun j hj => by
    obtain ⟨a2, c2, e, ho, hb⟩ := h.rows j hj
    exact ⟨a2, c2, e, ho, fun g hg => hk g (hb g hg)⟩⟩
theorem OlP.in {w : World} {B c : Nat} {K : Nat → Prop} {ao : Option Addr} {ps : List Pr} {vs : List Value} (h : OlP w B K ao c ps vs) (hf : ∀ e ∈ ps, fit e.b) : PsIn w K ao ps.length c ps vs := by
  have hl : (cellsPr ps vs).length = ps.length * 2 := cellsPr_len h.vlen
  have hrow : ∀ j, j < ps.length → ∃ a2 k cc, vs.getD j undef = .slice a2 k cc ∧ In w a2 k cc (ps.getD j pr0).b ∧ ∀ ad, a2 = some ad → 0 < k → K ad.block := fun j hj => by
    obtain ⟨a2, c2, e, ho, hb⟩ := h.rows j hj
    have hin := own_in ho rfl (hf _ (memPr hj))
    refine ⟨a2, _, c2, e, hin, fun ad e2 h2 => ?_⟩
    obtain ⟨g, cap, hv, _⟩ := own_shape ho h2
    cases hv
    cases e2
    exact hb g rfl
  rcases h.own.2 with ⟨e, h0⟩ | ⟨g, cap, cur, e, _, hg, h1, h2, h3, h4⟩
  · have : ps = [] := List.eq_nil_of_length_eq_zero h0
    subst this
    simp only [Value.slice.injEq] at e
    obtain ⟨rfl, _, rfl⟩ := e
    exact ⟨rfl, h.vlen, Nat.le_refl _, .inl rfl, fun j hj => absurd hj (Nat.not_lt_zero j)⟩
  · simp only [Value.slice.injEq] at e
    obtain ⟨rfl, _, rfl⟩ := e
    refine ⟨rfl, h.vlen, h1, .inr ⟨g, 0, rfl, h.blk g rfl, fun t u hu => ?_⟩, hrow⟩
    rw [Nat.zero_add, cell_of_row w g t _ _ _ hg, ← Array.getElem?_toList]
    rw [← h4, List.getElem?_take] at hu
    split at hu
    · exact hu
    · cases hu
/-- The voter's cell of its store. -/
def StC (w : World) (p s : Nat) : Prop := w.cell? ⟨p, 5, none⟩ = some (.pointer (some ⟨s, 0, none⟩))
structure TkO (w0 w : World) (s : Nat) (size : Int) (l m : List Pr) (K : Nat → Prop) (old : List Pr) (rv : Value) (n : Nat) (w' : World) : Prop where
  out : ∃ K2 ao c vs, rv = .slice ao n c ∧ n = old.length ∧ (∀ k, K k → K2 k) ∧ SOn w0 w' s size l m K2 ∧ OlP w' w.heap.size K2 ao c old vs
  kpt : Kpt K w w'
  size : w.heap.size ≤ w'.heap.size
theorem six_eql (w : World) : (binOp .eql 28 (errnoF 6) .nilIface).run Try.prog w = .ok (.bool false) w := by kernel_rfl
theorem dropN_ok {w0 w : World} {p : Nat} {size : Int} {l m : List Pr} {K : Nat → Prop} (h : SOn w0 w p size l m K) (k : Ky) (hk : k.length ≤ maxLen) (w1 : World) (hw : w1 = w.alloc (.cells #[sv k] 9)) : Calls Try.prog 127 #[.pointer (some ⟨p, 0, none⟩), .slice (some ⟨w.heap.size, 0, none⟩) 1 1] w1 fun e w' => (∃ d : Int, e = .returned (.int .i64 d)) ∧ SOn w0 w' p size (cutP k l) m K ∧ Kpt K w w' := by
  subst hw
  have hb := bl_al (Below.refl w.heap.size w) (.cells #[sv k] 9)
  have h2 := h.grow hb
  have hK : KsIn (w.alloc (.cells #[sv k] 9)) w.heap.size 1 [k] := ⟨rfl, fun j hj => by
    obtain rfl : j = 0 := by omega
    rw [World.cell?_alloc_mark]
    rfl, fun x hx => by rw [List.mem_singleton] at hx; rw [hx]; exact hk⟩
  refine (h2.drop w.heap.size 1 [k] hK (by omega) (.inr ⟨Nat.le_refl _, by simp⟩)).mono ?_
  rintro e w' ⟨rfl, h3, h4⟩
  exact ⟨⟨_, rfl⟩, h3.less (fun k hk => .inl hk), (h.new hb).2.trans (h4.less (fun k hk => .inl hk))⟩
set_option maxRecDepth 100000 in
set_option maxHeartbeats 8000000 in
theorem takeOut_c (w0 w : World) (p s : Nat) (size : Int) (l m : List Pr) (K : Nat → Prop) (h : SOn w0 w s size l m K) (hp : StC w p s) (hKp : K p) (a : Option Addr) (n c : Nat) (ps : List Pr) (vs : List Value) (hP : PsIn w K a n c ps vs) (hn : n ≤ 4) (hk : ∀ e ∈ ps, e.k.length ≤ 64) :
    Calls Try.prog 109 #[.pointer (some ⟨p, 0, none⟩), .slice a n c] w fun e w' => ∃ rv n', e = .returned rv ∧ TkO w0 w s size (dropP (keysP ps) l) m K (olderP ps l) rv n' w' := by
  obtain ⟨i0, hi0, hz0, hz1, hz2⟩ := info_parts infoPr
  have hlen := hP.len
  have hroom := hP.room
  have HP := Lib.hid hP
  have HKP := Lib.hid hKp
  have HSC := Lib.hid hp
  have HKL := Lib.hid hk
  have HBW := Lib.hid h.bel.size
  have HKW : Hid (∀ k, K k → k < w.heap.size) := Lib.hid h.lt
  have HPW : Hid (p < w.heap.size) := Lib.hid (block_lt_of_cell (show w.cell? ⟨p, 5, none⟩ = _ from hp))
  have HL0 : Hid (TkO w0 w s size (dropP (keysP (ps.take 0)) l) m K (olderP (ps.take 0) l) (.slice none 0 0) 0 w) := Lib.hid ⟨⟨K, none, 0, [], rfl, rfl, fun _ h => h, h, olP_nil _ _ _⟩, fun _ _ => rfl, Nat.le_refl _⟩
  clear h hp hKp hP hk
  go_enter Try.func109, Try.ntmps109
  go_wp2
  go_loopw [5, 7, 8, 9, 12] (fun rv _ _ _ iv wr => ∃ (i n' : Nat), i ≤ n ∧ iv = .int .i64 i ∧ Hid (TkO w0 w s size (dropP (keysP (ps.take i)) l) m K (olderP (ps.take i) l) rv n' wr)) (fun _ _ _ _ iv _ => n - (intOf iv).toNat)
  case atStart => exact ⟨0, 0, by omega, rfl, HL0⟩
  case round =>
    obtain ⟨i, n', hi, rfl, HL⟩ := hrel
    obtain ⟨w3, rfl⟩ : ∃ v, v = wr := ⟨_, rfl⟩
    clear HL0
    by_cases hlt : i < n
    · have ii : (i : Int) < (n : Int) := by omega
      have i0' : (0 : Int) ≤ (i : Int) := by omega
      have ic : (i : Int) ≤ (c : Int) := by omega
      obtain ⟨⟨K2, ao, cc, us, erv, hn', hK2, hS, hO⟩, hkp, hsz⟩ := HL.out
      subst erv
      have hP3 := HP.out.kpt hkp
      obtain ⟨b1, o1, rfl, hKb⟩ := HP.out.block (by omega)
      obtain ⟨c0, c1⟩ := hP3.cell hlt
      obtain ⟨a2, n2, c2, hv, hI2, hI2K⟩ := hP3.rows i hlt
      rw [hv] at c1
      have hmem := memPr (ps := ps) (i := i) (by omega)
      have hk64 := HKL.out _ hmem
      have HTK : Hid (ps.take (i + 1) = ps.take i ++ [ps.getD i pr0]) := Lib.hid (take_morePr ps (i := i) (by omega))
      obtain ⟨x, hx⟩ : ∃ x, x = ps.getD i pr0 := ⟨_, rfl⟩
      rw [← hx] at c0 hk64 HTK
      obtain ⟨li, hli⟩ : ∃ li, li = dropP (keysP (ps.take i)) l := ⟨_, rfl⟩
      obtain ⟨old, hold⟩ : ∃ old, old = olderP (ps.take i) l := ⟨_, rfl⟩
      rw [← hli] at hS
      rw [← hold] at hO
      have HNX : Hid (dropP (keysP (ps.take (i + 1))) l = cutP x.k li ∧ olderP (ps.take (i + 1)) l = old ++ hitP x.k li) := Lib.hid (by rw [HTK.out, dropP_snoc, olderP_snoc, ← hli, ← hold]; exact ⟨rfl, rfl⟩)
      obtain ⟨k, rr⟩ := x
      have hkm : k.length ≤ maxLen := by unfold maxLen; simp only at hk64; omega
      have hold4 : n' ≤ 4 := by rw [hn']; have := older_len (ps.take i) l; rw [List.length_take] at this; omega
      have HOL : Hid (n' = old.length) := Lib.hid (by rw [hn', hold])
      clear hn'
      obtain ⟨w4, hw4⟩ : ∃ w4, w4 = w3.alloc (.cells #[sv k, .slice a2 n2 c2] tyPr) := ⟨_, rfl⟩
      have hb4 : Below w3.heap.size w3 w4 := by rw [hw4]; exact bl_al (Below.refl _ _) _
      obtain ⟨p4, hp4⟩ : ∃ p4, p4 = w3.heap.size := ⟨_, rfl⟩
      have hx4 : w4.heap[p4]? = some (.cells #[sv k, .slice a2 n2 c2] tyPr (0, 0)) := by rw [hw4, hp4]; exact heap_alloc_new w3 _
      have hs4 : w4.heap.size = p4 + 1 := by rw [hw4, hp4]; simp
      have HW4 := Lib.hid (And.intro hw4 hp4)
      have hK4 := hS.grow hb4
      obtain ⟨K4, eK4⟩ : ∃ K4 : Nat → Prop, K4 = fun k => K2 k ∨ (w3.heap.size ≤ k ∧ k < w4.heap.size) := ⟨_, rfl⟩
      rw [← eK4] at hK4
      have hK24 : ∀ k, K2 k → K4 k := fun k hk => by rw [eK4]; exact .inl hk
      have hK4p : K4 p4 := by rw [eK4]; exact .inr ⟨by omega, by omega⟩
      have hkpt4 : Kpt K2 w3 w4 := (hS.new hb4).2
      have hO4 := (hO.kpt hkpt4).more hK24
      have hc4 : StC w4 p s := by
        have := (hkp.trans (hkpt4.less hK2)).cell (show w.cell? ⟨p, 5, none⟩ = _ from HSC.out) HKP.out
        exact this
      have HS4 := Lib.hid hK4
      have HO4 := Lib.hid hO4
      have HKK := Lib.hid (fun k hk => hK24 k (hK2 k hk))
      have HKP4 := Lib.hid hK4p
      have HKT := Lib.hid (hkp.trans (hkpt4.less hK2))
      have HX4 := Lib.hid hx4
      have HC4 := Lib.hid hc4
      have d0 : w4.cell? ⟨p4, 0, none⟩ = some (sv k) := by rw [cell_of_row w4 p4 0 _ _ _ hx4]; rfl
      have d5 : w4.cell? ⟨p, 5, none⟩ = some (.pointer (some ⟨s, 0, none⟩)) := hc4
      have HLE : Hid (w.heap.size ≤ w4.heap.size ∧ w0.heap.size ≤ w4.heap.size ∧ p4 < w4.heap.size ∧ w0.heap.size ≤ w3.heap.size) := Lib.hid ⟨by have := hb4.size; omega, hK4.bel.size, by omega, hS.bel.size⟩
      have HPL : Hid (w.heap.size ≤ p4) := Lib.hid (by omega)
      have HNP : Hid (∀ g, (Value.slice ao n' cc).ownBlock = some g → g ≠ p4) := Lib.hid (fun g hg => by
        have h1 := (hO.own.lt g (by rw [← HOL.out]; exact hg)).2
        have h2 := HW4.out.2
        omega)
      clear HL hS hO hkp hP3 hv hI2 hI2K hmem hx hli hold hw4 hb4 hp4 hx4 hs4 hK4 hK24 hK4p hkpt4 hO4 hc4 eK4 hK2
      go_upto_region 5 with fail
      rw [show w3.alloc (.cells #[sv k, .slice a2 n2 c2] tyPr) = w4 from HW4.out.1.symm, ← HW4.out.2]
      clear c0 c1
      have hS0 : w4.drew.cell? ⟨p, 5, none⟩ = some (.pointer (some ⟨s, 0, none⟩)) ∧ w4.drew.cell? ⟨p4, 0, none⟩ = some (sv k) := ⟨d5, d0⟩
      have CG := Lib.hid ((HS4.out.new (Below.refl _ _).drew).1.get k hkm)
      have HFD := Lib.hid d5
      clear d0 d5
      cases hf : findP k li with
      | none =>
        rw [hf] at CG
        have CG2 : Hid (Calls Try.prog 115 #[.pointer (some ⟨s, 0, none⟩), sv k] w4.drew fun e w' => e = .returned (.tuple #[.slice none 0 0, errnoF 6]) ∧ Tch Non w4.drew w') := Lib.hid CG.out
        have HHT : Hid (hitP k li = [] ∧ cutP k li = li) := Lib.hid ⟨by unfold hitP; rw [hf], cut_miss (findP_none.1 hf)⟩
        have q6 := six_eql
        clear CG hf
        go_region_held3 (fun wx => wx.cell? ⟨p, 5, none⟩ = some (.pointer (some ⟨s, 0, none⟩)) ∧ wx.cell? ⟨p4, 0, none⟩ = some (sv k)) (first | (with_reducible exact hS0) | (with_reducible assumption) | fail)
          (first
            | (go_at_call 115; (with_reducible refine CG2.out.mono ?_); rintro e w5 ⟨rfl, hT5⟩; have hS1 := (show w5.cell? ⟨p, 5, none⟩ = some (.pointer (some ⟨s, 0, none⟩)) ∧ w5.cell? ⟨p4, 0, none⟩ = some (sv k) from ⟨cell_later (non_below hT5) hS0.1, cell_later (non_below hT5) hS0.2⟩))
            | fail)
        have hb5 := non_below hT5
        have hb45 : Below w4.heap.size w4 w5 := bl_tr (Below.refl _ _).drew hb5
        have HF : Hid (TkO w0 w s size (dropP (keysP (ps.take (i + 1))) l) m K (olderP (ps.take (i + 1)) l) (.slice ao n' cc) n' w5) := Lib.hid (by
          obtain ⟨h1, h2⟩ := HS4.out.new hb45
          rw [HNX.out.1, HNX.out.2]
          show TkO w0 w s size (cutP k li) m K (old ++ hitP k li) _ _ w5
          rw [HHT.out.1, HHT.out.2, List.append_nil]
          exact ⟨⟨K4, ao, cc, us, rfl, HOL.out, HKK.out, h1, HO4.out.kpt h2⟩, HKT.out.trans (h2.less HKK.out), by have := HLE.out; have := hb45.size; omega⟩)
        clear hT5 hb5 hb45 hS0 hS1
        go_wp2
        go_roundw
        case rel => exact ⟨i + 1, _, by omega, by go_num, HF⟩
        case measure => simp [intOf]; omega
      | some r =>
        rw [hf] at CG
        have CG2 : Hid (Calls Try.prog 115 #[.pointer (some ⟨s, 0, none⟩), sv k] w4.drew fun e w' => ∃ ao c, e = .returned (.tuple #[.slice ao r.length c, .nilIface]) ∧ w'.ownsRow w4.drew.heap.size 5 1 (.slice ao r.length c) r.length (u8s r) ∧ Tch Non w4.drew w') := Lib.hid CG.out
        have HHT : Hid (hitP k li = [⟨k, r⟩]) := Lib.hid (by unfold hitP; rw [hf])
        have q0 := nilEl
        clear CG hf
        go_region_held3 (fun wx => wx.cell? ⟨p, 5, none⟩ = some (.pointer (some ⟨s, 0, none⟩)) ∧ wx.cell? ⟨p4, 0, none⟩ = some (sv k)) (first | (with_reducible exact hS0) | (with_reducible assumption) | fail)
          (first
            | (go_at_call 115; (with_reducible refine CG2.out.mono ?_); rintro e w5 ⟨a5, c5, rfl, hown5, hT5⟩; have hS1 := (show w5.cell? ⟨p, 5, none⟩ = some (.pointer (some ⟨s, 0, none⟩)) ∧ w5.cell? ⟨p4, 0, none⟩ = some (sv k) from ⟨cell_later (non_below hT5) hS0.1, cell_later (non_below hT5) hS0.2⟩))
            | fail)
        have hb5 := non_below hT5
        have hb45 : Below w4.heap.size w4 w5 := bl_tr (Below.refl _ _).drew hb5
        obtain ⟨m5, hm5⟩ : ∃ m5, m5 = r.length := ⟨_, rfl⟩
        rw [← hm5] at hown5 ⊢
        have HM5 := Lib.hid hm5
        have hS5 := HS4.out.grow hb45
        obtain ⟨K5, eK5⟩ : ∃ K5 : Nat → Prop, K5 = fun k => K4 k ∨ (w4.heap.size ≤ k ∧ k < w5.heap.size) := ⟨_, rfl⟩
        rw [← eK5] at hS5
        have hK45 : ∀ k, K4 k → K5 k := fun k hk => by rw [eK5]; exact .inl hk
        have hk5 := (HS4.out.new hb45).2
        have hO5 := (HO4.out.kpt hk5).more hK45
        have hx5 : w5.heap[p4]? = some (.cells #[sv k, .slice a2 n2 c2] tyPr (0, 0)) := (hk5 p4 HKP4.out).trans HX4.out
        have d0 : w5.cell? ⟨p4, 0, none⟩ = some (sv k) := by rw [cell_of_row w5 p4 0 _ _ _ hx5]; rfl
        have hKR : ∀ g, (Value.slice a5 m5 c5).ownBlock = some g → K5 g := fun g hg => by
          have := hown5.lt g hg
          rw [eK5]
          exact .inr this
        have HKR := Lib.hid hKR
        have HS5 := Lib.hid hS5
        have HO5 := Lib.hid hO5
        have HX5 := Lib.hid hx5
        have HR5 := Lib.hid (own_base hown5 (show w.heap.size ≤ w4.drew.heap.size from HLE.out.1))
        have HK45 := Lib.hid hK45
        have HKT5 := Lib.hid (HKT.out.trans (hk5.less HKK.out))
        have HC5 : Hid (StC w5 p s) := Lib.hid (hk5.cell (show w4.cell? ⟨p, 5, none⟩ = _ from HC4.out) (HKK.out p HKP.out))
        have HLE5 : Hid (w.heap.size ≤ w5.heap.size ∧ w0.heap.size ≤ w5.heap.size ∧ p4 < w5.heap.size) := Lib.hid (by have := HLE.out; have := hb45.size; omega)
        clear hown5 hT5 hb5 hb45 hm5 hS5 eK5 hK45 hk5 hO5 hx5 hKR hS0 hS1
        have HOO : Hid ((w5.alloc (.cells #[sv k, .slice a5 m5 c5] tyPr)).ownsRow w.heap.size tyPr 2 (.slice ao n' cc) n' (cellsPr old us)) := Lib.hid (by have := HO5.out.own; rw [← HOL.out] at this; exact this.alloc _)
        have HNN := Lib.hid (pr_new w5 ⟨k, r⟩ (.slice a5 m5 c5))
        go_wp2_with (at_builtin; refine wpList_append_lies _ rfl (.tmp 28) (.tmp 33) 175 rfl w.heap.size tyPr i0 _ 2 40 Try.underlying175 hi0 hz0 hz1 hz2 rfl (by decide) _ n' (cellsPr old us) rfl HOO.out ⟨w5.heap.size, 0, none⟩ 1 1 (Pr.cs ⟨k, r⟩ (.slice a5 m5 c5)) rfl rfl HNN.out (by intro u hu; simp only [Pr.cs, List.mem_cons, List.not_mem_nil, or_false] at hu; rcases hu with rfl | rfl <;> rfl) (by decide) (by unfold maxLen; omega) (by omega) (by have := HLE5.out; simp; omega) _ rfl ?_)
        intro g8 c8 w8 hown8 hg8 hlie hlt8
        have hT8 : Tch (fun k => some k = (Value.slice ao n' cc).ownBlock) w5 w8 := ((tch_new (bl_al (Below.refl w5.heap.size w5) (.cells #[sv k, .slice a5 m5 c5] tyPr))).mono (fun _ h => h.elim)).trans (tch_grown hg8)
        have hob : ∀ g, (Value.slice ao n' cc).ownBlock = some g → K5 g ∧ w0.heap.size ≤ g := fun g hg => ⟨HO5.out.blk g (by rw [← HOL.out]; exact hg), Nat.le_trans HBW.out (HOO.out.lt g hg).1⟩
        have hS8 := HS5.out.wgrow hT8 (fun k hk => hob k hk.symm)
        obtain ⟨K8, eK8⟩ : ∃ K8 : Nat → Prop, K8 = fun k => K5 k ∨ (w5.heap.size ≤ k ∧ k < w8.heap.size) := ⟨_, rfl⟩
        rw [← eK8] at hS8
        have hK58 : ∀ k, K5 k → K8 k := fun k hk => by rw [eK8]; exact .inl hk
        have hg8K : K8 g8 := by
          rcases hlie with h1 | h1
          · exact hK58 _ (hob g8 h1).1
          · rw [eK8]; exact .inr ⟨by rw [h1]; simp, hlt8⟩
        have hne : tyPr ≠ 5 := by decide
        have hr8 := hT8.own HR5.out (fun g hg e => own_kinds (e := tyPr) HO5.out.own HR5.out hne g (by rw [← HOL.out]; exact e.symm) hg)
        have hO8 : OlP w8 w.heap.size K8 (some ⟨g8, 0, none⟩) c8 (old ++ [⟨k, r⟩]) (us ++ [.slice a5 m5 c5]) := by
          have hl : (old ++ [(⟨k, r⟩ : Pr)]).length = n' + 1 := by rw [List.length_append, ← HOL.out]; rfl
          refine ⟨?_, by simp [HO5.out.vlen], fun g hg => by cases hg; exact hg8K, fun j hj => ?_⟩
          · rw [hl, cellsPr_app HO5.out.vlen, cellsPr_one]
            exact hown8
          · rw [hl] at hj
            by_cases hj2 : j < old.length
            · obtain ⟨a3, c3, e, ho, hb⟩ := HO5.out.rows j hj2
              have e1 : (old ++ [(⟨k, r⟩ : Pr)]).getD j pr0 = old.getD j pr0 := by rw [List.getD_eq_getElem?_getD, List.getD_eq_getElem?_getD, List.getElem?_append_left hj2]
              have e2 : (us ++ [Value.slice a5 m5 c5]).getD j undef = us.getD j undef := by rw [List.getD_eq_getElem?_getD, List.getD_eq_getElem?_getD, List.getElem?_append_left (by rw [HO5.out.vlen]; exact hj2)]
              rw [e1, e2]
              exact ⟨a3, c3, e, hT8.own ho (fun g hg2 e3 => own_kinds HO5.out.own ho hne g (by rw [← HOL.out]; exact e3.symm) hg2), fun g hg => hK58 g (hb g hg)⟩
            · obtain rfl : j = old.length := by have := HOL.out; omega
              have e1 : (old ++ [(⟨k, r⟩ : Pr)]).getD old.length pr0 = ⟨k, r⟩ := by rw [List.getD_eq_getElem?_getD, List.getElem?_append_right (by omega)]; simp
              have e2 : (us ++ [Value.slice a5 m5 c5]).getD old.length undef = .slice a5 m5 c5 := by rw [List.getD_eq_getElem?_getD, List.getElem?_append_right (by rw [HO5.out.vlen]; omega), HO5.out.vlen]; simp
              rw [e1, e2]
              have e3 := HM5.out
              refine ⟨a5, c5, by rw [e3], ?_, fun g hg => hK58 g (HKR.out g (by rw [e3]; exact hg))⟩
              show w8.ownsRow w.heap.size 5 1 (.slice a5 r.length c5) r.length (u8s r)
              rw [← e3]
              exact hr8
        have hx8 : w8.heap[p4]? = some (.cells #[sv k, .slice a2 n2 c2] tyPr (0, 0)) := hT8.at HX5.out (fun e => HNP.out p4 e.symm rfl)
        have d0 : w8.cell? ⟨p4, 0, none⟩ = some (sv k) := by rw [cell_of_row w8 p4 0 _ _ _ hx8]; rfl
        have d5 : w8.cell? ⟨p, 5, none⟩ = some (.pointer (some ⟨s, 0, none⟩)) := hT8.cell (show w5.cell? ⟨p, 5, none⟩ = _ from HC5.out) (fun e => by
          have h1 := (HOO.out.lt p e.symm).1
          have h2 := HPW.out
          omega)
        have hkp8 : Kpt K w w8 := HKT5.out.trans (fun j hj => hT8.block j (HS5.out.lt j (HK45.out j (HKK.out j hj))) (fun e => by
          have h1 := (HOO.out.lt j e.symm).1
          have h2 := HKW.out j hj
          omega))
        have HS8 := Lib.hid hS8
        have HO8 := Lib.hid hO8
        have HK8 := Lib.hid (fun j hj => hK58 j (HK45.out j (HKK.out j hj)))
        have HKP8 := Lib.hid hkp8
        have HK8p := Lib.hid (hK58 p4 (HK45.out p4 HKP4.out))
        have HLE8 : Hid (w.heap.size ≤ w8.heap.size) := Lib.hid (by have := HLE5.out; have := hT8.size; omega)
        have HP8 : Hid (p4 < w8.heap.size) := Lib.hid (by have := HLE5.out; have := hT8.size; omega)
        clear hown8 hg8 hlie hlt8 hT8 hob hS8 eK8 hK58 hg8K hne hr8 hO8 hx8 hkp8 HOO HNN HO5 HR5 HS5
        have hS8a : w8.drew.cell? ⟨p, 5, none⟩ = some (.pointer (some ⟨s, 0, none⟩)) ∧ w8.drew.cell? ⟨p4, 0, none⟩ = some (sv k) := ⟨d5, d0⟩
        have hS8b : (w8.alloc (.cells #[sv k] 9)).drew.cell? ⟨p, 5, none⟩ = some (.pointer (some ⟨s, 0, none⟩)) ∧ (w8.alloc (.cells #[sv k] 9)).drew.cell? ⟨p4, 0, none⟩ = some (sv k) := ⟨cell_later (bl_al (Below.refl _ _) _).drew d5, cell_later (bl_al (Below.refl _ _) _).drew d0⟩
        have CD : Hid (Calls Try.prog 127 #[.pointer (some ⟨s, 0, none⟩), .slice (some ⟨w8.heap.size, 0, none⟩) 1 1] (w8.alloc (.cells #[sv k] 9)).drew fun e w' => (∃ d : Int, e = .returned (.int .i64 d)) ∧ SOn w0 w' s size (cutP k li) m K8 ∧ Kpt K8 w8.drew w') := Lib.hid (dropN_ok (HS8.out.new (Below.refl _ _).drew).1 k hkm (w8.alloc (.cells #[sv k] 9)).drew rfl)
        clear d0 d5
        go_upto_region 8 with fail
        go_region_held3 (fun wx => wx.cell? ⟨p, 5, none⟩ = some (.pointer (some ⟨s, 0, none⟩)) ∧ wx.cell? ⟨p4, 0, none⟩ = some (sv k)) (first | (with_reducible exact hS8a) | (with_reducible exact hS8b) | (with_reducible assumption) | fail)
          (first
            | (go_at_call 127; (with_reducible refine CD.out.mono ?_); rintro e w9 ⟨⟨dd, rfl⟩, hS9, hk9⟩; have hS9a := (show w9.cell? ⟨p, 5, none⟩ = some (.pointer (some ⟨s, 0, none⟩)) ∧ w9.cell? ⟨p4, 0, none⟩ = some (sv k) from ⟨hk9.cell hS8a.1 (HK8.out p HKP.out), hk9.cell hS8a.2 HK8p.out⟩))
            | fail)
        all_goals
          have HF : Hid (TkO w0 w s size (dropP (keysP (ps.take (i + 1))) l) m K (olderP (ps.take (i + 1)) l) (.slice (some ⟨g8, 0, none⟩) (n' + 1) c8) (n' + 1) w9) := Lib.hid (by
            rw [HNX.out.1, HNX.out.2]
            show TkO w0 w s size (cutP k li) m K (old ++ hitP k li) _ _ w9
            rw [HHT.out]
            have hkd : Kpt K8 w8 w9 := (HS8.out.new (Below.refl _ _).drew).2.trans hk9
            refine ⟨⟨K8, _, c8, _, rfl, by rw [List.length_append, ← HOL.out]; rfl, HK8.out, hS9, HO8.out.kpt hkd⟩, HKP8.out.trans (hkd.less HK8.out), ?_⟩
            have h1 := hS9.bel.size
            have h2 := HLE8.out
            have h3 := HK8p.out
            exact Nat.le_trans HPL.out (Nat.le_of_lt (hS9.lt p4 HK8p.out)))
          clear hS9 hk9 hS9a hS8a hS8b
          go_wp2
          go_roundw
          case rel => exact ⟨i + 1, _, by omega, by go_num, HF⟩
          case measure => simp [intOf]; omega
    · have ii : ¬ (i : Int) < (n : Int) := by omega
      obtain rfl : i = n := by omega
      have hL := HL.out
      obtain ⟨K2, ao, cc, us, erv, hrest⟩ := hL.out
      clear hrest
      subst erv
      have HF : Hid (TkO w0 w s size (dropP (keysP ps) l) m K (olderP ps l) (.slice ao n' cc) n' w3) := Lib.hid (by
        rwa [List.take_of_length_le (by omega)] at hL)
      clear HL hL
      go_wp2
      go_ret
      exact ⟨_, rfl, n', HF.out⟩
end Go.Proofs.Ytnhnpfhfcbmmlaa
namespace Go.Proofs.Ytnhnpfhfcbmmlaa
open Go Go.RowKit
set_option linter.unusedVariables false
set_option linter.unusedSimpArgs false

theorem five_neq (w : World) : (binOp .neq 28 (errnoF 5) .nilIface).run Try.prog w = .ok (.bool true) w := by kernel_rfl
theorem putN_or3 (size : Int) (k : Ky) (r : List Int) (l : List Pr) : putN size k r l = 0 ∨ putN size k r l = 5 ∨ putN size k r l = 9 := by
  unfold putN
  split
  · split
    · exact .inr (.inl rfl)
    · exact .inl rfl
  · exact .inr (.inr rfl)
theorem putL_of {size : Int} {k : Ky} {r : List Int} {l : List Pr} (h : putN size k r l = 0) : putL size k r l = putP k r l := putL_put h
theorem putsP_go {size : Int} {e : Pr} {ps l : List Pr} (h : putN size e.k e.b l = 0) : putsP size (e :: ps) l = putsP size ps (putP e.k e.b l) := by
  show (if _ then _ else _) = _
  rw [if_pos h]
theorem putsP_no {size : Int} {e : Pr} {ps l : List Pr} (h : putN size e.k e.b l ≠ 0) : putsP size (e :: ps) l = (putN size e.k e.b l, l) := by
  show (if _ then _ else _) = _
  rw [if_neg h]
set_option maxRecDepth 100000 in
set_option maxHeartbeats 8000000 in
theorem vput_c (w0 w : World) (p s : Nat) (size : Int) (l m : List Pr) (K : Nat → Prop) (h : SOn w0 w s size l m K) (hp : StC w p s) (hKp : K p) (a : Option Addr) (n c : Nat) (ps : List Pr) (vs : List Value) (hP : PsIn w K a n c ps vs) (hn : n ≤ 4) (hk : ∀ e ∈ ps, e.k.length ≤ 64 ∧ e.b.length ≤ 67108864) :
    Calls Try.prog 110 #[.pointer (some ⟨p, 0, none⟩), .slice a n c] w fun e w' => e = .returned (errF ((putsP size ps l).1 : Nat)) ∧ SOn w0 w' s size (putsP size ps l).2 m K ∧ Kpt K w w' := by
  have hlen := hP.len
  have hroom := hP.room
  have HP := Lib.hid hP
  have HKP := Lib.hid hKp
  have HSC := Lib.hid hp
  have HKL := Lib.hid hk
  obtain ⟨R, hR⟩ : ∃ R, R = putsP size ps l := ⟨_, rfl⟩
  rw [← hR]
  have HL0 : Hid (∃ li, R = putsP size (ps.drop 0) li ∧ SOn w0 w s size li m K ∧ Kpt K w w) := Lib.hid ⟨l, hR, h, fun _ _ => rfl⟩
  clear h hp hKp hP hk hR
  go_enter Try.func110, Try.ntmps110
  go_wp2
  go_loopw [6, 7, 10] (fun _ _ iv wr => ∃ (i : Nat), i ≤ n ∧ iv = .int .i64 i ∧ Hid (∃ li, R = putsP size (ps.drop i) li ∧ SOn w0 wr s size li m K ∧ Kpt K w wr)) (fun _ _ iv _ => n - (intOf iv).toNat)
  case atStart => exact ⟨0, by omega, rfl, HL0⟩
  case round =>
    obtain ⟨i, hi, rfl, HL⟩ := hrel
    obtain ⟨w3, rfl⟩ : ∃ v, v = wr := ⟨_, rfl⟩
    clear HL0
    by_cases hlt : i < n
    · have ii : (i : Int) < (n : Int) := by omega
      have i0' : (0 : Int) ≤ (i : Int) := by omega
      have ic : (i : Int) ≤ (c : Int) := by omega
      obtain ⟨li, hRi, hS, hkp⟩ := HL.out
      have hP3 := HP.out.kpt hkp
      obtain ⟨b1, o1, rfl, hKb⟩ := HP.out.block (by omega)
      obtain ⟨c0, c1⟩ := hP3.cell hlt
      obtain ⟨a2, n2, c2, hv, hI2, hI2K⟩ := hP3.rows i hlt
      rw [hv] at c1
      have hmem := memPr (ps := ps) (i := i) (by omega)
      have hk64 := HKL.out _ hmem
      have hdr : ps.drop i = ps.getD i pr0 :: ps.drop (i + 1) := by
        rw [List.drop_eq_getElem_cons (by omega), List.getD_eq_getElem?_getD, List.getElem?_eq_getElem (by omega)]
        rfl
      rw [hdr] at hRi
      obtain ⟨x, hx⟩ : ∃ x, x = ps.getD i pr0 := ⟨_, rfl⟩
      rw [← hx] at c0 hk64 hRi hI2
      obtain ⟨k, r⟩ := x
      have hkm : k.length ≤ maxLen := by unfold maxLen; have := hk64.1; simp only at this; omega
      have hn2 : n2 ≤ 67108864 := by rw [← hI2.len]; exact hk64.2
      obtain ⟨w4, hw4⟩ : ∃ w4, w4 = w3.alloc (.cells #[sv k, .slice a2 n2 c2] tyPr) := ⟨_, rfl⟩
      have hb4 : Below w3.heap.size w3 w4 := by rw [hw4]; exact bl_al (Below.refl _ _) _
      obtain ⟨p4, hp4⟩ : ∃ p4, p4 = w3.heap.size := ⟨_, rfl⟩
      have hx4 : w4.heap[p4]? = some (.cells #[sv k, .slice a2 n2 c2] tyPr (0, 0)) := by rw [hw4, hp4]; exact heap_alloc_new w3 _
      have hs4 : w4.heap.size = p4 + 1 := by rw [hw4, hp4]; simp
      have HW4 := Lib.hid (And.intro hw4 hp4)
      have hS4 := hS.grow hb4
      obtain ⟨K4, eK4⟩ : ∃ K4 : Nat → Prop, K4 = fun k => K k ∨ (w3.heap.size ≤ k ∧ k < w4.heap.size) := ⟨_, rfl⟩
      rw [← eK4] at hS4
      have hK24 : ∀ k, K k → K4 k := fun k hk => by rw [eK4]; exact .inl hk
      have hK4p : K4 p4 := by rw [eK4]; exact .inr ⟨by omega, by omega⟩
      have hkpt4 : Kpt K w3 w4 := (hS.new hb4).2
      have d5 : w4.cell? ⟨p, 5, none⟩ = some (.pointer (some ⟨s, 0, none⟩)) := (hkp.trans hkpt4).cell (show w.cell? ⟨p, 5, none⟩ = _ from HSC.out) HKP.out
      have d0 : w4.cell? ⟨p4, 0, none⟩ = some (sv k) := by rw [cell_of_row w4 p4 0 _ _ _ hx4]; rfl
      have d1 : w4.cell? ⟨p4, 1, none⟩ = some (.slice a2 n2 c2) := by rw [cell_of_row w4 p4 1 _ _ _ hx4]; rfl
      have hI4 := hI2.below hb4
      have HKK := Lib.hid (hK24 p HKP.out)
      have HKP4 := Lib.hid hK4p
      have HK24 := Lib.hid hK24
      have HKT := Lib.hid (hkp.trans hkpt4)
      have HRI := Lib.hid hRi
      have HS4 := Lib.hid hS4
      have CP : Hid (Calls Try.prog 92 #[.pointer (some ⟨s, 0, none⟩), sv k, .slice (some ⟨w4.heap.size, 0, none⟩) 1 1] (w4.alloc (.cells #[.slice a2 n2 c2] tyB)).drew fun e w' => e = .returned (errF (putN size k r li : Nat)) ∧ SOn w0 w' s size (putL size k r li) m K4 ∧ Kpt K4 w4.drew w') := Lib.hid ((hS4.new (Below.refl _ _).drew).1.put1 k hkm (hI4.below (Below.refl _ _).drew) (by omega))
      have hpn := putN_or3 size k r li
      obtain ⟨pn, hpne⟩ : ∃ pn : Nat, pn = putN size k r li := ⟨_, rfl⟩
      rw [← hpne] at CP hpn
      have HPN := Lib.hid hpne
      clear HL hS hkp hP3 hv hI2 hI2K hmem hx hRi hw4 hb4 hp4 hx4 hs4 hK24 hK4p hkpt4 eK4 hdr hpne hI4 hS4
      go_upto_region 4 with fail
      rw [show w3.alloc (.cells #[sv k, .slice a2 n2 c2] tyPr) = w4 from HW4.out.1.symm, ← HW4.out.2]
      clear c0 c1
      have hS0 : w4.drew.cell? ⟨p, 5, none⟩ = some (.pointer (some ⟨s, 0, none⟩)) ∧ w4.drew.cell? ⟨p4, 0, none⟩ = some (sv k) ∧ w4.drew.cell? ⟨p4, 1, none⟩ = some (.slice a2 n2 c2) := ⟨d5, d0, d1⟩
      have hS1 : (w4.alloc (.cells #[.slice a2 n2 c2] tyB)).drew.cell? ⟨p, 5, none⟩ = some (.pointer (some ⟨s, 0, none⟩)) ∧ (w4.alloc (.cells #[.slice a2 n2 c2] tyB)).drew.cell? ⟨p4, 0, none⟩ = some (sv k) ∧ (w4.alloc (.cells #[.slice a2 n2 c2] tyB)).drew.cell? ⟨p4, 1, none⟩ = some (.slice a2 n2 c2) := ⟨cell_later (bl_al (Below.refl _ _) _).drew d5, cell_later (bl_al (Below.refl _ _) _).drew d0, cell_later (bl_al (Below.refl _ _) _).drew d1⟩
      clear d0 d1 d5
      go_region_held3 (fun wx => wx.cell? ⟨p, 5, none⟩ = some (.pointer (some ⟨s, 0, none⟩)) ∧ wx.cell? ⟨p4, 0, none⟩ = some (sv k) ∧ wx.cell? ⟨p4, 1, none⟩ = some (.slice a2 n2 c2)) (first | (with_reducible exact hS0) | (with_reducible exact hS1) | (with_reducible assumption) | fail)
        (first
          | (go_at_call 92; (with_reducible refine CP.out.mono ?_); rintro e w5 ⟨rfl, hS5, hk5⟩; have hS5a := (show w5.cell? ⟨p, 5, none⟩ = some (.pointer (some ⟨s, 0, none⟩)) ∧ w5.cell? ⟨p4, 0, none⟩ = some (sv k) ∧ w5.cell? ⟨p4, 1, none⟩ = some (.slice a2 n2 c2) from ⟨hk5.cell hS0.1 HKK.out, hk5.cell hS0.2.1 HKP4.out, hk5.cell hS0.2.2 HKP4.out⟩))
          | fail)
      all_goals
        have HS5 := Lib.hid (hS5.less HK24.out)
        have HK5 : Hid (Kpt K w w5) := Lib.hid (HKT.out.trans (((HS4.out.new (Below.refl _ _).drew).2.trans hk5).less HK24.out))
        clear hS5 hk5 hS5a hS0 hS1
        rcases hpn with hpn | hpn | hpn
        · subst hpn
          have q0 := nilNe
          have HF : Hid (∃ li, R = putsP size (ps.drop (i + 1)) li ∧ SOn w0 w5 s size li m K ∧ Kpt K w w5) := Lib.hid ⟨_, by
            have := HRI.out
            rwa [putsP_go HPN.out.symm] at this, by have := HS5.out; rwa [putL_put HPN.out.symm] at this, HK5.out⟩
          clear HS5 HK5
          rw [show errF ((0 : Nat) : Int) = .nilIface from rfl]
          go_wp2
          go_roundw
          case rel => exact ⟨i + 1, by omega, by go_num, HF⟩
          case measure => simp [intOf]; omega
        · subst hpn
          have q5 := five_neq
          have HF : Hid (R = (5, li) ∧ SOn w0 w5 s size li m K ∧ Kpt K w w5) := Lib.hid ⟨by
            have := HRI.out
            rw [putsP_no (by rw [← HPN.out]; omega)] at this
            rw [this]
            show (putN size k r li, li) = _
            rw [← HPN.out], by have := HS5.out; rwa [putL_same (by rw [← HPN.out]; omega)] at this, HK5.out⟩
          clear HS5 HK5
          rw [show errF ((5 : Nat) : Int) = errnoF 5 from rfl]
          go_wp2
          go_ret
          exact ⟨by rw [HF.out.1]; rfl, by rw [HF.out.1]; exact HF.out.2.1, HF.out.2.2⟩
        · subst hpn
          have q5 := nine_neq
          have HF : Hid (R = (9, li) ∧ SOn w0 w5 s size li m K ∧ Kpt K w w5) := Lib.hid ⟨by
            have := HRI.out
            rw [putsP_no (by rw [← HPN.out]; omega)] at this
            rw [this]
            show (putN size k r li, li) = _
            rw [← HPN.out], by have := HS5.out; rwa [putL_same (by rw [← HPN.out]; omega)] at this, HK5.out⟩
          clear HS5 HK5
          rw [show errF ((9 : Nat) : Int) = errnoF 9 from rfl]
          go_wp2
          go_ret
          exact ⟨by rw [HF.out.1]; rfl, by rw [HF.out.1]; exact HF.out.2.1, HF.out.2.2⟩
    · have ii : ¬ (i : Int) < (n : Int) := by omega
      obtain rfl : i = n := by omega
      have HF : Hid (∃ li, R = (0, li) ∧ SOn w0 w3 s size li m K ∧ Kpt K w w3) := Lib.hid (by
        have := HL.out
        rwa [List.drop_eq_nil_of_le (by omega)] at this)
      clear HL
      go_wp2
      go_ret
      obtain ⟨li, h1, h2, h3⟩ := HF.out
      exact ⟨by rw [h1]; rfl, by rw [h1]; exact h2, h3⟩
end Go.Proofs.Ytnhnpfhfcbmmlaa
namespace Go.Proofs.Ytnhnpfhfcbmmlaa
open Go Go.RowKit
set_option linter.unusedVariables false
set_option linter.unusedSimpArgs false

theorem puts_or3 (size : Int) (ps l : List Pr) : (putsP size ps l).1 = 0 ∨ (putsP size ps l).1 = 5 ∨ (putsP size ps l).1 = 9 := by
  induction ps generalizing l with
  | nil => exact .inl rfl
  | cons e ps ih =>
    by_cases h : putN size e.k e.b l = 0
    · rw [putsP_go h]; exact ih _
    · rw [putsP_no h]; exact putN_or3 _ _ _ _
theorem saveP_ok {size : Int} {ps l : List Pr} (h : (putsP size ps (dropP (keysP ps) l)).1 = 0) : saveP size ps l = (0, (putsP size ps (dropP (keysP ps) l)).2) := by
  unfold saveP
  rw [if_pos h]
theorem saveP_no {size : Int} {ps l : List Pr} (h : (putsP size ps (dropP (keysP ps) l)).1 ≠ 0) : saveP size ps l = ((putsP size ps (dropP (keysP ps) l)).1, l) := by
  unfold saveP
  rw [if_neg h]
/-- What a save leaves. -/
structure SvO (w0 w : World) (s : Nat) (size : Int) (l m : List Pr) (K : Nat → Prop) (R : Nat × List Pr) (w' : World) : Prop where
  ok : R.1 = 0 → SOn w0 w' s size R.2 R.2 K
  no : R.1 ≠ 0 → SOn w0 w' s size l m K
  kpt : Kpt K w w'
set_option maxRecDepth 100000 in
set_option maxHeartbeats 8000000 in
theorem save_c (w0 w : World) (p s : Nat) (size : Int) (l m : List Pr) (K : Nat → Prop) (h : SOn w0 w s size l m K) (hp : StC w p s) (hKp : K p) (a : Option Addr) (n c : Nat) (ps : List Pr) (vs : List Value) (hP : PsIn w K a n c ps vs) (hn : n ≤ 4) (hk : ∀ e ∈ ps, e.k.length ≤ 64 ∧ e.b.length ≤ 67108864) (hnd : (keysP ps).Nodup) :
    Calls Try.prog 78 #[.pointer (some ⟨p, 0, none⟩), .slice a n c] w fun e w' => e = .returned (errF ((saveP size ps l).1 : Nat)) ∧ SvO w0 w s size l m K (saveP size ps l) w' := by
  obtain ⟨hsrt, hok, _, hus⟩ := h.facts
  have hlens := h.lens
  have CT := Lib.hid (takeOut_c w0 w p s size l m K h hp hKp a n c ps vs hP hn (fun e he => (hk e he).1))
  have HP := Lib.hid hP
  have HKP := Lib.hid hKp
  have HSC := Lib.hid hp
  have HKL := Lib.hid hk
  have HRS := Lib.hid (restore size ps hsrt.1 hok.1 hus.1 hnd)
  have HDP := Lib.hid (drop_puts size ps (srt_drop (keysP ps) hsrt.1))
  have HDD := Lib.hid (drop_drop (keysP ps) hsrt.1)
  have HOD : Hid (∀ e ∈ olderP ps l, e.k.length ≤ 64 ∧ e.b.length ≤ 67108864) := Lib.hid (fun e he => ⟨(older_ok ps hok.1 e he).k.2, older_sz ps (N := 67108864) (fun x hx => by
    have h1 := sz_used hx
    have h2 := hlens.2.2.1
    unfold szP at h1
    omega) e he⟩)
  have HOF : Hid (∀ e ∈ olderP ps l, fit e.b) := Lib.hid (fun e he => (older_ok ps hok.1 e he).b)
  have HON : Hid ((olderP ps l).length ≤ 4) := Lib.hid (by have := older_len ps l; have := hP.len; omega)
  clear h hp hKp hP hk hsrt hok hus hlens hnd
  go_enter Try.func78, Try.ntmps78
  go_wp2_with fail
  refine CT.out.mono ?_
  rintro e w1 ⟨rv, n', rfl, hT⟩
  obtain ⟨⟨K2, ao, cc, us, erv, hn', hK2, hS1, hO1⟩, hk1, hsz⟩ := hT
  subst erv
  have HK2 := Lib.hid hK2
  have HK1 := Lib.hid hk1
  have HO1 := Lib.hid hO1
  have HN' := Lib.hid hn'
  have hP1 := (HP.out.kpt hk1).more hK2
  have hc1 : StC w1 p s := hk1.cell (show w.cell? ⟨p, 5, none⟩ = _ from HSC.out) HKP.out
  have CP := Lib.hid (vput_c w0 w1 p s size (dropP (keysP ps) l) m K2 hS1 hc1 (hK2 p HKP.out) a n c ps vs hP1 hn HKL.out)
  obtain ⟨R, hR⟩ : ∃ R, R = putsP size ps (dropP (keysP ps) l) := ⟨_, rfl⟩
  rw [← hR] at CP HDP
  have HR := Lib.hid hR
  have hor := puts_or3 size ps (dropP (keysP ps) l)
  rw [← hR] at hor
  have HC1 := Lib.hid hc1
  have HP1 := Lib.hid hP1
  clear CT hK2 hS1 hO1 hk1 hsz hn' hP1 hc1 hR
  go_wp2_with fail
  refine CP.out.mono ?_
  rintro e w2 ⟨rfl, hS2, hk2⟩
  have hc2 : StC w2 p s := hk2.cell (show w1.cell? ⟨p, 5, none⟩ = _ from HC1.out) (HK2.out p HKP.out)
  have HS2 := Lib.hid hS2
  have HK12 := Lib.hid hk2
  obtain ⟨code, hcode⟩ : ∃ code, code = R.1 := ⟨_, rfl⟩
  rw [← hcode] at hor ⊢
  have HCD := Lib.hid hcode
  by_cases h0 : code = 0
  · subst h0
    have HSV : Hid (saveP size ps l = (0, R.2)) := Lib.hid (by rw [saveP_ok (by rw [← HR.out]; exact HCD.out.symm), HR.out])
    have q0 := nilNe
    have CY := Lib.hid (hS2.sync)
    have d5 : w2.cell? ⟨p, 5, none⟩ = some (.pointer (some ⟨s, 0, none⟩)) := hc2
    clear hS2 hk2 hc2 hor CP hcode
    rw [show errF ((0 : Nat) : Int) = .nilIface from rfl]
    go_wp2_with fail
    refine CY.out.mono ?_
    rintro e w3 ⟨rfl, hS3, hk3⟩
    have HF : Hid (SvO w0 w s size l m K (0, R.2) w3) := Lib.hid ⟨fun _ => hS3.less HK2.out, fun h => absurd rfl h, HK1.out.trans ((HK12.out.trans hk3).less HK2.out)⟩
    clear hS3 hk3 d5
    go_wp2
    go_ret
    exact ⟨by rw [HSV.out]; rfl, by rw [HSV.out]; exact HF.out⟩
  · have HSV : Hid (saveP size ps l = (code, l)) := Lib.hid (by rw [saveP_no (by rw [← HR.out, ← HCD.out]; exact h0), ← HR.out, ← HCD.out])
    have CT2 := Lib.hid (takeOut_c w0 w2 p s size R.2 m K2 hS2 hc2 (HK2.out p HKP.out) a n c ps vs (HP1.out.kpt hk2) hn (fun e he => (HKL.out e he).1))
    have q5 := five_neq
    have q9 := nine_neq
    have H0 := Lib.hid h0
    have hor2 : code = 5 ∨ code = 9 := by omega
    clear hS2 hk2 hc2 hor CP hcode h0
    rcases hor2 with rfl | rfl
    all_goals
      first
        | rw [show errF ((5 : Nat) : Int) = errnoF 5 from rfl]
        | rw [show errF ((9 : Nat) : Int) = errnoF 9 from rfl]
      go_wp2_with fail
      refine CT2.out.mono ?_
      rintro e w3 ⟨rv3, n3, rfl, hT⟩
      obtain ⟨⟨K3, a3, c3, us3, erv3, hn3, hK3, hS3, hO3⟩, hk3, hsz3⟩ := hT
      subst erv3
      rw [HDP.out, HDD.out] at hS3
      have hP3 : PsIn w3 K3 ao n' cc (olderP ps l) us := by
        have := ((HO1.out.kpt HK12.out).kpt hk3).in HOF.out
        rw [← HN'.out] at this
        exact this.more hK3
      have hc3 : StC w3 p s := (HK12.out.trans hk3).cell (show w1.cell? ⟨p, 5, none⟩ = _ from HC1.out) (HK2.out p HKP.out)
      have CP2 := vput_c w0 w3 p s size (dropP (keysP ps) l) m K3 hS3 hc3 (hK3 p (HK2.out p HKP.out)) ao n' cc (olderP ps l) us hP3 (by rw [HN'.out]; exact HON.out) HOD.out
      rw [HRS.out] at CP2
      have CP2 := Lib.hid CP2
      have HK3 := Lib.hid hK3
      have HK13 := Lib.hid (HK12.out.trans hk3)
      clear hn3 hK3 hS3 hO3 hk3 hsz3 hP3 hc3 CT2
      go_wp2_with fail
      refine CP2.out.mono ?_
      rintro e w4 ⟨rfl, hS4, hk4⟩
      have HF : Hid (SvO w0 w s size l m K (_, l) w4) := Lib.hid ⟨fun h => absurd h H0.out, fun _ => hS4.less (fun k hk => HK3.out k (HK2.out k hk)), HK1.out.trans ((HK13.out.trans (hk4.less HK3.out)).less HK2.out)⟩
      clear hS4 hk4
      go_wp2
      go_ret
      exact ⟨by rw [HSV.out]; rfl, by rw [HSV.out]; exact HF.out⟩
end Go.Proofs.Ytnhnpfhfcbmmlaa
