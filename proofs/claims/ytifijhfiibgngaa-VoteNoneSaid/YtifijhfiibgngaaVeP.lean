/- What a voter does to its store, plainly: older pairs out, new ones in, or all as it was; pairs in memory. No conditions but those stated. -/
import Derived.Test.YtifijhfiibgngaaVdL
namespace Go.Proofs.Ytifijhfiibgngaa
open Go Go.RowKit
set_option linter.unusedVariables false
set_option linter.unusedSimpArgs false

def keysP (ps : List Pr) : List Ky := ps.map (·.k)
def hitP (k : Ky) (l : List Pr) : List Pr := match findP k l with
  | some r => [⟨k, r⟩]
  | none => []
def olderP : List Pr → List Pr → List Pr
  | [], _ => []
  | e :: ps, l => hitP e.k l ++ olderP ps (cutP e.k l)
theorem olderP_snoc (ps : List Pr) (e : Pr) (l : List Pr) : olderP (ps ++ [e]) l = olderP ps l ++ hitP e.k (dropP (keysP ps) l) := by
  induction ps generalizing l with
  | nil => simp [olderP, keysP, dropP]
  | cons a ps ih =>
    simp only [List.cons_append, olderP]
    rw [ih, List.append_assoc]
    rfl
theorem dropP_snoc (ps : List Pr) (e : Pr) (l : List Pr) : dropP (keysP (ps ++ [e])) l = cutP e.k (dropP (keysP ps) l) := by
  unfold keysP
  rw [List.map_append, List.map_singleton]
  exact dropP_app _ _ _
def putsP (size : Int) : List Pr → List Pr → Nat × List Pr
  | [], l => (0, l)
  | e :: ps, l => if putN size e.k e.b l = 0 then putsP size ps (putP e.k e.b l) else (putN size e.k e.b l, l)
/-- The store behind a save, and its answer. -/
def saveP (size : Int) (ps l : List Pr) : Nat × List Pr :=
  if (putsP size ps (dropP (keysP ps) l)).1 = 0 then (0, (putsP size ps (dropP (keysP ps) l)).2) else ((putsP size ps (dropP (keysP ps) l)).1, l)
theorem find_drop (ks : List Ky) (g : Ky) (l : List Pr) : findP g (dropP ks l) = if g ∈ ks then none else findP g l := by
  induction ks generalizing l with
  | nil => simp [dropP]
  | cons k ks ih =>
    show findP g (dropP ks (cutP k l)) = _
    rw [ih, findP_cut]
    by_cases h1 : g ∈ ks
    · rw [if_pos h1, if_pos (List.mem_cons_of_mem _ h1)]
    · rw [if_neg h1]
      by_cases h2 : g = k
      · rw [if_pos h2, if_pos (by rw [h2]; exact List.mem_cons_self)]
      · rw [if_neg h2, if_neg (fun h => (List.mem_cons.1 h).elim h2 h1)]
theorem srt_puts (size : Int) (ps : List Pr) {l : List Pr} (h : SrtP l) : SrtP (putsP size ps l).2 := by
  induction ps generalizing l with
  | nil => exact h
  | cons e ps ih =>
    unfold putsP
    split
    · exact ih (srt_put h)
    · exact h
theorem find_puts_other (size : Int) (ps : List Pr) (l : List Pr) {g : Ky} (hg : g ∉ keysP ps) : findP g (putsP size ps l).2 = findP g l := by
  induction ps generalizing l with
  | nil => rfl
  | cons e ps ih =>
    have h1 : g ≠ e.k := fun h => hg (by rw [h]; exact List.mem_cons_self)
    have h2 : g ∉ keysP ps := fun h => hg (List.mem_cons_of_mem _ h)
    unfold putsP
    split
    · rw [ih _ h2, findP_put, if_neg h1]
    · rfl
theorem find_puts_in (size : Int) (ps : List Pr) (l : List Pr) (hn : (keysP ps).Nodup) (h0 : (putsP size ps l).1 = 0) : ∀ e ∈ ps, findP e.k (putsP size ps l).2 = some e.b := by
  induction ps generalizing l with
  | nil => intro e he; cases he
  | cons a ps ih =>
    have hn2 : a.k ∉ keysP ps ∧ (keysP ps).Nodup := List.nodup_cons.1 hn
    unfold putsP at h0 ⊢
    by_cases hp : putN size a.k a.b l = 0
    · rw [if_pos hp] at h0 ⊢
      intro e he
      rcases List.mem_cons.1 he with rfl | he
      · rw [find_puts_other size ps _ hn2.1, findP_put, if_pos rfl]
      · exact ih _ hn2.2 h0 e he
    · rw [if_neg hp] at h0
      exact absurd h0 hp
theorem drop_puts (size : Int) (ps : List Pr) {l : List Pr} (h : SrtP l) : dropP (keysP ps) (putsP size ps l).2 = dropP (keysP ps) l := by
  refine pr_ext (srt_drop _ (srt_puts size ps h)) (srt_drop _ h) (fun k => ?_)
  rw [find_drop, find_drop]
  by_cases hk : k ∈ keysP ps
  · rw [if_pos hk, if_pos hk]
  · rw [if_neg hk, if_neg hk, find_puts_other size ps l hk]
theorem drop_drop (ks : List Ky) {l : List Pr} (h : SrtP l) : dropP ks (dropP ks l) = dropP ks l := by
  refine pr_ext (srt_drop _ (srt_drop _ h)) (srt_drop _ h) (fun k => ?_)
  rw [find_drop, find_drop]
  split <;> rfl
theorem used_cutv_le (k : Ky) (l : List Pr) : usedP (cutP k l) ≤ usedP l := by
  have := used_drop_le [k] l
  exact this
/-- What was taken out finds room again. -/
theorem restore (size : Int) (ps : List Pr) {l : List Pr} (hs : SrtP l) (ho : ∀ e ∈ l, OkP e) (hu : (usedP l : Int) ≤ size) (hn : (keysP ps).Nodup) : putsP size (olderP ps l) (dropP (keysP ps) l) = (0, l) := by
  induction ps generalizing l with
  | nil => rfl
  | cons a ps ih =>
    have hn2 : a.k ∉ keysP ps ∧ (keysP ps).Nodup := List.nodup_cons.1 hn
    have e1 : dropP (keysP (a :: ps)) l = dropP (keysP ps) (cutP a.k l) := rfl
    have hold : olderP ps (cutP a.k l) = olderP ps l := by
      clear ih hn e1
      obtain ⟨h1, h2⟩ := hn2
      have key : ∀ (qs : List Pr) (x y : List Pr), (∀ g ∈ keysP qs, findP g x = findP g y) → (keysP qs).Nodup → olderP qs x = olderP qs y := by
        intro qs
        induction qs with
        | nil => intro x y _ _; rfl
        | cons q qs ih =>
          intro x y hxy hnd
          have hnd2 : q.k ∉ keysP qs ∧ (keysP qs).Nodup := List.nodup_cons.1 hnd
          have e2 : hitP q.k x = hitP q.k y := by unfold hitP; rw [hxy q.k List.mem_cons_self]
          simp only [olderP]
          rw [e2]
          congr 1
          refine ih _ _ (fun g hg => ?_) hnd2.2
          rw [findP_cut, findP_cut, hxy g (List.mem_cons_of_mem _ hg)]
      refine key ps _ _ (fun g hg => ?_) h2
      rw [findP_cut, if_neg (fun e => h1 (by rw [← e]; exact hg))]
    simp only [olderP]
    rw [e1, hold]
    unfold hitP
    cases hf : findP a.k l with
    | none =>
      rw [cut_miss (findP_none.1 hf)]
      exact ih hs ho hu hn2.2
    | some r =>
      have hput : putP a.k r (dropP (keysP ps) (cutP a.k l)) = dropP (keysP ps) l := by
        refine pr_ext (srt_put (srt_drop _ (srt_cut hs))) (srt_drop _ hs) (fun g => ?_)
        rw [findP_put, find_drop, find_drop, findP_cut]
        by_cases h1 : g = a.k
        · rw [if_pos h1, if_neg (by rw [h1]; exact hn2.1), h1, hf]
        · rw [if_neg h1, if_neg h1]
      have hok := (ho _ (findP_mem hf)).k
      have hN : putN size a.k r (dropP (keysP ps) (cutP a.k l)) = 0 := by
        unfold putN
        rw [if_pos hok, if_neg]
        have h1 := used_cutv_le a.k (dropP (keysP ps) (cutP a.k l))
        have h2 := used_drop_le (keysP ps) (cutP a.k l)
        have h3 := used_cut (k := a.k) hs
        unfold sizeAt at h3
        rw [hf] at h3
        simp only at h3
        omega
      show putsP size (⟨a.k, r⟩ :: olderP ps l) _ = _
      unfold putsP
      rw [if_pos hN, hput]
      exact ih hs ho hu hn2.2
theorem older_ok (ps : List Pr) {l : List Pr} (ho : ∀ e ∈ l, OkP e) : ∀ e ∈ olderP ps l, OkP e := by
  induction ps generalizing l with
  | nil => intro e he; cases he
  | cons a ps ih =>
    intro e he
    simp only [olderP, List.mem_append] at he
    rcases he with he | he
    · unfold hitP at he
      split at he
      · rename_i r hf
        rw [List.mem_singleton] at he
        rw [he]
        exact ho _ (findP_mem hf)
      · cases he
    · exact ih (ok_cut ho) e he
theorem older_sz (ps : List Pr) {l : List Pr} {N : Nat} (ho : ∀ e ∈ l, e.b.length ≤ N) : ∀ e ∈ olderP ps l, e.b.length ≤ N := by
  induction ps generalizing l with
  | nil => intro e he; cases he
  | cons a ps ih =>
    intro e he
    simp only [olderP, List.mem_append] at he
    rcases he with he | he
    · unfold hitP at he
      split at he
      · rename_i r hf
        rw [List.mem_singleton] at he
        rw [he]
        exact ho _ (findP_mem hf)
      · cases he
    · exact ih (fun e he => ho e (cut_sub e he)) e he
theorem older_len (ps l : List Pr) : (olderP ps l).length ≤ ps.length := by
  induction ps generalizing l with
  | nil => exact Nat.le_refl _
  | cons a ps ih =>
    simp only [olderP, List.length_append, List.length_cons]
    have h1 : (hitP a.k l).length ≤ 1 := by unfold hitP; split <;> simp
    have := ih (cutP a.k l)
    omega
/-! ### Pairs in memory -/
abbrev tyPr : TypeId := 121
theorem infoPr : (Try.prog.info? 121).map (fun i => (i.zero, i.size, i.bytes)) = some (some (.agg #[.string ⟨#[]⟩, .slice none 0 0]), 2, 40) := by kernel_rfl
def Pr.cs (e : Pr) (v : Value) : List Value := [sv e.k, v]
def cellsPr : List Pr → List Value → List Value
  | l :: ls, v :: vs => l.cs v ++ cellsPr ls vs
  | _, _ => []
theorem cellsPr_len : ∀ {ls : List Pr} {vs : List Value}, vs.length = ls.length → (cellsPr ls vs).length = ls.length * 2
  | [], [], _ => rfl
  | l :: ls, v :: vs, h => by
    have := cellsPr_len (ls := ls) (vs := vs) (by simpa using h)
    simp only [cellsPr, Pr.cs, List.length_append, List.length_cons, List.length_nil, this]
    omega
  | [], _ :: _, h => by simp at h
  | _ :: _, [], h => by simp at h
theorem cellsPr_app : ∀ {ls : List Pr} {vs : List Value}, vs.length = ls.length → ∀ {ms : List Pr} {us : List Value}, cellsPr (ls ++ ms) (vs ++ us) = cellsPr ls vs ++ cellsPr ms us
  | [], [], _, _, _ => rfl
  | l :: ls, v :: vs, h, ms, us => by
    have := cellsPr_app (ls := ls) (vs := vs) (by simpa using h) (ms := ms) (us := us)
    simp only [List.cons_append, cellsPr, this, List.append_assoc]
  | [], _ :: _, h, _, _ => by simp at h
  | _ :: _, [], h, _, _ => by simp at h
theorem cellsPr_one (l : Pr) (v : Value) : cellsPr [l] [v] = l.cs v := by simp [cellsPr]
theorem cellsPr_at : ∀ {ls : List Pr} {vs : List Value}, vs.length = ls.length → ∀ {j i : Nat}, j < ls.length → i < 2 → (cellsPr ls vs)[j * 2 + i]? = ((ls.getD j pr0).cs (vs.getD j undef))[i]?
  | [], [], _, j, i, hj, _ => by simp at hj
  | l :: ls, v :: vs, h, 0, i, _, hi => by
    simp only [cellsPr, Nat.zero_mul, Nat.zero_add, List.getD_cons_zero]
    exact List.getElem?_append_left (by simp [Pr.cs]; omega)
  | l :: ls, v :: vs, h, j + 1, i, hj, hi => by
    have := cellsPr_at (ls := ls) (vs := vs) (by simpa using h) (j := j) (i := i) (by simpa using hj) hi
    simp only [cellsPr, List.getD_cons_succ]
    rw [List.getElem?_append_right (by simp [Pr.cs]; omega), ← this]
    congr 1
    simp [Pr.cs]
    omega
  | [], _ :: _, h, _, _, _, _ => by simp at h
  | _ :: _, [], h, _, _, _, _ => by simp at h
/-- Pairs that can be read, in blocks K. -/
structure PsIn (w : World) (K : Nat → Prop) (a : Option Addr) (n c : Nat) (ps : List Pr) (vs : List Value) : Prop where
  len : ps.length = n
  vlen : vs.length = ps.length
  room : n ≤ c
  here : ps = [] ∨ ∃ b off, a = some ⟨b, off, .none⟩ ∧ K b ∧ ∀ t u, (cellsPr ps vs)[t]? = some u → w.cell? ⟨b, off + t, .none⟩ = some u
  rows : ∀ j, j < n → ∃ ao k cc, vs.getD j undef = .slice ao k cc ∧ In w ao k cc (ps.getD j pr0).b ∧ ∀ ad, ao = some ad → 0 < k → K ad.block
theorem PsIn.kpt {K : Nat → Prop} {w w' : World} {a : Option Addr} {n c : Nat} {ps : List Pr} {vs : List Value} (h : PsIn w K a n c ps vs) (hk : Kpt K w w') : PsIn w' K a n c ps vs := by
  refine ⟨h.len, h.vlen, h.room, ?_, fun j hj => ?_⟩
  · rcases h.here with h0 | ⟨b, off, ha, hb, hc⟩
    · exact .inl h0
    · exact .inr ⟨b, off, ha, hb, fun t u hu => hk.cell (hc t u hu) hb⟩
  · obtain ⟨ao, k, cc, e, hI, hK⟩ := h.rows j hj
    exact ⟨ao, k, cc, e, hI.kpt hk hK, hK⟩
theorem PsIn.more {K K2 : Nat → Prop} {w : World} {a : Option Addr} {n c : Nat} {ps : List Pr} {vs : List Value} (h : PsIn w K a n c ps vs) (hk : ∀ k, K k → K2 k) : PsIn w K2 a n c ps vs := by
  refine ⟨h.len, h.vlen, h.room, ?_, fun j hj => ?_⟩
  · rcases h.here with h0 | ⟨b, off, ha, hb, hc⟩
    · exact .inl h0
    · exact .inr ⟨b, off, ha, hk _ hb, hc⟩
  · obtain ⟨ao, k, cc, e, hI, hK⟩ := h.rows j hj
    exact ⟨ao, k, cc, e, hI, fun ad e2 h2 => hk _ (hK ad e2 h2)⟩
theorem PsIn.block {w : World} {K : Nat → Prop} {a : Option Addr} {n c : Nat} {ps : List Pr} {vs : List Value} (h : PsIn w K a n c ps vs) (hn : 0 < n) : ∃ b off, a = some ⟨b, off, .none⟩ ∧ K b := by
  rcases h.here with h0 | ⟨b, off, ha, hb, _⟩
  · have := h.len; rw [h0] at this; simp at this; omega
  · exact ⟨b, off, ha, hb⟩
theorem PsIn.cell {w : World} {K : Nat → Prop} {b off n c : Nat} {ps : List Pr} {vs : List Value} (h : PsIn w K (some ⟨b, off, .none⟩) n c ps vs) {j : Nat} (hj : j < n) : w.cell? ⟨b, off + j * 2, .none⟩ = some (sv (ps.getD j pr0).k) ∧ w.cell? ⟨b, off + j * 2 + 1, .none⟩ = some (vs.getD j undef) := by
  have hl := h.len
  rcases h.here with h0 | ⟨b', off', ha, _, hc⟩
  · rw [h0] at hl; simp at hl; omega
  · cases ha
    have g0 := hc (j * 2 + 0) (sv (ps.getD j pr0).k) (by rw [cellsPr_at h.vlen (by omega) (by omega)]; rfl)
    have g1 := hc (j * 2 + 1) (vs.getD j undef) (by rw [cellsPr_at h.vlen (by omega) (by omega)]; rfl)
    exact ⟨g0, by rw [Nat.add_assoc]; exact g1⟩
theorem memPr {ps : List Pr} {i : Nat} (hi : i < ps.length) : ps.getD i pr0 ∈ ps := by
  rw [List.getD_eq_getElem?_getD, List.getElem?_eq_getElem hi]
  exact List.getElem_mem _
theorem take_morePr (ps : List Pr) {i : Nat} (hi : i < ps.length) : ps.take (i + 1) = ps.take i ++ [ps.getD i pr0] := take_more ps pr0 hi
/-- The store is left alone by what writes blocks of K; new blocks may be taken into K. -/
theorem SOn.wgrow {w0 w w' : World} {p : Nat} {size : Int} {l m : List Pr} {K T : Nat → Prop} (h : SOn w0 w p size l m K) (ht : Tch T w w') (hT : ∀ k, T k → K k ∧ w0.heap.size ≤ k) : SOn w0 w' p size l m (fun k => K k ∨ (w.heap.size ≤ k ∧ k < w'.heap.size)) := by
  obtain ⟨F, hst, hK⟩ := h.st
  refine ⟨⟨F, hst.keep ht (fun k hF hT2 => hK k (hT k hT2).1 hF), fun k hk hF => ?_⟩, h.bel.trans (ht.below (fun k hk => (hT k hk).2) h.bel.size), fun k hk => ?_⟩
  · rcases hk with hk | hk
    · exact hK k hk hF
    · have := (hst.blocks k hF).2; omega
  · rcases hk with hk | hk
    · exact Nat.lt_of_lt_of_le (h.lt k hk) ht.size
    · exact hk.2
end Go.Proofs.Ytifijhfiibgngaa
