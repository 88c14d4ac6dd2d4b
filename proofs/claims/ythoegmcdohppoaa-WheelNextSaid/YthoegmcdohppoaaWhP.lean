/- Timers, plainly: times with their keys; what is due. No conditions but those stated. -/
import Derived.Test.YthoegmcdohppoaaRgP
namespace Go.Proofs.Ythoegmcdohppoaa
set_option linter.unusedVariables false
set_option linter.unusedSimpArgs false

/-- A timer is a time and a key (a Wy). One key taken out; how many had it; one key's time; a key set. -/
def cutT (k : Int) (ts : List Wy) : List Wy := ts.filter (fun t => t.2 != k)
def cntT (k : Int) (ts : List Wy) : Nat := ts.countP (fun t => t.2 == k)
def cutsT (ks : List Int) (ts : List Wy) : List Wy := ks.foldl (fun ts k => cutT k ts) ts
def cntsT : List Int → List Wy → Nat
  | [], _ => 0
  | k :: ks, ts => cntT k ts + cntsT ks (cutT k ts)
def atT (k : Int) (ts : List Wy) : Option Int := (ts.find? (fun t => t.2 == k)).map (·.1)
def putT (a : Int) (ts : List Wy) (k : Int) : List Wy := cutT k ts ++ [(a, k)]
def putsT (a : Int) (ks : List Int) (ts : List Wy) : List Wy := ks.foldl (putT a) ts
def dueT (now : Int) (ts : List Wy) : List Int := ((srtW ts).filter (fun t => decide (t.1 ≤ now))).map (·.2)
def leftT (now : Int) (ts : List Wy) : List Wy := ts.filter (fun t => !decide (t.1 ≤ now))
def nextT (ts : List Wy) : Option Int := (srtW ts).head?.map (·.1)
/-- Each key once. -/
def KeyT (ts : List Wy) : Prop := (ts.map (·.2)).Nodup
theorem KeyT.cut {ts : List Wy} (h : KeyT ts) (k : Int) : KeyT (cutT k ts) := by
  unfold KeyT cutT at *
  exact h.sublist (List.Sublist.map _ (List.filter_sublist))
theorem KeyT.left {ts : List Wy} (h : KeyT ts) (now : Int) : KeyT (leftT now ts) := by
  unfold KeyT leftT at *
  exact h.sublist (List.Sublist.map _ (List.filter_sublist))
theorem KeyT.put {ts : List Wy} (h : KeyT ts) (a k : Int) : KeyT (putT a ts k) := by
  have h1 := h.cut k
  unfold KeyT putT at *
  rw [List.map_append, List.nodup_append]
  refine ⟨h1, by simp, fun x hx y hy => ?_⟩
  simp only [List.map_cons, List.map_nil, List.mem_singleton] at hy
  obtain ⟨t, ht, rfl⟩ := List.mem_map.1 hx
  unfold cutT at ht
  have := (List.mem_filter.1 ht).2
  simp only [bne_iff_ne, ne_eq] at this
  rw [hy]
  exact this
theorem KeyT.puts {a : Int} : ∀ {ks : List Int} {ts : List Wy}, KeyT ts → KeyT (putsT a ks ts)
  | [], _, h => h
  | k :: ks, ts, h => KeyT.puts (ks := ks) (h.put a k)
theorem KeyT.cuts : ∀ {ks : List Int} {ts : List Wy}, KeyT ts → KeyT (cutsT ks ts)
  | [], _, h => h
  | k :: ks, ts, h => KeyT.cuts (ks := ks) (h.cut k)
theorem KeyT.perm {ts us : List Wy} (hp : ts.Perm us) (h : KeyT ts) : KeyT us := (List.Perm.nodup_iff (hp.map (fun t : Wy => t.2))).1 h
/-- The order of timers minds nothing. -/
theorem cutT_perm {ts us : List Wy} (h : ts.Perm us) (k : Int) : (cutT k ts).Perm (cutT k us) := h.filter _
theorem putT_perm {ts us : List Wy} (h : ts.Perm us) (a k : Int) : (putT a ts k).Perm (putT a us k) := (cutT_perm h k).append_right _
theorem leftT_perm {ts us : List Wy} (h : ts.Perm us) (now : Int) : (leftT now ts).Perm (leftT now us) := h.filter _
theorem cntT_perm {ts us : List Wy} (h : ts.Perm us) (k : Int) : cntT k ts = cntT k us := h.countP_eq _
theorem srtW_of_perm {ts us : List Wy} (h : ts.Perm us) : srtW ts = srtW us := sorted_one (srtW_sorted _) (srtW_sorted _) ((srtW_perm ts).trans (h.trans (srtW_perm us).symm))
theorem dueT_perm {ts us : List Wy} (h : ts.Perm us) (now : Int) : dueT now ts = dueT now us := by unfold dueT; rw [srtW_of_perm h]
theorem nextT_perm {ts us : List Wy} (h : ts.Perm us) : nextT ts = nextT us := by unfold nextT; rw [srtW_of_perm h]
theorem cutsT_perm : ∀ {ks : List Int} {ts us : List Wy}, ts.Perm us → (cutsT ks ts).Perm (cutsT ks us)
  | [], _, _, h => h
  | k :: ks, _, _, h => cutsT_perm (ks := ks) (cutT_perm h k)
theorem putsT_perm {a : Int} : ∀ {ks : List Int} {ts us : List Wy}, ts.Perm us → (putsT a ks ts).Perm (putsT a ks us)
  | [], _, _, h => h
  | k :: ks, _, _, h => putsT_perm (ks := ks) (putT_perm h a k)
theorem cntsT_perm : ∀ {ks : List Int} {ts us : List Wy}, ts.Perm us → cntsT ks ts = cntsT ks us
  | [], _, _, _ => rfl
  | k :: ks, _, _, h => by rw [cntsT, cntsT, cntT_perm h k, cntsT_perm (ks := ks) (cutT_perm h k)]
theorem key_one {ts : List Wy} (hk : KeyT ts) {t u : Wy} (ht : t ∈ ts) (hu : u ∈ ts) (e : t.2 = u.2) : t = u := by
  unfold KeyT at hk
  rw [List.Nodup, List.pairwise_map] at hk
  have h := List.pairwise_iff_getElem.1 hk
  obtain ⟨i, hi, rfl⟩ := List.mem_iff_getElem.1 ht
  obtain ⟨j, hj, rfl⟩ := List.mem_iff_getElem.1 hu
  rcases Nat.lt_trichotomy i j with q | q | q
  · exact absurd e (h i j hi hj q)
  · subst q; rfl
  · exact absurd e.symm (h j i hj hi q)
theorem atT_some {ts : List Wy} (hk : KeyT ts) {k a : Int} : atT k ts = some a ↔ (a, k) ∈ ts := by
  unfold atT
  constructor
  · intro h
    cases hf : ts.find? (fun t => t.2 == k) with
    | none => rw [hf] at h; cases h
    | some t =>
      rw [hf] at h
      have h1 := List.mem_of_find?_eq_some hf
      have h2 := List.find?_some hf
      simp only [Option.map_some, Option.some.injEq] at h
      have h3 : t.2 = k := by simpa using h2
      obtain ⟨x, y⟩ := t
      simp only at h h3
      subst h h3
      exact h1
  · intro h
    cases hf : ts.find? (fun t => t.2 == k) with
    | none =>
      have := List.find?_eq_none.1 hf _ h
      simp at this
    | some t =>
      have h1 := List.mem_of_find?_eq_some hf
      have h2 := List.find?_some hf
      have h3 : t.2 = k := by simpa using h2
      rw [key_one hk h1 h h3]
      rfl
theorem atT_none {ts : List Wy} {k : Int} : atT k ts = none ↔ ∀ t ∈ ts, t.2 ≠ k := by
  unfold atT
  rw [Option.map_eq_none_iff, List.find?_eq_none]
  exact ⟨fun h t ht e => h t ht (by simpa using e), fun h t ht e => h t ht (by simpa using e)⟩
theorem atT_perm {ts us : List Wy} (hk : KeyT ts) (h : ts.Perm us) (k : Int) : atT k ts = atT k us := by
  cases e : atT k us with
  | none => exact atT_none.2 (fun t ht => atT_none.1 e t (h.mem_iff.1 ht))
  | some a => exact (atT_some hk).2 (h.mem_iff.2 ((atT_some (hk.perm h)).1 e))
/-- The first one taken out. -/
theorem cut_one {ts : List Wy} (hk : KeyT ts) {t : Wy} (ht : t ∈ ts) : ts.Perm (t :: cutT t.2 ts) := by
  induction ts with
  | nil => cases ht
  | cons u ts ih =>
    have hk' : KeyT ts := by unfold KeyT at *; exact (List.nodup_cons.1 hk).2
    have hu : ∀ x ∈ ts, x.2 ≠ u.2 := fun x hx e => by
      unfold KeyT at hk
      exact (List.nodup_cons.1 hk).1 (List.mem_map.2 ⟨x, hx, e⟩)
    rcases List.mem_cons.1 ht with rfl | ht
    · unfold cutT
      rw [List.filter_cons_of_neg (by simp), List.filter_eq_self.2 (fun x hx => by simpa using hu x hx)]
    · have hne : u.2 ≠ t.2 := fun e => hu t ht e.symm
      unfold cutT at ih ⊢
      rw [List.filter_cons_of_pos (by simpa using hne)]
      exact ((ih hk' ht).cons u).trans (.swap t u _)
theorem srtW_cut {ts : List Wy} (hk : KeyT ts) {t : Wy} (ht : t ∈ ts) (hl : ∀ u ∈ ts, leW t u) : srtW ts = t :: srtW (cutT t.2 ts) := by
  refine sorted_one (srtW_sorted _) (List.pairwise_cons.2 ⟨fun u hu => ?_, srtW_sorted _⟩) ((srtW_perm ts).trans ((cut_one hk ht).trans ((srtW_perm _).symm.cons t)))
  have := (srtW_perm _).mem_iff.1 hu
  unfold cutT at this
  exact hl u (List.mem_filter.1 this).1
theorem due_step {ts : List Wy} (hk : KeyT ts) {t : Wy} (ht : t ∈ ts) (hl : ∀ u ∈ ts, leW t u) {now : Int} (hn : t.1 ≤ now) : dueT now ts = t.2 :: dueT now (cutT t.2 ts) ∧ leftT now (cutT t.2 ts) = leftT now ts := by
  constructor
  · unfold dueT
    rw [srtW_cut hk ht hl, List.filter_cons_of_pos (by simpa using hn)]
    rfl
  · unfold leftT cutT
    rw [List.filter_filter]
    apply List.filter_congr
    intro u hu
    by_cases e : u.2 = t.2
    · rw [key_one hk hu ht e]
      simp [hn]
    · simp [e]
theorem due_end {ts : List Wy} {now : Int} (h : ∀ t ∈ ts, now < t.1) : dueT now ts = [] ∧ leftT now ts = ts := by
  constructor
  · unfold dueT
    rw [List.map_eq_nil_iff, List.filter_eq_nil_iff]
    intro t ht
    have := h t ((srtW_perm ts).mem_iff.1 ht)
    simp
    omega
  · unfold leftT
    rw [List.filter_eq_self]
    intro t ht
    have := h t ht
    simp
    omega
theorem next_is {ts : List Wy} {t : Wy} (ht : t ∈ ts) (hl : ∀ u ∈ ts, leW t u) : nextT ts = some t.1 := by
  unfold nextT
  have hp := srtW_perm ts
  cases e : srtW ts with
  | nil => rw [e] at hp; have := hp.mem_iff.2 ht; cases this
  | cons u us =>
    have hs := srtW_sorted ts
    rw [e] at hs hp
    have hu : u ∈ ts := hp.mem_iff.1 List.mem_cons_self
    have h1 : leW u t := by
      rcases List.mem_cons.1 (hp.mem_iff.2 ht) with h | h
      · rw [h]; exact leW_refl _
      · exact (List.pairwise_cons.1 hs).1 t h
    rw [leW_anti h1 (hl u hu)]
    rfl
theorem next_none : nextT [] = none := rfl
theorem nextT_none {ts : List Wy} : nextT ts = none ↔ ts = [] := by
  unfold nextT
  rw [Option.map_eq_none_iff, List.head?_eq_none_iff]
  constructor
  · intro h
    have := (srtW_perm ts).length_eq
    rw [h] at this
    exact List.eq_nil_of_length_eq_zero this.symm
  · intro h
    rw [h]
    rfl
theorem nextT_some {ts : List Wy} {a : Int} (h : nextT ts = some a) : (∃ k, (a, k) ∈ ts) ∧ ∀ t ∈ ts, a ≤ t.1 := by
  unfold nextT at h
  have hp := srtW_perm ts
  have hs := srtW_sorted ts
  cases e : srtW ts with
  | nil => rw [e] at h; cases h
  | cons u us =>
    rw [e] at h hp hs
    simp only [List.head?_cons, Option.map_some, Option.some.injEq] at h
    subst h
    refine ⟨⟨u.2, hp.mem_iff.1 List.mem_cons_self⟩, fun t ht => ?_⟩
    rcases List.mem_cons.1 (hp.mem_iff.2 ht) with h | h
    · rw [h]; exact Int.le_refl _
    · have := (List.pairwise_cons.1 hs).1 t h
      unfold leW at this
      omega
end Go.Proofs.Ythoegmcdohppoaa
