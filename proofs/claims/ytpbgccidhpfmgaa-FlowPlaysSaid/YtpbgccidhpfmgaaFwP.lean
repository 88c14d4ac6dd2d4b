/- A table of flows, plainly. No conditions but those stated. -/
import Derived.Test.YtpbgccidhpfmgaaHsP
namespace Go.Proofs.Ytpbgccidhpfmgaa
open Go Go.RowKit
set_option linter.unusedVariables false
set_option linter.unusedSimpArgs false

theorem Fl.same {a b : Fl} : a = b ↔ a.p = b.p ∧ a.s = b.s ∧ a.sp = b.sp ∧ a.d = b.d ∧ a.dp = b.dp := by
  cases a; cases b; simp
instance : DecidableEq Fl := fun a b => decidable_of_iff _ Fl.same.symm
/-- The order of flows. -/
def ltF (a b : Fl) : Prop := a.p < b.p ∨ (a.p = b.p ∧ (a.s < b.s ∨ (a.s = b.s ∧ (a.sp < b.sp ∨ (a.sp = b.sp ∧ (a.d < b.d ∨ (a.d = b.d ∧ a.dp < b.dp)))))))
instance (a b : Fl) : Decidable (ltF a b) := by unfold ltF; infer_instance
theorem ltF_irr (a : Fl) : ¬ ltF a a := by unfold ltF; omega
theorem ltF_trans {a b c : Fl} (h : ltF a b) (h2 : ltF b c) : ltF a c := by unfold ltF at *; omega
theorem ltF_total {a b : Fl} (h : ¬ ltF a b) : a = b ∨ ltF b a := by
  rw [Fl.same]
  unfold ltF at *
  omega
theorem ltF_asym {a b : Fl} (h : ltF a b) : ¬ ltF b a := fun h2 => ltF_irr a (ltF_trans h h2)
/-- A flow in form; a time that may be; a flow as memory has it. -/
def GoodF (f : Fl) : Prop := (f.p = 6 ∨ f.p = 17) ∧ 0 ≤ f.sp ∧ f.sp < 65536 ∧ 0 ≤ f.dp ∧ f.dp < 65536
instance (f : Fl) : Decidable (GoodF f) := by unfold GoodF; infer_instance
def OkN (n : Int) : Prop := 0 ≤ n ∧ n ≤ 1099511627776
instance (n : Int) : Decidable (OkN n) := by unfold OkN; infer_instance
def InN (n : Int) : Prop := -9223372036854775808 ≤ n ∧ n ≤ 9223372036854775807
def In32 (n : Int) : Prop := 0 ≤ n ∧ n < 4294967296
structure FitF (f : Fl) : Prop where
  p : InN f.p
  s : In32 f.s
  sp : InN f.sp
  d : In32 f.d
  dp : InN f.dp
/-- An entry. -/
structure En where
  f : Fl
  dip : Int
  ep : Int
  tr : Bool
  cl : Bool
  la : Int
theorem En.same {a b : En} : a = b ↔ a.f = b.f ∧ a.dip = b.dip ∧ a.ep = b.ep ∧ a.tr = b.tr ∧ a.cl = b.cl ∧ a.la = b.la := by
  cases a; cases b; simp
instance : DecidableEq En := fun a b => decidable_of_iff _ En.same.symm
def fl0 : Fl := ⟨0, 0, 0, 0, 0⟩
def en0 : En := ⟨fl0, 0, 0, false, false, 0⟩
structure FitE (e : En) : Prop where
  f : FitF e.f
  dip : In32 e.dip
  ep : InN e.ep
  la : OkN e.la
/-- The entries of a table, in the order of their flows. -/
def SrtE (l : List En) : Prop := l.Pairwise (fun a b => ltF a.f b.f)
def findE (f : Fl) (l : List En) : Option En := l.find? (fun e => decide (e.f = f))
def trE (l : List En) : Nat := l.countP (fun e => e.tr)
def unE (l : List En) : Nat := l.countP (fun e => !e.tr)
def cutE (f : Fl) (l : List En) : List En := l.filter (fun e => !decide (e.f = f))
def insE (x : En) : List En → List En
  | [] => [x]
  | e :: l => if ltF x.f e.f then x :: e :: l else e :: insE x l
def setE (x : En) (l : List En) : List En := l.map (fun e => if e.f = x.f then x else e)
def oldS (a : Option En) (e : En) : Option En := if e.tr then a else match a with | none => some e | some b => if e.la < b.la then some e else some b
def oldE (l : List En) : Option En := l.foldl oldS none
def newE (f : Fl) (dip ep now : Int) : En := ⟨f, dip, ep, false, false, now⟩
def putE (qu : Int) (f : Fl) (dip ep now : Int) (l : List En) : Option En × Int × List En :=
  if ¬ GoodF f then (none, 9, l) else if ¬ OkN now then (none, 4, l) else
  match findE f l with
  | some e => (none, 0, setE ⟨f, dip, ep, e.tr, false, now⟩ l)
  | none => if qu = 0 then (none, 5, l) else if (unE l : Int) < qu then (none, 0, insE (newE f dip ep now) l) else
    match oldE l with
    | some o => (some o, 0, insE (newE f dip ep now) (cutE o.f l))
    | none => (none, 0, insE (newE f dip ep now) l)
def finB (p flags : Int) : Bool := p == 6 && (bits .and .i64 flags 1 == 1 || bits .and .i64 flags 4 == 4)
def synB (p flags : Int) : Bool := p == 6 && bits .and .i64 flags 2 == 2
def tchE (qt flags now : Int) (n : Nat) (e : En) : En :=
  ⟨e.f, e.dip, e.ep, e.tr || (!synB e.f.p flags && decide ((n : Int) < qt)), if finB e.f.p flags then true else if synB e.f.p flags then false else e.cl, now⟩
def touchE (qt : Int) (f : Fl) (flags now : Int) (l : List En) : Bool × List En :=
  match findE f l with
  | none => (false, l)
  | some e => if OkN now then (true, setE (tchE qt flags now (trE l) e) l) else (false, l)
def remE : List Fl → List En → Nat × List En
  | [], l => (0, l)
  | f :: fs, l => ((if (findE f l).isSome then 1 else 0) + (remE fs (cutE f l)).1, (remE fs (cutE f l)).2)
def limE (e : En) : Int := if e.cl then 5 else if e.tr then 60 else 10
def idleE (now : Int) (e : En) : Bool := decide (limE e < now - e.la)
def expE (now : Int) (l : List En) : List Fl × List En := if OkN now then ((l.filter (idleE now)).map (·.f), l.filter (fun e => !idleE now e)) else ([], l)

/-! What these keep. -/
theorem tr_un (l : List En) : trE l + unE l = l.length := by
  unfold trE unE
  induction l with
  | nil => rfl
  | cons e l ih => cases h : e.tr <;> simp [List.countP_cons, h] <;> omega
theorem findE_some {f : Fl} {l : List En} {e : En} (h : findE f l = some e) : e ∈ l ∧ e.f = f := ⟨List.mem_of_find?_eq_some h, by simpa using List.find?_some h⟩
theorem findE_none {f : Fl} {l : List En} : findE f l = none ↔ ∀ e ∈ l, e.f ≠ f := by
  unfold findE
  rw [List.find?_eq_none]
  exact ⟨fun h e he e2 => h e he (by simpa using e2), fun h e he e2 => h e he (by simpa using e2)⟩
theorem srt_one {l : List En} (h : SrtE l) {a b : En} (ha : a ∈ l) (hb : b ∈ l) (e : a.f = b.f) : a = b := by
  have h2 := List.pairwise_iff_getElem.1 h
  obtain ⟨i, hi, rfl⟩ := List.mem_iff_getElem.1 ha
  obtain ⟨j, hj, rfl⟩ := List.mem_iff_getElem.1 hb
  rcases Nat.lt_trichotomy i j with q | q | q
  · exact absurd (e ▸ h2 i j hi hj q) (ltF_irr _)
  · subst q; rfl
  · exact absurd (e ▸ h2 j i hj hi q) (ltF_irr _)
theorem findE_mem {f : Fl} {l : List En} (h : SrtE l) {e : En} (he : e ∈ l) (hf : e.f = f) : findE f l = some e := by
  cases h2 : findE f l with
  | none => exact absurd hf (findE_none.1 h2 e he)
  | some x =>
    have h3 := findE_some h2
    rw [srt_one h h3.1 he (h3.2.trans hf.symm)]
theorem setE_len (x : En) (l : List En) : (setE x l).length = l.length := List.length_map _
theorem setE_f (x : En) (l : List En) : (setE x l).map (·.f) = l.map (·.f) := by
  unfold setE
  rw [List.map_map]
  apply List.map_congr_left
  intro e _
  simp only [Function.comp]
  split
  · rename_i h; exact h.symm
  · rfl
theorem srt_map {l m : List En} (h : SrtE l) (e : m.map (·.f) = l.map (·.f)) : SrtE m := by
  have h1 : (l.map (·.f)).Pairwise ltF := List.pairwise_map.2 h
  rw [← e] at h1
  exact List.pairwise_map.1 h1
theorem SrtE.set {l : List En} (h : SrtE l) (x : En) : SrtE (setE x l) := srt_map h (setE_f x l)
theorem SrtE.cut {l : List En} (h : SrtE l) (f : Fl) : SrtE (cutE f l) := List.Pairwise.sublist List.filter_sublist h
theorem insE_mem {x e : En} {l : List En} : e ∈ insE x l ↔ e = x ∨ e ∈ l := by
  induction l with
  | nil => simp [insE]
  | cons a l ih =>
    unfold insE
    split
    · simp
    · simp only [List.mem_cons, ih]
      constructor
      · rintro (h | h | h)
        · exact .inr (.inl h)
        · exact .inl h
        · exact .inr (.inr h)
      · rintro (h | h | h)
        · exact .inr (.inl h)
        · exact .inl h
        · exact .inr (.inr h)
theorem insE_perm (x : En) (l : List En) : (insE x l).Perm (x :: l) := by
  induction l with
  | nil => exact .refl _
  | cons a l ih =>
    unfold insE
    split
    · exact .refl _
    · exact (ih.cons a).trans (.swap x a l)
theorem insE_len (x : En) (l : List En) : (insE x l).length = l.length + 1 := (insE_perm x l).length_eq
theorem SrtE.ins {l : List En} (h : SrtE l) {x : En} (hx : findE x.f l = none) : SrtE (insE x l) := by
  induction l with
  | nil => exact List.pairwise_singleton _ _
  | cons a l ih =>
    have h1 := List.pairwise_cons.1 h
    have hn := findE_none.1 hx
    unfold insE
    split
    · rename_i hlt
      refine List.pairwise_cons.2 ⟨fun e he => ?_, h⟩
      rcases List.mem_cons.1 he with rfl | he
      · exact hlt
      · exact ltF_trans hlt (h1.1 e he)
    · rename_i hlt
      refine List.pairwise_cons.2 ⟨fun e he => ?_, ih h1.2 (findE_none.2 (fun e he => hn e (List.mem_cons_of_mem _ he)))⟩
      rcases insE_mem.1 he with rfl | he
      · rcases ltF_total hlt with e2 | h2
        · exact absurd e2.symm (hn a List.mem_cons_self)
        · exact h2
      · exact h1.1 e he
theorem cutE_len (f : Fl) (l : List En) : (cutE f l).length ≤ l.length := List.length_filter_le _ _
theorem findE_cut {f g : Fl} {l : List En} : findE g (cutE f l) = if g = f then none else findE g l := by
  split
  · rename_i h
    subst h
    rw [findE_none]
    intro e he
    have := (List.mem_filter.1 he).2
    simpa using this
  · rename_i h
    unfold findE cutE
    induction l with
    | nil => rfl
    | cons a l ih =>
      by_cases h2 : a.f = f
      · rw [List.filter_cons_of_neg (by simp [h2]), ih, List.find?_cons_of_neg (by simp [h2]; exact fun e => h e.symm)]
      · rw [List.filter_cons_of_pos (by simp [h2])]
        by_cases h3 : a.f = g
        · rw [List.find?_cons_of_pos (by simp [h3]), List.find?_cons_of_pos (by simp [h3])]
        · rw [List.find?_cons_of_neg (by simp [h3]), List.find?_cons_of_neg (by simp [h3]), ih]
theorem findE_ins {x : En} {g : Fl} {l : List En} (hs : SrtE l) (hx : findE x.f l = none) : findE g (insE x l) = if g = x.f then some x else findE g l := by
  split
  · rename_i h
    exact findE_mem (hs.ins hx) (insE_mem.2 (.inl rfl)) h.symm
  · rename_i h
    cases h2 : findE g l with
    | none =>
      rw [findE_none]
      intro e he e2
      rcases insE_mem.1 he with rfl | he
      · exact h e2.symm
      · exact findE_none.1 h2 e he e2
    | some a =>
      have h3 := findE_some h2
      exact findE_mem (hs.ins hx) (insE_mem.2 (.inr h3.1)) h3.2
theorem findE_set {x : En} {g : Fl} {l : List En} (hs : SrtE l) {e : En} (hx : findE x.f l = some e) : findE g (setE x l) = if g = x.f then some x else findE g l := by
  have h0 := findE_some hx
  split
  · rename_i h
    refine findE_mem (hs.set x) ?_ h.symm
    exact List.mem_map.2 ⟨e, h0.1, if_pos h0.2⟩
  · rename_i h
    cases h2 : findE g l with
    | none =>
      rw [findE_none]
      intro a ha e2
      obtain ⟨b, hb, rfl⟩ := List.mem_map.1 ha
      split at e2
      · exact h e2.symm
      · exact findE_none.1 h2 b hb e2
    | some a =>
      have h3 := findE_some h2
      refine findE_mem (hs.set x) (List.mem_map.2 ⟨a, h3.1, if_neg ?_⟩) h3.2
      rw [h3.2]
      exact h
end Go.Proofs.Ytpbgccidhpfmgaa
