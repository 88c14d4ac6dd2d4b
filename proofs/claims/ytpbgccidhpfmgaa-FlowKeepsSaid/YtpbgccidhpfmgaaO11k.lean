/- What FlowKeeps' puts make, plainly. No conditions but those stated. What stands beside a table while the statements' own rows grow. No conditions but those stated. The statement FlowKeeps' walk. Conditions: the flows came in; the time fits its kind. From the guide's word for arguments to a row of flows in memory. No conditions. -/
import Derived.Test.YtpbgccidhpfmgaaFqP
import Derived.Test.YtpbgccidhpfmgaaFwX
import Derived.Test.YtpbgccidhpfmgaaFkB
import Derived.Test.YtpbgccidhpfmgaaRowI
import Derived.Deep.AppendLies
import Derived.Deep.QuietTactic
import Derived.BigQuiet
import Derived.OrdersHeld
import Derived.Deep.RegionHeld
import Derived.Deep.CutRange
import Derived.OpenShut
import Derived.SizedLaws
import Derived.Lib.SmallJoins
import Derived.Deep.Slices
import Derived.Deep.Grids
namespace Go.Proofs.Ytpbgccidhpfmgaa
open Go Go.RowKit
set_option linter.unusedVariables false
set_option linter.unusedSimpArgs false

def eK (now : Int) (f : Fl) (j : Nat) : En := ⟨f, j, j, false, false, now + (j % 9 : Nat)⟩
/-- The table behind the first i puts. -/
structure KS (now : Int) (fs : List Fl) (i : Nat) (t : List En) : Prop where
  srt : SrtE t
  len : t.length ≤ i
  is : ∀ e ∈ t, ∃ j, j < i ∧ e = eK now (fs.getD j fl0) j ∧ GoodF (fs.getD j fl0) ∧ ∀ k, j < k → k < i → fs.getD k fl0 ≠ fs.getD j fl0
  all : ∀ j, j < i → GoodF (fs.getD j fl0) → (findE (fs.getD j fl0) t).isSome = true
theorem KS.start (now : Int) (fs : List Fl) : KS now fs 0 [] := ⟨List.Pairwise.nil, Nat.le_refl _, fun e h => by simp at h, fun j h => by omega⟩
theorem KS.un {now : Int} {fs : List Fl} {i : Nat} {t : List En} (h : KS now fs i t) : unE t ≤ i := Nat.le_trans (by have := tr_un t; omega) h.len
/-- One put more. -/
theorem KS.put {now : Int} {fs : List Fl} {i : Nat} {t : List En} (h : KS now fs i t) (hi : i < 200) (n0 : 0 ≤ now) (n1 : now ≤ 549755813888) :
    ∃ t', putE 4096 (fs.getD i fl0) i i (now + (i % 9 : Nat)) t = (none, if GoodF (fs.getD i fl0) then 0 else 9, t') ∧ KS now fs (i + 1) t' := by
  have hok : OkN (now + (i % 9 : Nat)) := by unfold OkN; omega
  by_cases hg : GoodF (fs.getD i fl0)
  · rw [if_pos hg]
    cases hf : findE (fs.getD i fl0) t with
    | none =>
      refine ⟨_, put_room hg hok hf (by decide) (by have := h.un; omega), ?_⟩
      have hx : findE (newE (fs.getD i fl0) i i (now + (i % 9 : Nat))).f t = none := hf
      refine ⟨h.srt.ins hx, by rw [insE_len]; have := h.len; omega, fun e he => ?_, fun j hj hgj => ?_⟩
      · rcases insE_mem.1 he with he' | he'
        · rw [he']
          exact ⟨i, by omega, rfl, hg, fun k h1 h2 => by omega⟩
        · obtain ⟨j, hj, he2, hgj, hk⟩ := h.is e he'
          refine ⟨j, by omega, he2, hgj, fun k h1 h2 => ?_⟩
          by_cases hki : k = i
          · subst hki
            intro e3
            exact findE_none.1 hf e he' (by rw [he2]; exact e3.symm)
          · exact hk k h1 (by omega)
      · rw [findE_ins h.srt hx]
        split
        · rfl
        · rename_i hne
          by_cases hji : j = i
          · subst hji
            exact absurd rfl hne
          · exact h.all j (by omega) hgj
    | some e0 =>
      obtain ⟨he0, hf0⟩ := findE_some hf
      obtain ⟨j0, hj0, e0is, _, _⟩ := h.is e0 he0
      have htr : e0.tr = false := by rw [e0is]; rfl
      refine ⟨_, put_old hg hok hf, ?_⟩
      rw [htr]
      have hx : findE (⟨fs.getD i fl0, i, i, false, false, now + (i % 9 : Nat)⟩ : En).f t = some e0 := hf
      refine ⟨h.srt.set _, by rw [setE_len]; have := h.len; omega, fun e he => ?_, fun j hj hgj => ?_⟩
      · obtain ⟨a, ha, rfl⟩ := List.mem_map.1 he
        split
        · exact ⟨i, by omega, rfl, hg, fun k h1 h2 => by omega⟩
        · rename_i hne
          obtain ⟨j, hj, he2, hgj, hk⟩ := h.is a ha
          refine ⟨j, by omega, he2, hgj, fun k h1 h2 => ?_⟩
          by_cases hki : k = i
          · subst hki
            intro e3
            exact hne (by rw [he2]; exact e3.symm)
          · exact hk k h1 (by omega)
      · rw [findE_set h.srt hx]
        split
        · rfl
        · rename_i hne
          by_cases hji : j = i
          · subst hji
            exact absurd rfl hne
          · exact h.all j (by omega) hgj
  · rw [if_neg hg]
    refine ⟨t, put_form hg, h.srt, Nat.le_succ_of_le h.len, fun e he => ?_, fun j hj hgj => ?_⟩
    · obtain ⟨j, hj, he2, hgj, hk⟩ := h.is e he
      refine ⟨j, by omega, he2, hgj, fun k h1 h2 => ?_⟩
      by_cases hki : k = i
      · subst hki
        intro e3
        rw [e3] at hg
        exact hg hgj
      · exact hk k h1 (by omega)
    · by_cases hji : j = i
      · subst hji
        exact absurd hgj hg
      · exact h.all j (by omega) hgj
/-- Nothing is idle ten ticks later; all is thirty ticks later. -/
theorem KS.lim {now : Int} {fs : List Fl} {i : Nat} {t : List En} (h : KS now fs i t) {e : En} (he : e ∈ t) : limE e = 10 ∧ now ≤ e.la ∧ e.la ≤ now + 8 := by
  obtain ⟨j, _, rfl, _⟩ := h.is e he
  refine ⟨rfl, ?_, ?_⟩
  · show now ≤ now + ((j % 9 : Nat) : Int)
    omega
  · show now + ((j % 9 : Nat) : Int) ≤ now + 8
    omega
theorem KS.no {now : Int} {fs : List Fl} {i : Nat} {t : List En} (h : KS now fs i t) (n0 : 0 ≤ now) (n1 : now ≤ 549755813888) : expE (now + 10) t = ([], t) := by
  unfold expE
  rw [if_pos (by unfold OkN; omega)]
  have hi : ∀ e ∈ t, idleE (now + 10) e = false := fun e he => by
    obtain ⟨h1, h2, h3⟩ := h.lim he
    unfold idleE
    rw [h1]
    exact decide_eq_false (by omega)
  rw [List.filter_eq_nil_iff.2 (fun e he => by rw [hi e he]; simp), List.filter_eq_self.2 (fun e he => by rw [hi e he]; rfl)]
  rfl
theorem KS.yes {now : Int} {fs : List Fl} {i : Nat} {t : List En} (h : KS now fs i t) (n0 : 0 ≤ now) (n1 : now ≤ 549755813888) : (expE (now + 30) t).2 = [] := by
  unfold expE
  rw [if_pos (by unfold OkN; omega)]
  refine List.filter_eq_nil_iff.2 (fun e he => ?_)
  obtain ⟨h1, h2, h3⟩ := h.lim he
  unfold idleE
  rw [h1, decide_eq_true (by omega)]
  simp
/-- The place where a flow stands last. -/
def LastK (fs : List Fl) (i j : Nat) (v : Nat) : Prop := j ≤ v ∧ v < i ∧ fs.getD v fl0 = fs.getD j fl0 ∧ ∀ k, v < k → k < i → fs.getD k fl0 ≠ fs.getD j fl0
theorem KS.get {now : Int} {fs : List Fl} {i j v : Nat} {t : List En} (h : KS now fs i t) (hj : j < i) (hv : LastK fs i j v) : findE (fs.getD j fl0) t = if GoodF (fs.getD j fl0) then some (eK now (fs.getD j fl0) v) else none := by
  obtain ⟨v1, v2, v3, v4⟩ := hv
  cases hf : findE (fs.getD j fl0) t with
  | none =>
    by_cases hg : GoodF (fs.getD j fl0)
    · have := h.all j hj hg
      rw [hf] at this
      cases this
    · rw [if_neg hg]
  | some e =>
    obtain ⟨he, hfe⟩ := findE_some hf
    obtain ⟨k, hk, e1, hg, hl⟩ := h.is e he
    have e2 : fs.getD k fl0 = fs.getD j fl0 := by rw [← hfe, e1]; rfl
    have hkv : k = v := by
      rcases Nat.lt_trichotomy k v with q | q | q
      · exact absurd (v3.trans e2.symm) (hl v q v2)
      · exact q
      · exact absurd e2 (v4 k q hk)
    subst hkv
    rw [if_pos (by rw [← e2]; exact hg), e1, e2]
theorem LastK.start (fs : List Fl) (j : Nat) : LastK fs (j + 1) j j := ⟨Nat.le_refl _, by omega, rfl, fun k h1 h2 => by omega⟩
theorem LastK.yes {fs : List Fl} {i j v : Nat} (h : LastK fs i j v) (e : fs.getD j fl0 = fs.getD i fl0) : LastK fs (i + 1) j i := by
  obtain ⟨v1, v2, v3, v4⟩ := h
  exact ⟨by omega, by omega, e.symm, fun k h1 h2 => by omega⟩
theorem LastK.no {fs : List Fl} {i j v : Nat} (h : LastK fs i j v) (e : fs.getD j fl0 ≠ fs.getD i fl0) : LastK fs (i + 1) j v := by
  obtain ⟨v1, v2, v3, v4⟩ := h
  refine ⟨v1, by omega, v3, fun k h1 h2 => ?_⟩
  by_cases hk : k = i
  · rw [hk]
    exact fun e2 => e e2.symm
  · exact v4 k h1 (by omega)
end Go.Proofs.Ytpbgccidhpfmgaa
namespace Go.Proofs.Ytpbgccidhpfmgaa
open Go Go.RowKit
set_option linter.unusedVariables false
set_option linter.unusedSimpArgs false

/-- Blocks of the caller's own turn: the table stays. -/
theorem TOn.turn {w0 w w' : World} {p : Nat} {qt qu : Int} {l : List En} {K K2 T : Nat → Prop} (h : TOn w0 w p qt qu l K) (ht : Tch T w w') (hT : ∀ k, T k → K k) (hlow : ∀ k, T k → w0.heap.size ≤ k) (hK2 : ∀ k, K2 k → K k ∨ w.heap.size ≤ k) (hl : ∀ k, K2 k → k < w'.heap.size) : TOn w0 w' p qt qu l K2 := by
  obtain ⟨F, h1, h2⟩ := h.st
  refine ⟨⟨F, h1.keep ht (fun k hf hk => h2 k (hT k hk) hf), fun k hk hf => ?_⟩, h.bel.trans (ht.below hlow h.bel.size), hl⟩
  rcases hK2 k hk with h3 | h3
  · exact h2 k h3 hf
  · have := (h1.blocks k hf).2
    omega
theorem TOn.boxes {w0 w W : World} {p : Nat} {qt qu : Int} {l : List En} {K : Nat → Prop} (h : TOn w0 w p qt qu l K) {o : Obj} (hW : W = w.alloc o) : TOn w0 W p qt qu l (fun k => K k ∨ k = w.heap.size) ∧ Kpt K w W := by
  subst hW
  have hb := bl_al (Below.refl w.heap.size w) o
  exact ⟨(h.grow hb).less (fun k hk => hk.imp id (fun e => by subst e; exact ⟨Nat.le_refl _, by simp⟩)), (h.new hb).2⟩
theorem own_kpt {K : Nat → Prop} {w w' : World} {B n size : Nat} {e : TypeId} {v : Value} {xs : List Value} (h : w.ownsRow B e size v n xs) (hk : Kpt K w w') (hv : ∀ k, v.ownBlock = some k → K k) : w'.ownsRow B e size v n xs := by
  refine ⟨h.1, ?_⟩
  rcases h.2 with h0 | ⟨g, cap, cur, hv', h1, h2, h3⟩
  · exact .inl h0
  · exact .inr ⟨g, cap, cur, hv', h1, (hk g (hv g (by rw [hv']; rfl))).trans h2, h3⟩
/-- The statement's state: the table, and a row of ints of its own. -/
structure KpS (w : World) (p : Nat) (l : List En) (g : Value) (xs : List Int) (wr : World) : Prop where
  on : TOn w wr p 0 4096 l (fun k => k < w.heap.size ∨ g.ownBlock = some k)
  row : wr.ownsRow w.heap.size 3 1 g xs.length (i64s xs)
theorem KpS.bel {w wr : World} {p : Nat} {l : List En} {g : Value} {xs : List Int} (h : KpS w p l g xs wr) : Below w.heap.size w wr := h.on.bel
theorem KpS.new {w wr W : World} {p : Nat} {l : List En} {g : Value} {xs : List Int} (h : KpS w p l g xs wr) (hb : Below wr.heap.size wr W) : KpS w p l g xs W := ⟨(h.on.new hb).1, owns_bel h.row hb⟩
/-- Another row in its place: grown out of it. -/
theorem KpS.grown {w wr W : World} {p : Nat} {l : List En} {g g' : Value} {xs ys : List Int} (h : KpS w p l g xs wr) (hg : wr.grownBy W g.ownBlock) (ho : W.ownsRow w.heap.size 3 1 g' ys.length (i64s ys)) (hb : ∀ k, g'.ownBlock = some k → g.ownBlock = some k ∨ wr.heap.size ≤ k) : KpS w p l g' ys W := by
  refine ⟨h.on.turn (tch_grown hg) (fun k hk => .inr hk.symm) (fun k hk => (h.row.lt k hk.symm).1) (fun k hk => ?_) (fun k hk => ?_), ho⟩
  · rcases hk with hk | hk
    · exact .inl (.inl hk)
    · rcases hb k hk with h3 | h3
      · exact .inl (.inr h3)
      · exact .inr h3
  · rcases hk with hk | hk
    · have := h.on.bel.size
      have := (tch_grown hg).size
      omega
    · exact (ho.lt k hk).2
end Go.Proofs.Ytpbgccidhpfmgaa
namespace Go.Proofs.Ytpbgccidhpfmgaa
open Go Go.RowKit
set_option linter.unusedVariables false
set_option linter.unusedSimpArgs false

theorem errElK (w : World) : (binOp .eql 26 (errnoF 9) .nilIface).run Try.prog w = .ok (.bool false) w := by kernel_rfl
theorem eqF_dec (a b : Fl) : eqF a b = decide (a = b) := eqF_is a b
theorem eqBB (a b : Bool) : (a == b) = decide (a = b) := by cases a <;> cases b <;> rfl
/-- What the second loop makes of the row: the last places. -/
def LsK (fs : List Fl) (n i j : Nat) (xs : List Int) : Prop := xs.length = n ∧ ∀ k, k < n → ∃ v : Nat, xs.getD k 0 = (v : Int) ∧ v < n ∧ (k < i → k < j → LastK fs (i + 1) k v) ∧ (k < i → ¬ k < j → LastK fs i k v) ∧ (i ≤ k → v = k)
theorem LsK.start (fs : List Fl) (n : Nat) : LsK fs n 0 0 ((List.range n).map (fun k : Nat => (k : Int))) := by
  refine ⟨by simp, fun k hk => ⟨k, ?_, hk, fun h => by omega, fun h => by omega, fun _ => rfl⟩⟩
  rw [List.getD_eq_getElem?_getD, List.getElem?_map, List.getElem?_range hk]
  rfl
theorem LsK.yes {fs : List Fl} {n i j : Nat} {xs : List Int} (h : LsK fs n i j xs) (hj : j < i) (hi : i < n) (e : fs.getD j fl0 = fs.getD i fl0) : LsK fs n i (j + 1) (xs.set j (i : Int)) := by
  refine ⟨by rw [List.length_set]; exact h.1, fun k hk => ?_⟩
  obtain ⟨v, h1, h2, h3, h4, h5⟩ := h.2 k hk
  by_cases hkj : k = j
  · subst hkj
    refine ⟨i, ?_, hi, fun _ _ => (h4 hj (by omega)).yes e, fun _ h => by omega, fun h => by omega⟩
    rw [List.getD_eq_getElem?_getD, List.getElem?_set_self (by have := h.1; omega)]
    rfl
  · refine ⟨v, ?_, h2, fun q1 q2 => h3 q1 (by omega), fun q1 q2 => h4 q1 (by omega), h5⟩
    rw [← h1, List.getD_eq_getElem?_getD, List.getD_eq_getElem?_getD, List.getElem?_set_ne (by omega)]
theorem LsK.no {fs : List Fl} {n i j : Nat} {xs : List Int} (h : LsK fs n i j xs) (e : fs.getD j fl0 ≠ fs.getD i fl0) : LsK fs n i (j + 1) xs := by
  refine ⟨h.1, fun k hk => ?_⟩
  obtain ⟨v, h1, h2, h3, h4, h5⟩ := h.2 k hk
  refine ⟨v, h1, h2, fun q1 q2 => ?_, fun q1 q2 => h4 q1 (by omega), h5⟩
  by_cases hkj : k = j
  · subst hkj
    exact (h4 q1 (by omega)).no e
  · exact h3 q1 (by omega)
theorem LsK.next {fs : List Fl} {n i : Nat} {xs : List Int} (h : LsK fs n i i xs) : LsK fs n (i + 1) 0 xs := by
  refine ⟨h.1, fun k hk => ?_⟩
  obtain ⟨v, h1, h2, h3, h4, h5⟩ := h.2 k hk
  refine ⟨v, h1, h2, fun _ q => by omega, fun q _ => ?_, fun q => h5 (by omega)⟩
  by_cases hki : k = i
  · have := h5 (by omega)
    rw [this, hki]
    exact LastK.start fs i
  · exact h3 (by omega) (by omega)
theorem KpS.put {w wr : World} {p g0 n cg : Nat} {l : List En} {xs : List Int} (h : KpS w p l (.slice (some ⟨g0, 0, none⟩) n cg) xs wr) (hn : xs.length = n) (j : Nat) (i : Int) : KpS w p l (.slice (some ⟨g0, 0, none⟩) n cg) (xs.set j i) (wr.setCell ⟨g0, j, none⟩ (.int .i64 i)) := by
  subst hn
  have h1 := h.row.stored j (.int .i64 i)
  refine h.grown h1.2 ?_ (fun k hk => .inl hk)
  rw [List.length_set]
  have e : i64s (xs.set j i) = (i64s xs).set j (.int .i64 i) := by unfold i64s; rw [List.map_set]
  rw [e]
  exact h1.1
set_option maxRecDepth 100000 in
set_option maxHeartbeats 16000000 in
theorem flowKeeps_t (a : Option Addr) (n c : Nat) (fs : List Fl) (now : Int) (w : World) (hI : InF w a n fs) (hc : n ≤ c) (hf : ∀ f ∈ fs, FitF f) (hw : InN now) :
    Calls Try.prog 4 #[.slice a n c, .int .i64 now] w fun e w' => e = .returned (.bool true) ∧ Below w.heap.size w w' := by
  have en := nilNe
  have ee := nilEl
  have CA := Lib.hid (alive11_any w)
  have HI := Lib.hid hI
  have HF := Lib.hid hf
  unfold InN at hw
  clear hI hf
  go_enter Try.func4, Try.ntmps4
  go_wp2_with fail
  refine CA.out.mono ?_
  rintro e w1 ⟨rfl, hb⟩
  have HB1 := Lib.hid hb
  have HI1 := Lib.hid (HI.out.below hb)
  clear hb CA HI
  by_cases n0 : 200 < n
  · have n1 : (200 : Int) < (n : Int) := by omega
    go_wp2
    go_ret
    exact ⟨rfl, HB1.out⟩
  · have n1 : ¬ (200 : Int) < (n : Int) := by omega
    by_cases n2 : now < 0
    · go_wp2
      go_ret
      exact ⟨rfl, HB1.out⟩
    · by_cases n3 : 549755813888 < now
      · go_wp2
        go_ret
        exact ⟨rfl, HB1.out⟩
      · have HNW : Hid (0 ≤ now ∧ now ≤ 549755813888) := Lib.hid (by omega)
        have hn : n ≤ 200 := by omega
        have hlen := HI1.out.len
        obtain ⟨j0, hj0, hy0, hy1, hy2⟩ : ∃ i, Try.prog.info? 3 = some i ∧ i.zero = some (.int .i64 0) ∧ i.size = 1 ∧ i.bytes = 8 := by
          have h := info3
          cases hi : Try.prog.info? 3 with
          | none => rw [hi] at h; cases h
          | some i =>
            rw [hi] at h
            simp only [Option.map_some, Option.some.injEq, Prod.mk.injEq] at h
            exact ⟨i, rfl, h.1, h.2.1, h.2.2⟩
        have CN := Lib.hid (tnew_t 0 4096 w1 (by unfold InN; omega) (by unfold InN; omega))
        go_wp2_with fail
        refine CN.out.mono ?_
        rintro e w2 hW
        obtain ⟨p, rfl, hO⟩ := TOn.made (by unfold OkQ; omega) hW
        have HK0 : Hid (KpS w1 p [] (.slice (some ⟨w2.heap.size, 0, none⟩) 0 0) [] (w2.alloc (.cells #[] 3))) := Lib.hid (by
          have h1 := (hO.grow (bl_al (Below.refl w2.heap.size w2) (.cells #[] 3)))
          refine ⟨h1.less (fun k hk => ?_), World.ownsRow_made w2 #[] 0 hO.bel.size (by decide) rfl⟩
          rcases hk with hk | hk
          · exact .inl hk
          · simp only [Value.ownBlock, Option.some.injEq] at hk
            subst hk
            exact .inr ⟨Nat.le_refl _, by simp⟩)
        have HS0 : Hid (KS now fs 0 []) := Lib.hid (KS.start now fs)
        clear CN hW hO
        go_wp2
        go_loopw [7, 48] (fun gv iv wr => ∃ (i : Nat) (g : Value) (t : List En), g = gv ∧ i ≤ n ∧ iv = .int .i64 i ∧ Hid (KS now fs i t) ∧ Hid (KpS w1 p t g ((List.range i).map (fun k : Nat => (k : Int))) wr)) (fun _ iv _ => n - (intOf iv).toNat)
        case atStart => exact ⟨0, _, [], rfl, by omega, rfl, HS0, HK0⟩
        case round =>
          obtain ⟨i, g, t, rfl, hi, rfl, HS, HK⟩ := hrel
          obtain ⟨w3, rfl⟩ : ∃ v, v = wr := ⟨_, rfl⟩
          clear HS0 HK0
          by_cases hlt : i < n
          · have ii : (i : Int) < (n : Int) := by omega
            have j0' : (0 : Int) ≤ (i : Int) := by omega
            have ic : (i : Int) ≤ (c : Int) := by omega
            obtain ⟨b, off, rfl, hx⟩ := (HI1.out.below HK.out.bel).at hlt
            have HFF : Hid (FitF (fs.getD i fl0)) := Lib.hid (HF.out _ (by rw [List.getD_eq_getElem?_getD, List.getElem?_eq_getElem (by omega)]; exact List.getElem_mem _))
            obtain ⟨t', hput, hKS⟩ := HS.out.put (by omega) HNW.out.1 HNW.out.2
            have HS' := Lib.hid hKS
            have htl : t.length ≤ 200 := by have := HS.out.len; omega
            obtain ⟨f, ef⟩ : ∃ f, f = fs.getD i fl0 := ⟨_, rfl⟩
            rw [← ef] at hx HFF hput
            obtain ⟨w4, hw4⟩ : ∃ w4, w4 = w3.alloc (.cells #[.int .i64 f.p, .int .u32 f.s, .int .i64 f.sp, .int .u32 f.d, .int .i64 f.dp] tyF) := ⟨_, rfl⟩
            obtain ⟨q, hq⟩ : ∃ q, q = w3.heap.size := ⟨_, rfl⟩
            have HQ : Hid (w4.heap[q]? = some (.cells #[.int .i64 f.p, .int .u32 f.s, .int .i64 f.sp, .int .u32 f.d, .int .i64 f.dp] tyF (0, 0))) := Lib.hid (by rw [hw4, hq]; exact heap_alloc_new w3 _)
            have HO4 := Lib.hid (HK.out.on.boxes hw4).1
            have hb4 : Below w3.heap.size w3 w4 := by rw [hw4]; exact bl_al (Below.refl _ _) _
            have HR4 := Lib.hid (owns_bel HK.out.row hb4)
            have HG := Lib.hid (refGood_c f)
            have r9 : ∀ [Inhabited Nat], IntKind.i64.wrap (((i % 9 : Nat) : Int)) = ((i % 9 : Nat) : Int) := by intro _; exact IntWalk.i64_in _ (by omega)
            have r8 : (i : Int).tmod 9 = ((i % 9 : Nat) : Int) := by rw [Int.tmod_eq_emod_of_nonneg (by omega)]; omega
            have r7 : ∀ [Inhabited Nat], IntKind.i64.wrap (now + ((i % 9 : Nat) : Int)) = now + ((i % 9 : Nat) : Int) := by intro _; exact IntWalk.i64_in _ (by omega)
            have r6 : ∀ [Inhabited Nat], IntKind.u32.wrap (i : Int) = (i : Int) := by intro _; rw [IntKind.wrap_u32]; omega
            have CP := Lib.hid (HO4.out.put f i i (now + (i % 9 : Nat)) (by omega) HFF.out (by unfold In32; omega) (by unfold InN; omega) (by unfold InN; omega))
            rw [hput] at CP
            obtain ⟨z, hz⟩ : ∃ z, z = decide (GoodF f) := ⟨_, rfl⟩
            rw [← hz] at HG
            have hpv : ∀ l : List En, putV (none, (if GoodF f then 0 else 9), l) = .tuple #[en0.val, .bool false, if z then .nilIface else errnoF 9] := fun l => by
              unfold putV errF
              by_cases h : GoodF f
              · rw [hz, if_pos h, decide_eq_true h]; rfl
              · rw [hz, if_neg h, decide_eq_false h]; rfl
            rw [hpv] at CP
            obtain ⟨f0, f1, f2, f3, f4⟩ := f
            have HW4 := Lib.hid (And.intro hw4 hq)
            obtain ⟨d0, d1, d2, d3, d4⟩ := hx
            clear hput hKS ef hw4 hq hz hpv hb4
            go_upto_region 12 with fail
            rw [show w3.alloc (.cells #[.int .i64 f0, .int .u32 f1, .int .i64 f2, .int .u32 f3, .int .i64 f4] tyF) = w4 from HW4.out.1.symm, ← HW4.out.2]
            clear d0 d1 d2 d3 d4
            have d0 := cell_of_row w4 q 0 _ _ _ HQ.out
            have d1 := cell_of_row w4 q 1 _ _ _ HQ.out
            have d2 := cell_of_row w4 q 2 _ _ _ HQ.out
            have d3 := cell_of_row w4 q 3 _ _ _ HQ.out
            have d4 := cell_of_row w4 q 4 _ _ _ HQ.out
            go_wp2_with fail
            refine CP.out.mono ?_
            rintro e w5 ⟨rfl, hO5, hk5⟩
            have HQ5 : Hid (w5.heap[q]? = some (.cells #[.int .i64 f0, .int .u32 f1, .int .i64 f2, .int .u32 f3, .int .i64 f4] tyF (0, 0))) := Lib.hid ((hk5 q (.inr HW4.out.2)).trans HQ.out)
            have HK5 : Hid (KpS w1 p t' g ((List.range i).map (fun k : Nat => (k : Int))) w5) := Lib.hid ⟨hO5.less (fun k hk => .inl hk), own_kpt HR4.out hk5 (fun k hk => .inl (.inr hk))⟩
            obtain ⟨w6, hw6⟩ : ∃ w6, w6 = w5.alloc (.cells #[.int .i64 en0.f.p, .int .u32 en0.f.s, .int .i64 en0.f.sp, .int .u32 en0.f.d, .int .i64 en0.f.dp, .int .u32 en0.dip, .int .i64 en0.ep, .bool en0.tr, .bool en0.cl, .int .i64 en0.la] tyE) := ⟨_, rfl⟩
            have hb6 : Below w5.heap.size w5 w6 := by rw [hw6]; exact bl_al (Below.refl _ _) _
            have HK6 := Lib.hid (HK5.out.new hb6)
            have HQ6 : Hid (w6.heap[q]? = some (.cells #[.int .i64 f0, .int .u32 f1, .int .i64 f2, .int .u32 f3, .int .i64 f4] tyF (0, 0))) := Lib.hid ((hb6.block q (lt_of_block HQ5.out)).trans HQ5.out)
            have HW6 := Lib.hid hw6
            clear hw6 hb6 hO5 hk5 HO4 HR4 CP d0 d1 d2 d3 d4
            go_upto_region 13 with fail
            rw [show w5.alloc (.cells #[.int .i64 en0.f.p, .int .u32 en0.f.s, .int .i64 en0.f.sp, .int .u32 en0.f.d, .int .i64 en0.f.dp, .int .u32 en0.dip, .int .i64 en0.ep, .bool en0.tr, .bool en0.cl, .int .i64 en0.la] tyE) = w6 from HW6.out.symm]
            have hS0 : w6.drew.cell? ⟨q, 0, none⟩ = some (.int .i64 f0) ∧ w6.drew.cell? ⟨q, 1, none⟩ = some (.int .u32 f1) ∧ w6.drew.cell? ⟨q, 2, none⟩ = some (.int .i64 f2) ∧ w6.drew.cell? ⟨q, 3, none⟩ = some (.int .u32 f3) ∧ w6.drew.cell? ⟨q, 4, none⟩ = some (.int .i64 f4) := ⟨cell_of_row w6 q 0 _ _ _ HQ6.out, cell_of_row w6 q 1 _ _ _ HQ6.out, cell_of_row w6 q 2 _ _ _ HQ6.out, cell_of_row w6 q 3 _ _ _ HQ6.out, cell_of_row w6 q 4 _ _ _ HQ6.out⟩
            have ek := errElK
            cases z with
            | true =>
              rw [if_pos rfl]
              go_region_held3 (fun wx => wx.cell? ⟨q, 0, none⟩ = some (.int .i64 f0) ∧ wx.cell? ⟨q, 1, none⟩ = some (.int .u32 f1) ∧ wx.cell? ⟨q, 2, none⟩ = some (.int .i64 f2) ∧ wx.cell? ⟨q, 3, none⟩ = some (.int .u32 f3) ∧ wx.cell? ⟨q, 4, none⟩ = some (.int .i64 f4)) (first | (with_reducible exact hS0) | (with_reducible exact hS1) | (with_reducible assumption) | fail)
                (first | (go_at_call 30; (with_reducible refine (HG.out _).mono ?_); rintro e w7 ⟨rfl, hb⟩; have hS1 : w7.cell? ⟨q, 0, none⟩ = some (.int .i64 f0) ∧ w7.cell? ⟨q, 1, none⟩ = some (.int .u32 f1) ∧ w7.cell? ⟨q, 2, none⟩ = some (.int .i64 f2) ∧ w7.cell? ⟨q, 3, none⟩ = some (.int .u32 f3) ∧ w7.cell? ⟨q, 4, none⟩ = some (.int .i64 f4) := ⟨cell_later hb hS0.1, cell_later hb hS0.2.1, cell_later hb hS0.2.2.1, cell_later hb hS0.2.2.2.1, cell_later hb hS0.2.2.2.2⟩; have HK7 := Lib.hid ((HK6.out.new (Below.refl _ _).drew).new hb); clear hb) | fail)
              all_goals
                clear hS0 hS1
                have HK8 := Lib.hid (HK7.out.new (bl_al (Below.refl w7.heap.size w7) (.cells #[.int .i64 i] 3)))
                have hs8 := HK8.out.bel.size
                have HNEW : Hid (∀ j u, [Value.int .i64 (i : Int)][j]? = some u → (w7.alloc (.cells #[.int .i64 i] 3)).cell? ((⟨w7.heap.size, 0, none⟩ : Addr).add j) = some u) := Lib.hid (fun j u hu => by
                  cases j with
                  | zero =>
                    simp only [List.getElem?_cons_zero, Option.some.injEq] at hu
                    subst hu
                    exact cells_new w7 [Value.int .i64 (i : Int)] _ (0, 0) 0 _ rfl
                  | succ j => simp at hu)
                have HSD : Hid ((∀ u ∈ [Value.int .i64 (i : Int)], u.oneCell' = true) ∧ ((List.range i).map (fun k : Nat => (k : Int))).length + 1 ≤ maxLen ∧ (((List.range i).map (fun k : Nat => (k : Int))).length + 1) * 8 ≤ 140737488355328) := Lib.hid ⟨fun u hu => by rw [List.mem_singleton] at hu; rw [hu]; rfl, by rw [List.length_map, List.length_range]; unfold maxLen; omega, by rw [List.length_map, List.length_range]; omega⟩
                go_wp2_with (at_builtin; refine wpList_append_lies _ rfl _ _ 61 rfl w1.heap.size 3 j0 (.int .i64 0) 1 8 Try.underlying61 hj0 hy0 hy1 hy2 rfl (by decide) _ _ _ rfl HK8.out.row ⟨w7.heap.size, 0, none⟩ 1 1 [.int .i64 (i : Int)] rfl rfl HNEW.out HSD.out.1 (by decide) HSD.out.2.1 HSD.out.2.2 hs8 _ rfl ?_)
                intro g8 c8 w8 ho8 hg8 hl8 hlt8
                have HKn : Hid (KpS w1 p t' (.slice (some ⟨g8, 0, none⟩) (i + 1) c8) ((List.range (i + 1)).map (fun k : Nat => (k : Int))) w8) := Lib.hid (by
                  refine HK8.out.grown hg8 ?_ (fun k hk => ?_)
                  · rw [List.range_succ, List.map_append, List.length_append, ← i64s_app, List.length_map, List.length_range]
                    exact ho8
                  · simp only [Value.ownBlock, Option.some.injEq] at hk
                    subst hk
                    exact hl8.imp id (fun e => by rw [e]; simp))
                clear ho8 hg8 hl8 hlt8 HK8 HNEW HSD HK7
                go_wp2
                go_roundw
                case rel => exact ⟨i + 1, _, t', rfl, by omega, by go_num, HS', HKn⟩
                case measure => simp [intOf]; omega
            | false =>
              rw [if_neg Bool.false_ne_true]
              go_region_held3 (fun wx => wx.cell? ⟨q, 0, none⟩ = some (.int .i64 f0) ∧ wx.cell? ⟨q, 1, none⟩ = some (.int .u32 f1) ∧ wx.cell? ⟨q, 2, none⟩ = some (.int .i64 f2) ∧ wx.cell? ⟨q, 3, none⟩ = some (.int .u32 f3) ∧ wx.cell? ⟨q, 4, none⟩ = some (.int .i64 f4)) (first | (with_reducible exact hS0) | (with_reducible exact hS1) | (with_reducible assumption) | fail)
                (first | (go_at_call 30; (with_reducible refine (HG.out _).mono ?_); rintro e w7 ⟨rfl, hb⟩; have hS1 : w7.cell? ⟨q, 0, none⟩ = some (.int .i64 f0) ∧ w7.cell? ⟨q, 1, none⟩ = some (.int .u32 f1) ∧ w7.cell? ⟨q, 2, none⟩ = some (.int .i64 f2) ∧ w7.cell? ⟨q, 3, none⟩ = some (.int .u32 f3) ∧ w7.cell? ⟨q, 4, none⟩ = some (.int .i64 f4) := ⟨cell_later hb hS0.1, cell_later hb hS0.2.1, cell_later hb hS0.2.2.1, cell_later hb hS0.2.2.2.1, cell_later hb hS0.2.2.2.2⟩; have HK7 := Lib.hid ((HK6.out.new (Below.refl _ _).drew).new hb); clear hb) | fail)
              all_goals
                clear hS0 hS1
                have HK8 := Lib.hid (HK7.out.new (bl_al (Below.refl w7.heap.size w7) (.cells #[.int .i64 i] 3)))
                have hs8 := HK8.out.bel.size
                have HNEW : Hid (∀ j u, [Value.int .i64 (i : Int)][j]? = some u → (w7.alloc (.cells #[.int .i64 i] 3)).cell? ((⟨w7.heap.size, 0, none⟩ : Addr).add j) = some u) := Lib.hid (fun j u hu => by
                  cases j with
                  | zero =>
                    simp only [List.getElem?_cons_zero, Option.some.injEq] at hu
                    subst hu
                    exact cells_new w7 [Value.int .i64 (i : Int)] _ (0, 0) 0 _ rfl
                  | succ j => simp at hu)
                have HSD : Hid ((∀ u ∈ [Value.int .i64 (i : Int)], u.oneCell' = true) ∧ ((List.range i).map (fun k : Nat => (k : Int))).length + 1 ≤ maxLen ∧ (((List.range i).map (fun k : Nat => (k : Int))).length + 1) * 8 ≤ 140737488355328) := Lib.hid ⟨fun u hu => by rw [List.mem_singleton] at hu; rw [hu]; rfl, by rw [List.length_map, List.length_range]; unfold maxLen; omega, by rw [List.length_map, List.length_range]; omega⟩
                go_wp2_with (at_builtin; refine wpList_append_lies _ rfl _ _ 61 rfl w1.heap.size 3 j0 (.int .i64 0) 1 8 Try.underlying61 hj0 hy0 hy1 hy2 rfl (by decide) _ _ _ rfl HK8.out.row ⟨w7.heap.size, 0, none⟩ 1 1 [.int .i64 (i : Int)] rfl rfl HNEW.out HSD.out.1 (by decide) HSD.out.2.1 HSD.out.2.2 hs8 _ rfl ?_)
                intro g8 c8 w8 ho8 hg8 hl8 hlt8
                have HKn : Hid (KpS w1 p t' (.slice (some ⟨g8, 0, none⟩) (i + 1) c8) ((List.range (i + 1)).map (fun k : Nat => (k : Int))) w8) := Lib.hid (by
                  refine HK8.out.grown hg8 ?_ (fun k hk => ?_)
                  · rw [List.range_succ, List.map_append, List.length_append, ← i64s_app, List.length_map, List.length_range]
                    exact ho8
                  · simp only [Value.ownBlock, Option.some.injEq] at hk
                    subst hk
                    exact hl8.imp id (fun e => by rw [e]; simp))
                clear ho8 hg8 hl8 hlt8 HK8 HNEW HSD HK7
                go_wp2
                go_roundw
                case rel => exact ⟨i + 1, _, t', rfl, by omega, by go_num, HS', HKn⟩
                case measure => simp [intOf]; omega
          · obtain rfl : n = i := by omega
            have ii : ¬ (n : Int) < (n : Int) := by omega
            have HIr := Lib.hid (HI1.out.below HK.out.bel)
            have v10 : ∀ [Inhabited Nat], IntKind.i64.wrap (now + 10) = now + 10 := by intro _; exact IntWalk.i64_in _ (by omega)
            have v30 : ∀ [Inhabited Nat], IntKind.i64.wrap (now + 30) = now + 30 := by intro _; exact IntWalk.i64_in _ (by omega)
            have htl : t.length ≤ 200 := by have := HS.out.len; omega
            have CX := Lib.hid (HK.out.on.exp (now + 10) (by omega) (by unfold InN; omega))
            rw [HS.out.no HNW.out.1 HNW.out.2] at CX
            go_wp2_with fail
            refine CX.out.mono ?_
            rintro e w4 ⟨ax, cx, rfl, _, hO4, hk4⟩
            have HK4 : Hid (KpS w1 p t g ((List.range n).map (fun k : Nat => (k : Int))) w4) := Lib.hid ⟨hO4.less (fun k hk => .inl hk), own_kpt HK.out.row hk4 (fun k hk => .inr hk)⟩
            dsimp only [List.length_nil]
            clear hO4 hk4 CX HK HIr
            obtain ⟨ag, cg, rfl⟩ : ∃ ag cg, g = .slice ag n cg := by
              have h := own_form HK4.out.row
              rwa [show ((List.range n).map (fun k : Nat => (k : Int))).length = n by simp] at h
            have HL0 := Lib.hid (LsK.start fs n)
            go_wp2
            go_loopw [88] (fun iv wr => ∃ (i : Nat) (xs : List Int), i ≤ n ∧ iv = .int .i64 i ∧ Hid (LsK fs n i 0 xs) ∧ Hid (KpS w1 p t (.slice ag n cg) xs wr)) (fun iv _ => n - (intOf iv).toNat)
            case atStart => exact ⟨0, _, by omega, rfl, HL0, HK4⟩
            case round =>
              obtain ⟨i, xs, hi, rfl, HL, HK⟩ := hrel
              obtain ⟨w5, rfl⟩ : ∃ v, v = wr := ⟨_, rfl⟩
              clear HL0 HK4
              by_cases hlt : i < n
              · have ij : (i : Int) < (n : Int) := by omega
                have i0 : (0 : Int) ≤ (i : Int) := by omega
                have ic : (i : Int) ≤ (c : Int) := by omega
                obtain ⟨g0, rfl⟩ : ∃ g0, ag = some ⟨g0, 0, none⟩ := by
                  have h := HK.out.row
                  rw [HL.out.1] at h
                  rcases h.2 with ⟨hv, h0⟩ | ⟨g, cap, cur, hv, _⟩
                  · omega
                  · simp only [Value.slice.injEq] at hv
                    exact ⟨g, hv.1⟩
                obtain ⟨b, off, rfl, hx⟩ := (HI1.out.below HK.out.bel).at hlt
                have HGL : Hid (g0 < w5.heap.size) := Lib.hid (HK.out.row.lt g0 rfl).2
                obtain ⟨f, ef⟩ : ∃ f, f = fs.getD i fl0 := ⟨_, rfl⟩
                rw [← ef] at hx
                obtain ⟨w6, hw6⟩ : ∃ w6, w6 = w5.alloc (.cells #[.int .i64 f.p, .int .u32 f.s, .int .i64 f.sp, .int .u32 f.d, .int .i64 f.dp] tyF) := ⟨_, rfl⟩
                obtain ⟨q, hq⟩ : ∃ q, q = w5.heap.size := ⟨_, rfl⟩
                have HQ : Hid (w6.heap[q]? = some (.cells #[.int .i64 f.p, .int .u32 f.s, .int .i64 f.sp, .int .u32 f.d, .int .i64 f.dp] tyF (0, 0))) := Lib.hid (by rw [hw6, hq]; exact heap_alloc_new w5 _)
                have HQG : Hid (q ≠ g0) := Lib.hid (by have := HGL.out; omega)
                have HK6 := Lib.hid (HK.out.new (W := w6) (by rw [hw6]; exact bl_al (Below.refl _ _) _))
                have HEF := Lib.hid ef
                have HW6 := Lib.hid (And.intro hw6 hq)
                obtain ⟨f0, f1, f2, f3, f4⟩ := f
                obtain ⟨d0, d1, d2, d3, d4⟩ := hx
                clear ef hw6 hq HK
                go_upto_region 22 with fail
                rw [show w5.alloc (.cells #[.int .i64 f0, .int .u32 f1, .int .i64 f2, .int .u32 f3, .int .i64 f4] tyF) = w6 from HW6.out.1.symm, ← HW6.out.2]
                clear d0 d1 d2 d3 d4
                go_wp2
                go_loopw [97] (fun jv wr => ∃ (j : Nat) (ys : List Int), j ≤ i ∧ jv = .int .i64 j ∧ Hid (LsK fs n i j ys) ∧ Hid (KpS w1 p t (.slice (some ⟨g0, 0, none⟩) n cg) ys wr) ∧ Hid (wr.heap[q]? = some (.cells #[.int .i64 f0, .int .u32 f1, .int .i64 f2, .int .u32 f3, .int .i64 f4] tyF (0, 0)))) (fun jv _ => i - (intOf jv).toNat)
                case atStart => exact ⟨0, xs, by omega, rfl, HL, HK6, HQ⟩
                case round =>
                  obtain ⟨j, ys, hj, rfl, HLj, HKj, HQj⟩ := hrel
                  obtain ⟨w7, rfl⟩ : ∃ v, v = wr := ⟨_, rfl⟩
                  by_cases hjt : j < i
                  · have jj : (j : Int) < (i : Int) := by omega
                    have jj0 : (0 : Int) ≤ (j : Int) := by omega
                    have jjn : (j : Int) < (n : Int) := by omega
                    obtain ⟨b2, off2, e2, hx2⟩ := (HI1.out.below HKj.out.bel).at (j := j) (by omega)
                    cases e2
                    obtain ⟨h, eh⟩ : ∃ h, h = fs.getD j fl0 := ⟨_, rfl⟩
                    rw [← eh] at hx2
                    obtain ⟨z, ez⟩ : ∃ z, z = eqF h ⟨f0, f1, f2, f3, f4⟩ := ⟨_, rfl⟩
                    have hqf := flow_eql h ⟨f0, f1, f2, f3, f4⟩
                    rw [← ez] at hqf
                    have HEH := Lib.hid eh
                    have HZ : Hid ((z = true → h = ⟨f0, f1, f2, f3, f4⟩) ∧ (z = false → h ≠ ⟨f0, f1, f2, f3, f4⟩)) := Lib.hid (by
                      rw [ez, eqF_dec]
                      exact ⟨fun e => of_decide_eq_true e, fun e => of_decide_eq_false e⟩)
                    obtain ⟨s0, s1, s2, s3, s4⟩ := h
                    obtain ⟨d0, d1, d2, d3, d4⟩ := hx2
                    have k0 := cell_of_row w7 q 0 _ _ _ HQj.out
                    have k1 := cell_of_row w7 q 1 _ _ _ HQj.out
                    have k2 := cell_of_row w7 q 2 _ _ _ HQj.out
                    have k3 := cell_of_row w7 q 3 _ _ _ HQj.out
                    have k4 := cell_of_row w7 q 4 _ _ _ HQj.out
                    clear eh ez
                    go_upto_region 25 with fail
                    go_quiet (fail)
                    obtain ⟨w8, hw8⟩ : ∃ w8, w8 = w7.drewN nq := ⟨_, rfl⟩
                    have hb8 : Below w7.heap.size w7 w8 := by
                      rw [hw8]
                      have h := Below.refl w7.heap.size w7
                      exact ⟨h.os, h.tape, h.output, h.size, h.block⟩
                    have HK8 := Lib.hid (HKj.out.new hb8)
                    have HQ8 : Hid (w8.heap[q]? = some (.cells #[.int .i64 f0, .int .u32 f1, .int .i64 f2, .int .u32 f3, .int .i64 f4] tyF (0, 0))) := Lib.hid ((hb8.block q (lt_of_block HQj.out)).trans HQj.out)
                    rw [← hw8]
                    clear hw8 hb8 d0 d1 d2 d3 d4 k0 k1 k2 k3 k4 hqf HKj HQj
                    cases z with
                    | true =>
                      have HKn := Lib.hid (HK8.out.put HLj.out.1 j (i : Int))
                      have HLn := Lib.hid (HLj.out.yes hjt hlt (by rw [← HEH.out, ← HEF.out]; exact HZ.out.1 rfl))
                      have HQn : Hid ((w8.setCell ⟨g0, j, none⟩ (.int .i64 (i : Int))).heap[q]? = some (.cells #[.int .i64 f0, .int .u32 f1, .int .i64 f2, .int .u32 f3, .int .i64 f4] tyF (0, 0))) := Lib.hid ((heap_setCell_other w8 ⟨g0, j, none⟩ q _ HQG.out).trans HQ8.out)
                      obtain ⟨u, hu⟩ : ∃ u, w8.cell? ⟨g0, j, none⟩ = some u := by
                        have h := HK8.out.row
                        rw [HLj.out.1] at h
                        exact ⟨_, (h.cellAt j (by omega)).trans (List.getElem?_eq_getElem (by rw [h.1]; omega))⟩
                      have hfz : w8.frozen? ⟨g0, j, none⟩ = false := by
                        have h := HK8.out.row
                        rw [HLj.out.1] at h
                        exact h.frozenAt j
                      go_wp2
                      go_roundw
                      case rel => exact ⟨j + 1, _, by omega, by go_num, HLn, HKn, HQn⟩
                      case measure => simp [intOf]; omega
                    | false =>
                      have HLn := Lib.hid (HLj.out.no (by rw [← HEH.out, ← HEF.out]; exact HZ.out.2 rfl))
                      go_wp2
                      go_roundw
                      case rel => exact ⟨j + 1, _, by omega, by go_num, HLn, HK8, HQ8⟩
                      case measure => simp [intOf]; omega
                  · obtain rfl : i = j := by omega
                    have jj : ¬ (i : Int) < (i : Int) := by omega
                    have HLn := Lib.hid HLj.out.next
                    go_wp2
                    go_roundw
                    case rel => exact ⟨i + 1, _, by omega, by go_num, HLn, HKj⟩
                    case measure => simp [intOf]; omega
              · obtain rfl : n = i := by omega
                have ij : ¬ (n : Int) < (n : Int) := by omega
                have HLn := Lib.hid HL.out
                clear HL
                go_wp2
                go_loopw [16, 17, 18, 19, 114] (fun _ _ _ _ iv wr => ∃ i : Nat, i ≤ n ∧ iv = .int .i64 i ∧ Hid (KpS w1 p t (.slice ag n cg) xs wr)) (fun _ _ _ _ iv _ => n - (intOf iv).toNat)
                case atStart => exact ⟨0, by omega, rfl, HK⟩
                case round =>
                  obtain ⟨i, hi, rfl, HKi⟩ := hrel
                  obtain ⟨w6, rfl⟩ : ∃ v, v = wr := ⟨_, rfl⟩
                  clear HK
                  by_cases hlt : i < n
                  · have ij : (i : Int) < (n : Int) := by omega
                    have i0 : (0 : Int) ≤ (i : Int) := by omega
                    have ic : (i : Int) ≤ (c : Int) := by omega
                    obtain ⟨g0, rfl⟩ : ∃ g0, ag = some ⟨g0, 0, none⟩ := by
                      have h := HKi.out.row
                      rw [HLn.out.1] at h
                      rcases h.2 with ⟨hv, h0⟩ | ⟨g, cap, cur, hv, _⟩
                      · omega
                      · simp only [Value.slice.injEq] at hv
                        exact ⟨g, hv.1⟩
                    obtain ⟨v, hv, hvn, _, hLK, _⟩ := HLn.out.2 i hlt
                    have hfe := HS.out.get hlt (hLK hlt (by omega))
                    have HCL : Hid (∀ W, KpS w1 p t (.slice (some ⟨g0, 0, none⟩) n cg) xs W → W.cell? ⟨g0, i, none⟩ = some (.int .i64 v)) := Lib.hid (fun W hK => by
                      have h := hK.row
                      rw [HLn.out.1] at h
                      rw [h.cellAt i (by omega)]
                      have h3 : i < xs.length := by rw [HLn.out.1]; exact hlt
                      rw [← hv, List.getD_eq_getElem?_getD, List.getElem?_eq_getElem h3]
                      unfold i64s
                      rw [List.getElem?_map, List.getElem?_eq_getElem h3]
                      rfl)
                    obtain ⟨b, off, rfl, hx⟩ := (HI1.out.below HKi.out.bel).at hlt
                    have HFF : Hid (FitF (fs.getD i fl0)) := Lib.hid (HF.out _ (by rw [List.getD_eq_getElem?_getD, List.getElem?_eq_getElem (by omega)]; exact List.getElem_mem _))
                    obtain ⟨f, ef⟩ : ∃ f, f = fs.getD i fl0 := ⟨_, rfl⟩
                    rw [← ef] at hx HFF hfe
                    obtain ⟨w7, hw7⟩ : ∃ w7, w7 = w6.alloc (.cells #[.int .i64 f.p, .int .u32 f.s, .int .i64 f.sp, .int .u32 f.d, .int .i64 f.dp] tyF) := ⟨_, rfl⟩
                    obtain ⟨q, hq⟩ : ∃ q, q = w6.heap.size := ⟨_, rfl⟩
                    have HQ : Hid (w7.heap[q]? = some (.cells #[.int .i64 f.p, .int .u32 f.s, .int .i64 f.sp, .int .u32 f.d, .int .i64 f.dp] tyF (0, 0))) := Lib.hid (by rw [hw7, hq]; exact heap_alloc_new w6 _)
                    have HO7 := Lib.hid (HKi.out.on.boxes hw7).1
                    have hb7 : Below w6.heap.size w6 w7 := by rw [hw7]; exact bl_al (Below.refl _ _) _
                    have HR7 := Lib.hid (owns_bel HKi.out.row hb7)
                    have HG := Lib.hid (refGood_c f)
                    have CG := Lib.hid (HO7.out.get f (by omega) HFF.out)
                    rw [hfe] at CG
                    have v32 : ∀ [Inhabited Nat], IntKind.u32.wrap (v : Int) = (v : Int) := by intro _; rw [IntKind.wrap_u32]; omega
                    obtain ⟨z, hz⟩ : ∃ z, z = decide (GoodF f) := ⟨_, rfl⟩
                    rw [← hz] at HG
                    have HE : Hid (eK now f v = ⟨f, v, v, false, false, now + (v % 9 : Nat)⟩) := Lib.hid rfl
                    obtain ⟨la, hla⟩ : ∃ la : Int, la = now + (v % 9 : Nat) := ⟨_, rfl⟩
                    rw [HE.out, ← hla] at CG
                    have CG2 : Hid (Calls Try.prog 19 #[.pointer (some ⟨p, 0, none⟩), f.val] w7 fun e w' => e = .returned (.tuple #[(if z then (⟨f, v, v, false, false, la⟩ : En) else en0).val, .bool z]) ∧ TOn w1 w' p 0 4096 t (fun k => (k < w1.heap.size ∨ (Value.slice (some ⟨g0, 0, none⟩) n cg).ownBlock = some k) ∨ k = w6.heap.size) ∧ Kpt (fun k => (k < w1.heap.size ∨ (Value.slice (some ⟨g0, 0, none⟩) n cg).ownBlock = some k) ∨ k = w6.heap.size) w7 w') := Lib.hid (by
                      have h := CG.out
                      by_cases hg : GoodF f
                      · rw [hz, decide_eq_true hg, if_pos rfl]
                        rw [if_pos hg] at h
                        exact h
                      · rw [hz, decide_eq_false hg, if_neg Bool.false_ne_true]
                        rw [if_neg hg] at h
                        exact h)
                    obtain ⟨f0, f1, f2, f3, f4⟩ := f
                    have HW7 := Lib.hid (And.intro hw7 hq)
                    obtain ⟨d0, d1, d2, d3, d4⟩ := hx
                    clear hfe ef hw7 hq hz hla hb7 CG hLK hv HE
                    go_upto_region 32 with fail
                    rw [show w6.alloc (.cells #[.int .i64 f0, .int .u32 f1, .int .i64 f2, .int .u32 f3, .int .i64 f4] tyF) = w7 from HW7.out.1.symm, ← HW7.out.2]
                    clear d0 d1 d2 d3 d4
                    have d0 := cell_of_row w7 q 0 _ _ _ HQ.out
                    have d1 := cell_of_row w7 q 1 _ _ _ HQ.out
                    have d2 := cell_of_row w7 q 2 _ _ _ HQ.out
                    have d3 := cell_of_row w7 q 3 _ _ _ HQ.out
                    have d4 := cell_of_row w7 q 4 _ _ _ HQ.out
                    go_wp2_with fail
                    refine CG2.out.mono ?_
                    rintro e w8 ⟨rfl, hO8, hk8⟩
                    have HQ8 : Hid (w8.heap[q]? = some (.cells #[.int .i64 f0, .int .u32 f1, .int .i64 f2, .int .u32 f3, .int .i64 f4] tyF (0, 0))) := Lib.hid ((hk8 q (.inr HW7.out.2)).trans HQ.out)
                    have HK8 : Hid (KpS w1 p t (.slice (some ⟨g0, 0, none⟩) n cg) xs w8) := Lib.hid ⟨hO8.less (fun k hk => .inl hk), own_kpt HR7.out hk8 (fun k hk => .inl (.inr hk))⟩
                    clear hO8 hk8 HO7 HR7 CG2 d0 d1 d2 d3 d4 HQ
                    cases z with
                    | true =>
                      rw [if_pos rfl]
                      obtain ⟨w9, hw9⟩ : ∃ w9, w9 = w8.alloc (.cells #[.int .i64 f0, .int .u32 f1, .int .i64 f2, .int .u32 f3, .int .i64 f4, .int .u32 v, .int .i64 v, .bool false, .bool false, .int .i64 la] tyE) := ⟨_, rfl⟩
                      obtain ⟨qe, hqe⟩ : ∃ qe, qe = w8.heap.size := ⟨_, rfl⟩
                      have hb9 : Below w8.heap.size w8 w9 := by rw [hw9]; exact bl_al (Below.refl _ _) _
                      have HK9 := Lib.hid (HK8.out.new hb9)
                      have HQ9 : Hid (w9.heap[q]? = some (.cells #[.int .i64 f0, .int .u32 f1, .int .i64 f2, .int .u32 f3, .int .i64 f4] tyF (0, 0))) := Lib.hid ((hb9.block q (lt_of_block HQ8.out)).trans HQ8.out)
                      have HE9 : Hid (w9.heap[qe]? = some (.cells #[.int .i64 f0, .int .u32 f1, .int .i64 f2, .int .u32 f3, .int .i64 f4, .int .u32 v, .int .i64 v, .bool false, .bool false, .int .i64 la] tyE (0, 0))) := Lib.hid (by rw [hw9, hqe]; exact heap_alloc_new w8 _)
                      have HW9 := Lib.hid (And.intro hw9 hqe)
                      clear hw9 hqe hb9
                      go_upto_region 33 with fail
                      rw [show w8.alloc (.cells #[.int .i64 f0, .int .u32 f1, .int .i64 f2, .int .u32 f3, .int .i64 f4, .int .u32 v, .int .i64 v, .bool false, .bool false, .int .i64 la] tyE) = w9 from HW9.out.1.symm, ← HW9.out.2]
                      have hS0 : w9.drew.cell? ⟨q, 0, none⟩ = some (.int .i64 f0) ∧ w9.drew.cell? ⟨q, 1, none⟩ = some (.int .u32 f1) ∧ w9.drew.cell? ⟨q, 2, none⟩ = some (.int .i64 f2) ∧ w9.drew.cell? ⟨q, 3, none⟩ = some (.int .u32 f3) ∧ w9.drew.cell? ⟨q, 4, none⟩ = some (.int .i64 f4) ∧ w9.drew.cell? ⟨qe, 5, none⟩ = some (.int .u32 v) ∧ w9.drew.cell? ⟨qe, 6, none⟩ = some (.int .i64 v) ∧ w9.drew.cell? ⟨g0, i, none⟩ = some (.int .i64 v) := ⟨cell_of_row w9 q 0 _ _ _ HQ9.out, cell_of_row w9 q 1 _ _ _ HQ9.out, cell_of_row w9 q 2 _ _ _ HQ9.out, cell_of_row w9 q 3 _ _ _ HQ9.out, cell_of_row w9 q 4 _ _ _ HQ9.out, cell_of_row w9 qe 5 _ _ _ HE9.out, cell_of_row w9 qe 6 _ _ _ HE9.out, HCL.out w9 HK9.out⟩
                      go_region_held3 (fun wx => wx.cell? ⟨q, 0, none⟩ = some (.int .i64 f0) ∧ wx.cell? ⟨q, 1, none⟩ = some (.int .u32 f1) ∧ wx.cell? ⟨q, 2, none⟩ = some (.int .i64 f2) ∧ wx.cell? ⟨q, 3, none⟩ = some (.int .u32 f3) ∧ wx.cell? ⟨q, 4, none⟩ = some (.int .i64 f4) ∧ wx.cell? ⟨qe, 5, none⟩ = some (.int .u32 v) ∧ wx.cell? ⟨qe, 6, none⟩ = some (.int .i64 v) ∧ wx.cell? ⟨g0, i, none⟩ = some (.int .i64 v)) (first | (with_reducible exact hS0) | (with_reducible exact hS1) | (with_reducible assumption) | fail)
                        (first | (go_at_call 30; (with_reducible refine (HG.out _).mono ?_); rintro e w10 ⟨rfl, hb⟩; have hS1 := (show w10.cell? ⟨q, 0, none⟩ = some (.int .i64 f0) ∧ w10.cell? ⟨q, 1, none⟩ = some (.int .u32 f1) ∧ w10.cell? ⟨q, 2, none⟩ = some (.int .i64 f2) ∧ w10.cell? ⟨q, 3, none⟩ = some (.int .u32 f3) ∧ w10.cell? ⟨q, 4, none⟩ = some (.int .i64 f4) ∧ w10.cell? ⟨qe, 5, none⟩ = some (.int .u32 v) ∧ w10.cell? ⟨qe, 6, none⟩ = some (.int .i64 v) ∧ w10.cell? ⟨g0, i, none⟩ = some (.int .i64 v) from ⟨cell_later hb hS0.1, cell_later hb hS0.2.1, cell_later hb hS0.2.2.1, cell_later hb hS0.2.2.2.1, cell_later hb hS0.2.2.2.2.1, cell_later hb hS0.2.2.2.2.2.1, cell_later hb hS0.2.2.2.2.2.2.1, cell_later hb hS0.2.2.2.2.2.2.2⟩); have HK10 := Lib.hid ((HK9.out.new (Below.refl _ _).drew).new hb); clear hb) | fail)
                      all_goals
                        clear hS0 hS1 HK9 HK8
                        go_wp2
                        go_roundw
                        case rel => exact ⟨i + 1, by omega, by go_num, HK10⟩
                        case measure => simp [intOf]; omega
                    | false =>
                      rw [if_neg Bool.false_ne_true]
                      obtain ⟨w9, hw9⟩ : ∃ w9, w9 = w8.alloc (.cells #[.int .i64 en0.f.p, .int .u32 en0.f.s, .int .i64 en0.f.sp, .int .u32 en0.f.d, .int .i64 en0.f.dp, .int .u32 en0.dip, .int .i64 en0.ep, .bool en0.tr, .bool en0.cl, .int .i64 en0.la] tyE) := ⟨_, rfl⟩
                      have hb9 : Below w8.heap.size w8 w9 := by rw [hw9]; exact bl_al (Below.refl _ _) _
                      have HK9 := Lib.hid (HK8.out.new hb9)
                      have HQ9 : Hid (w9.heap[q]? = some (.cells #[.int .i64 f0, .int .u32 f1, .int .i64 f2, .int .u32 f3, .int .i64 f4] tyF (0, 0))) := Lib.hid ((hb9.block q (lt_of_block HQ8.out)).trans HQ8.out)
                      have HW9 := Lib.hid hw9
                      clear hw9 hb9
                      go_upto_region 33 with fail
                      rw [show w8.alloc (.cells #[.int .i64 en0.f.p, .int .u32 en0.f.s, .int .i64 en0.f.sp, .int .u32 en0.f.d, .int .i64 en0.f.dp, .int .u32 en0.dip, .int .i64 en0.ep, .bool en0.tr, .bool en0.cl, .int .i64 en0.la] tyE) = w9 from HW9.out.symm]
                      have hS0 : w9.drew.cell? ⟨q, 0, none⟩ = some (.int .i64 f0) ∧ w9.drew.cell? ⟨q, 1, none⟩ = some (.int .u32 f1) ∧ w9.drew.cell? ⟨q, 2, none⟩ = some (.int .i64 f2) ∧ w9.drew.cell? ⟨q, 3, none⟩ = some (.int .u32 f3) ∧ w9.drew.cell? ⟨q, 4, none⟩ = some (.int .i64 f4) := ⟨cell_of_row w9 q 0 _ _ _ HQ9.out, cell_of_row w9 q 1 _ _ _ HQ9.out, cell_of_row w9 q 2 _ _ _ HQ9.out, cell_of_row w9 q 3 _ _ _ HQ9.out, cell_of_row w9 q 4 _ _ _ HQ9.out⟩
                      refine wp_region_held_drew (S := (fun wx => wx.cell? ⟨q, 0, none⟩ = some (.int .i64 f0) ∧ wx.cell? ⟨q, 1, none⟩ = some (.int .u32 f1) ∧ wx.cell? ⟨q, 2, none⟩ = some (.int .i64 f2) ∧ wx.cell? ⟨q, 3, none⟩ = some (.int .u32 f3) ∧ wx.cell? ⟨q, 4, none⟩ = some (.int .i64 f4))) (by kernel_rfl) hS0 (fun hHeld => ?_)
                      refine wpAnyH_take (i := 0) (v := ?_) rfl (by kernel_rfl) (by kernel_rfl) (by kernel_rfl) (fun _ _ _ h => h) (Or.inl ⟨by rfl, ?_⟩) (by assumption) ?_
                      rotate_left
                      · intro wz hSw; (try dsimp only at hSw); (try simp only [List.getElem_toArray, List.getElem_cons_zero, List.getElem_cons_succ]); go_simp; first | done | with_reducible rfl
                      try simp only [Act.put, List.setIfInBounds_toArray, List.set_cons_zero, List.set_cons_succ, List.getElem_toArray, List.getElem_cons_zero, List.getElem_cons_succ]
                      refine wpAnyH_take (i := 1) (v := ?_) rfl (by kernel_rfl) (by kernel_rfl) (by kernel_rfl) (fun _ _ _ h => h) (Or.inl ⟨by rfl, ?_⟩) (by assumption) ?_
                      rotate_left
                      · intro wz hSw; (try dsimp only at hSw); (try simp only [List.getElem_toArray, List.getElem_cons_zero, List.getElem_cons_succ]); go_simp; first | done | with_reducible rfl
                      try simp only [Act.put, List.setIfInBounds_toArray, List.set_cons_zero, List.set_cons_succ, List.getElem_toArray, List.getElem_cons_zero, List.getElem_cons_succ]
                      refine wpAnyH_ready (rs := [2]) (by kernel_rfl) (by simp) ?_
                      refine AllReadyH.cons rfl (fun K hK => ?_) AllReadyH.nil
                      try simp only [List.getElem_toArray, List.getElem_cons_zero, List.getElem_cons_succ]
                      go_simp
                      refine (HG.out _).mono ?_
                      rintro e w10 ⟨rfl, hb⟩
                      have hS1 : w10.cell? ⟨q, 0, none⟩ = some (.int .i64 f0) ∧ w10.cell? ⟨q, 1, none⟩ = some (.int .u32 f1) ∧ w10.cell? ⟨q, 2, none⟩ = some (.int .i64 f2) ∧ w10.cell? ⟨q, 3, none⟩ = some (.int .u32 f3) ∧ w10.cell? ⟨q, 4, none⟩ = some (.int .i64 f4) := ⟨cell_later hb hS0.1, cell_later hb hS0.2.1, cell_later hb hS0.2.2.1, cell_later hb hS0.2.2.2.1, cell_later hb hS0.2.2.2.2⟩
                      have HK10 := Lib.hid ((HK9.out.new (Below.refl _ _).drew).new hb)
                      go_wp2_with fail
                      refine hK.out _ _ ?_ (fun hHeld1 => ?_)
                      · exact hS1
                      clear hK K hb
                      try simp only [Act.put, List.setIfInBounds_toArray, List.set_cons_zero, List.set_cons_succ]
                      refine wpAnyH_take (i := 3) (v := ?_) rfl (by kernel_rfl) (by kernel_rfl) (by kernel_rfl) (fun _ _ _ h => h) (Or.inl ⟨by rfl, ?_⟩) (by assumption) ?_
                      rotate_left
                      · intro wz hSw; (try dsimp only at hSw); (try simp only [List.getElem_toArray, List.getElem_cons_zero, List.getElem_cons_succ]); go_simp; first | done | with_reducible rfl
                      try simp only [Act.put, List.setIfInBounds_toArray, List.set_cons_zero, List.set_cons_succ, List.getElem_toArray, List.getElem_cons_zero, List.getElem_cons_succ]
                      refine wpAnyH_take (i := 4) (v := ?_) rfl (by kernel_rfl) (by kernel_rfl) (by kernel_rfl) (fun _ _ _ h => h) (Or.inl ⟨by rfl, ?_⟩) (by assumption) ?_
                      rotate_left
                      · intro wz hSw; (try dsimp only at hSw); (try simp only [List.getElem_toArray, List.getElem_cons_zero, List.getElem_cons_succ]); go_simp; first | done | with_reducible rfl
                      try simp only [Act.put, List.setIfInBounds_toArray, List.set_cons_zero, List.set_cons_succ, List.getElem_toArray, List.getElem_cons_zero, List.getElem_cons_succ]
                      refine wpAnyH_take (i := 5) (v := ?_) rfl (by kernel_rfl) (by kernel_rfl) (by kernel_rfl) (fun _ _ _ h => h) (Or.inl ⟨by rfl, ?_⟩) (by assumption) ?_
                      rotate_left
                      · intro wz hSw; (try dsimp only at hSw); (try simp only [List.getElem_toArray, List.getElem_cons_zero, List.getElem_cons_succ]); go_simp; first | done | with_reducible rfl
                      try simp only [Act.put, List.setIfInBounds_toArray, List.set_cons_zero, List.set_cons_succ, List.getElem_toArray, List.getElem_cons_zero, List.getElem_cons_succ]
                      refine wpAnyH_take (i := 6) (v := ?_) rfl (by kernel_rfl) (by kernel_rfl) (by kernel_rfl) (fun _ _ _ h => h) (Or.inl ⟨by rfl, ?_⟩) (by assumption) ?_
                      rotate_left
                      · intro wz hSw; (try dsimp only at hSw); (try simp only [List.getElem_toArray, List.getElem_cons_zero, List.getElem_cons_succ]); go_simp; first | done | with_reducible rfl
                      try simp only [Act.put, List.setIfInBounds_toArray, List.set_cons_zero, List.set_cons_succ, List.getElem_toArray, List.getElem_cons_zero, List.getElem_cons_succ]
                      refine wpAnyH_take (i := 7) (v := undef) rfl (by kernel_rfl) (by kernel_rfl) (by kernel_rfl) (fun _ _ _ h => h) (Or.inr ⟨by rfl, rfl⟩) (by assumption) ?_
                      try simp only [Act.put, List.setIfInBounds_toArray, List.set_cons_zero, List.set_cons_succ, List.getElem_toArray, List.getElem_cons_zero, List.getElem_cons_succ]
                      refine wpAnyH_take (i := 8) (v := undef) rfl (by kernel_rfl) (by kernel_rfl) (by kernel_rfl) (fun _ _ _ h => h) (Or.inr ⟨by rfl, rfl⟩) (by assumption) ?_
                      try simp only [Act.put, List.setIfInBounds_toArray, List.set_cons_zero, List.set_cons_succ, List.getElem_toArray, List.getElem_cons_zero, List.getElem_cons_succ]
                      refine wpAnyH_take (i := 9) (v := undef) rfl (by kernel_rfl) (by kernel_rfl) (by kernel_rfl) (fun _ _ _ h => h) (Or.inr ⟨by rfl, rfl⟩) (by assumption) ?_
                      try simp only [Act.put, List.setIfInBounds_toArray, List.set_cons_zero, List.set_cons_succ, List.getElem_toArray, List.getElem_cons_zero, List.getElem_cons_succ]
                      refine wpAnyH_take (i := 10) (v := undef) rfl (by kernel_rfl) (by kernel_rfl) (by kernel_rfl) (fun _ _ _ h => h) (Or.inr ⟨by rfl, rfl⟩) (by assumption) ?_
                      try simp only [Act.put, List.setIfInBounds_toArray, List.set_cons_zero, List.set_cons_succ, List.getElem_toArray, List.getElem_cons_zero, List.getElem_cons_succ]
                      refine wpAnyH_take (i := 11) (v := undef) rfl (by kernel_rfl) (by kernel_rfl) (by kernel_rfl) (fun _ _ _ h => h) (Or.inr ⟨by rfl, rfl⟩) (by assumption) ?_
                      try simp only [Act.put, List.setIfInBounds_toArray, List.set_cons_zero, List.set_cons_succ, List.getElem_toArray, List.getElem_cons_zero, List.getElem_cons_succ]
                      refine wpAnyH_take (i := 12) (v := undef) rfl (by kernel_rfl) (by kernel_rfl) (by kernel_rfl) (fun _ _ _ h => h) (Or.inr ⟨by rfl, rfl⟩) (by assumption) ?_
                      try simp only [Act.put, List.setIfInBounds_toArray, List.set_cons_zero, List.set_cons_succ, List.getElem_toArray, List.getElem_cons_zero, List.getElem_cons_succ]
                      refine wpAnyH_take (i := 13) (v := undef) rfl (by kernel_rfl) (by kernel_rfl) (by kernel_rfl) (fun _ _ _ h => h) (Or.inr ⟨by rfl, rfl⟩) (by assumption) ?_
                      try simp only [Act.put, List.setIfInBounds_toArray, List.set_cons_zero, List.set_cons_succ, List.getElem_toArray, List.getElem_cons_zero, List.getElem_cons_succ]
                      refine wpAnyH_take (i := 14) (v := undef) rfl (by kernel_rfl) (by kernel_rfl) (by kernel_rfl) (fun _ _ _ h => h) (Or.inr ⟨by rfl, rfl⟩) (by assumption) ?_
                      try simp only [Act.put, List.setIfInBounds_toArray, List.set_cons_zero, List.set_cons_succ, List.getElem_toArray, List.getElem_cons_zero, List.getElem_cons_succ]
                      refine wpAnyH_take (i := 15) (v := undef) rfl (by kernel_rfl) (by kernel_rfl) (by kernel_rfl) (fun _ _ _ h => h) (Or.inr ⟨by rfl, rfl⟩) (by assumption) ?_
                      try simp only [Act.put, List.setIfInBounds_toArray, List.set_cons_zero, List.set_cons_succ, List.getElem_toArray, List.getElem_cons_zero, List.getElem_cons_succ]
                      refine wpAnyH_take (i := 16) (v := undef) rfl (by kernel_rfl) (by kernel_rfl) (by kernel_rfl) (fun _ _ _ h => h) (Or.inr ⟨by rfl, rfl⟩) (by assumption) ?_
                      try simp only [Act.put, List.setIfInBounds_toArray, List.set_cons_zero, List.set_cons_succ, List.getElem_toArray, List.getElem_cons_zero, List.getElem_cons_succ]
                      refine wpAnyH_take (i := 17) (v := undef) rfl (by kernel_rfl) (by kernel_rfl) (by kernel_rfl) (fun _ _ _ h => h) (Or.inr ⟨by rfl, rfl⟩) (by assumption) ?_
                      try simp only [Act.put, List.setIfInBounds_toArray, List.set_cons_zero, List.set_cons_succ, List.getElem_toArray, List.getElem_cons_zero, List.getElem_cons_succ]
                      refine wpAnyH_take (i := 18) (v := undef) rfl (by kernel_rfl) (by kernel_rfl) (by kernel_rfl) (fun _ _ _ h => h) (Or.inr ⟨by rfl, rfl⟩) (by assumption) ?_
                      try simp only [Act.put, List.setIfInBounds_toArray, List.set_cons_zero, List.set_cons_succ, List.getElem_toArray, List.getElem_cons_zero, List.getElem_cons_succ]
                      refine wpAnyH_take (i := 19) (v := undef) rfl (by kernel_rfl) (by kernel_rfl) (by kernel_rfl) (fun _ _ _ h => h) (Or.inr ⟨by rfl, rfl⟩) (by assumption) ?_
                      try simp only [Act.put, List.setIfInBounds_toArray, List.set_cons_zero, List.set_cons_succ, List.getElem_toArray, List.getElem_cons_zero, List.getElem_cons_succ]
                      refine wpAnyH_take (i := 20) (v := undef) rfl (by kernel_rfl) (by kernel_rfl) (by kernel_rfl) (fun _ _ _ h => h) (Or.inr ⟨by rfl, rfl⟩) (by assumption) ?_
                      try simp only [Act.put, List.setIfInBounds_toArray, List.set_cons_zero, List.set_cons_succ, List.getElem_toArray, List.getElem_cons_zero, List.getElem_cons_succ]
                      refine wpAnyH_take (i := 21) (v := undef) rfl (by kernel_rfl) (by kernel_rfl) (by kernel_rfl) (fun _ _ _ h => h) (Or.inr ⟨by rfl, rfl⟩) (by assumption) ?_
                      try simp only [Act.put, List.setIfInBounds_toArray, List.set_cons_zero, List.set_cons_succ, List.getElem_toArray, List.getElem_cons_zero, List.getElem_cons_succ]
                      refine wpAnyH_take (i := 22) (v := undef) rfl (by kernel_rfl) (by kernel_rfl) (by kernel_rfl) (fun _ _ _ h => h) (Or.inr ⟨by rfl, rfl⟩) (by assumption) ?_
                      try simp only [Act.put, List.setIfInBounds_toArray, List.set_cons_zero, List.set_cons_succ, List.getElem_toArray, List.getElem_cons_zero, List.getElem_cons_succ]
                      refine wpAnyH_take (i := 23) (v := undef) rfl (by kernel_rfl) (by kernel_rfl) (by kernel_rfl) (fun _ _ _ h => h) (Or.inr ⟨by rfl, rfl⟩) (by assumption) ?_
                      try simp only [Act.put, List.setIfInBounds_toArray, List.set_cons_zero, List.set_cons_succ, List.getElem_toArray, List.getElem_cons_zero, List.getElem_cons_succ]
                      refine wpAnyH_take (i := 24) (v := ?_) rfl (by kernel_rfl) (by kernel_rfl) (by kernel_rfl) (fun _ _ _ h => h) (Or.inl ⟨by rfl, ?_⟩) (by assumption) ?_
                      rotate_left
                      · intro wz hSw; (try dsimp only at hSw); (try simp only [List.getElem_toArray, List.getElem_cons_zero, List.getElem_cons_succ]); go_simp; first | done | with_reducible rfl
                      try simp only [Act.put, List.setIfInBounds_toArray, List.set_cons_zero, List.set_cons_succ, List.getElem_toArray, List.getElem_cons_zero, List.getElem_cons_succ]
                      refine wpAnyH_take (i := 25) (v := ?_) rfl (by kernel_rfl) (by kernel_rfl) (by kernel_rfl) (fun _ _ _ h => h) (Or.inl ⟨by rfl, ?_⟩) (by assumption) ?_
                      rotate_left
                      · intro wz hSw; (try dsimp only at hSw); (try simp only [List.getElem_toArray, List.getElem_cons_zero, List.getElem_cons_succ]); go_simp; first | done | with_reducible rfl
                      try simp only [Act.put, List.setIfInBounds_toArray, List.set_cons_zero, List.set_cons_succ, List.getElem_toArray, List.getElem_cons_zero, List.getElem_cons_succ]
                      refine wpAnyH_done (by kernel_rfl) ?_ _
                      clear hS0 hS1 HK9 HK8
                      go_wp2
                      go_roundw
                      case rel => exact ⟨i + 1, by omega, by go_num, HK10⟩
                      case measure => simp [intOf]; omega
                  · obtain rfl : n = i := by omega
                    have ij : ¬ (n : Int) < (n : Int) := by omega
                    have CX := Lib.hid (HKi.out.on.exp (now + 30) (by omega) (by unfold InN; omega))
                    rw [HS.out.yes HNW.out.1 HNW.out.2] at CX
                    go_wp2_with fail
                    refine CX.out.mono ?_
                    rintro e w8 ⟨ax, cx, rfl, _, hO8, _⟩
                    have CL := Lib.hid (hO8.len (by simp))
                    rw [show trE [] = 0 from rfl, show unE [] = 0 from rfl] at CL
                    clear hO8 CX HKi
                    go_wp2_with fail
                    refine CL.out.mono ?_
                    rintro e w9 ⟨rfl, hO9, _⟩
                    have HBZ := Lib.hid (bl_tr HB1.out hO9.bel)
                    clear hO9 CL
                    go_wp2
                    go_ret
                    exact ⟨rfl, HBZ.out⟩
end Go.Proofs.Ytpbgccidhpfmgaa
namespace Go.Proofs.Ytpbgccidhpfmgaa
open Go Go.RowKit Go.ChangeShapes Go.WideShapes Go.Deep
set_option linter.unusedVariables false
set_option linter.unusedSimpArgs false

theorem weights_at {H : Type} {P : Program} : ∀ {ts : List TypeId} {ds : List (DataW H)}, (DataW.weightsEach P ts ds).all (· ≤ reachBytes) = true → ∀ {j : Nat} {t : TypeId} {d : DataW H}, ts[j]? = some t → ds[j]? = some d → (d.weights P t).all (· ≤ reachBytes) = true
  | [], _, _, _, _, _, ht, _ => by simp at ht
  | _ :: _, [], _, _, _, _, _, hd => by simp at hd
  | t0 :: ts, d0 :: ds, h, 0, t, d, ht, hd => by
    simp only [List.getElem?_cons_zero, Option.some.injEq] at ht hd
    subst ht hd
    rw [DataW.weightsEach, List.all_append, Bool.and_eq_true] at h
    exact h.1
  | t0 :: ts, d0 :: ds, h, j + 1, t, d, ht, hd => by
    simp only [List.getElem?_cons_succ] at ht hd
    rw [DataW.weightsEach, List.all_append, Bool.and_eq_true] at h
    exact weights_at h.2 ht hd
theorem weightsAll_at {H : Type} {P : Program} {e : TypeId} : ∀ {ds : List (DataW H)}, (DataW.weightsAll P e ds).all (· ≤ reachBytes) = true → ∀ d ∈ ds, (d.weights P e).all (· ≤ reachBytes) = true
  | [], _, d, hd => by cases hd
  | d0 :: ds, h, d, hd => by
    rw [DataW.weightsAll, List.all_append, Bool.and_eq_true] at h
    rcases List.mem_cons.1 hd with rfl | hd
    · exact h.1
    · exact weightsAll_at h.2 d hd
theorem plain_of {w : World} {a : Addr} {v : Value} (h : w.cell? (a.add 0) = some v) : a = ⟨a.block, a.off, none⟩ := by
  obtain ⟨b, off, spot⟩ := a
  have hspot : spot = none := by simpa [Addr.add] using World.cell?_spot h
  subst hspot
  rfl
theorem u32_of {n : Int} (h : (Lit.int .u32 n).wf = true) : 0 ≤ n ∧ n < 4294967296 := by
  have e : 0 ≤ n ∧ n ≤ 4294967295 := by simpa [Lit.wf, IntKind.min, IntKind.max, IntKind.signed, IntKind.bits] using h
  omega
theorem getD_range {α : Type} (f : Nat → α) (d : α) {n j : Nat} (hj : j < n) : ((List.range n).map f).getD j d = f j := by
  rw [List.getD_eq_getElem?_getD, List.getElem?_map, List.getElem?_range hj]
  rfl
instance : Inhabited Fl := ⟨fl0⟩
theorem inN_of {n : Int} (h : (Lit.int .i64 n).wf = true) : InN n := by
  have e : -9223372036854775808 ≤ n ∧ n ≤ 9223372036854775807 := by simpa [Lit.wf, IntKind.min, IntKind.max, IntKind.signed, IntKind.bits] using h
  exact e
theorem cells3 : Try.prog.cellsOf 3 = 1 := by kernel_rfl
theorem cells23 : Try.prog.cellsOf 36 = 1 := by kernel_rfl
theorem cellsFl : Try.prog.cellsOf 38 = 5 := by kernel_rfl
theorem bytesFl : Try.prog.bytesOf 38 = 40 := by kernel_rfl
theorem cellsFs : Try.prog.cellsOf 39 = 1 := by kernel_rfl
set_option maxRecDepth 100000 in
theorem open_flowc {H : Type} {enc : TypeId × Value → H} {W : World} {fuel : Nat} {c3 c4 c5 c6 c7 : Value} {x : DataW H × List MemPlace} (hf : DataW.trod enc Try.prog W 0 (fun _ => true) true fuel 38 [c3, c4, c5, c6, c7] = some x) :
    ∃ f : Fl, c3 = .int .i64 f.p ∧ c4 = .int .u32 f.s ∧ c5 = .int .i64 f.sp ∧ c6 = .int .u32 f.d ∧ c7 = .int .i64 f.dp ∧ FitF f := by
  obtain ⟨xs, n, _, hx, _, hlen, hg⟩ := DataW.trod_struct Try.underlying38 hf
  match xs, hlen with
  | [u0, u1, u2, u3, u4], _ =>
    have k0 : DataW.trod enc Try.prog W 0 (fun _ => true) true n 3 [c3] = some u0 := by simpa [Value.cells, cells3, cells23] using hg 0 _ rfl
    have k1 : DataW.trod enc Try.prog W 0 (fun _ => true) true n 36 [c4] = some u1 := by simpa [Value.cells, cells3, cells23] using hg 1 _ rfl
    have k2 : DataW.trod enc Try.prog W 0 (fun _ => true) true n 3 [c5] = some u2 := by simpa [Value.cells, cells3, cells23] using hg 2 _ rfl
    have k3 : DataW.trod enc Try.prog W 0 (fun _ => true) true n 36 [c6] = some u3 := by simpa [Value.cells, cells3, cells23] using hg 3 _ rfl
    have k4 : DataW.trod enc Try.prog W 0 (fun _ => true) true n 3 [c7] = some u4 := by simpa [Value.cells, cells3, cells23] using hg 4 _ rfl
    obtain ⟨z3, e3, _, w3⟩ := DataW.trod_int Try.underlying3 k0
    obtain ⟨z4, e4, _, w4⟩ := DataW.trod_int Try.underlying36 k1
    obtain ⟨z5, e5, _, w5⟩ := DataW.trod_int Try.underlying3 k2
    obtain ⟨z6, e6, _, w6⟩ := DataW.trod_int Try.underlying36 k3
    obtain ⟨z7, e7, _, w7⟩ := DataW.trod_int Try.underlying3 k4
    simp only [List.cons.injEq, and_true] at e3 e4 e5 e6 e7
    exact ⟨⟨z3, z4, z5, z6, z7⟩, e3, e4, e5, e6, e7, ⟨inN_of w3, u32_of w4, inN_of w5, u32_of w6, inN_of w7⟩⟩
def FRow (W : World) (p : Addr) (f : Fl) : Prop := (∀ i, i < 5 → W.cell? (p.add i) = (csF f)[i]?) ∧ FitF f
set_option maxRecDepth 100000 in
theorem open_flow5 {H : Type} {enc : TypeId × Value → H} {W : World} {p : Addr} {cs : List Value} {n : Nat} {d : DataW H} {pl : List MemPlace} (h1 : W.cells? 0 p 5 = some cs) (h2 : DataW.trod enc Try.prog W 0 (fun _ => true) true n 38 cs = some (d, pl)) : ∃ f, FRow W p f := by
  obtain ⟨_, hlen, hc⟩ := World.cells?_some h1
  match cs, hlen with
  | [c0, c1, c2, c3, c4], _ =>
    obtain ⟨f, e3, e4, e5, e6, e7, hT⟩ := open_flowc h2
    subst e3 e4 e5 e6 e7
    refine ⟨f, fun i hi => ?_, hT⟩
    rw [hc i (by simpa using hi)]
    rfl
set_option maxRecDepth 100000 in
theorem open_flows1 {H : Type} {enc : TypeId × Value → H} {W : World} {v : Value} {fuel : Nat} {x : DataW H × List MemPlace} (hf : DataW.trod enc Try.prog W 0 (fun _ => true) true fuel 39 [v] = some x) (hw : (x.1.weights Try.prog 39).all (· ≤ reachBytes) = true) :
    ∃ a n cap fs, v = .slice a n cap ∧ InF W a n fs ∧ n ≤ cap ∧ (a = none → n = 0 ∧ cap = 0) ∧ (∀ f ∈ fs, FitF f) ∧ n ≤ 1152921504606846976 := by
  rcases open_slice Try.underlying39 hf with ⟨hcs, hx⟩ | ⟨a, len, cap, m, n, D, Pl, hcs, _, hl, hm, hmm, hx, hi⟩
  · simp only [List.cons.injEq, and_true] at hcs
    subst hcs
    exact ⟨none, 0, 0, [], rfl, ⟨rfl, .inl rfl⟩, Nat.le_refl _, fun _ => ⟨rfl, rfl⟩, (fun e he => by cases he), Nat.zero_le _⟩
  · simp only [List.cons.injEq, and_true] at hcs
    subst hcs
    simp only [if_true] at hmm
    subst hmm
    rw [hx] at hw
    simp only [DataW.weights, Try.underlying39, List.all_cons, List.all_append, Bool.and_eq_true] at hw
    have h1 := of_decide_eq_true hw.1
    rw [bytesFl, List.length_map, List.length_range] at h1
    rw [cellsFl] at hi
    obtain ⟨L, hL⟩ := choose_lt (n := len) (α := Fl) (p := fun i e => FRow W (a.add (i * 5)) e) (fun i hil => by
      obtain ⟨cs', k1, k2⟩ := hi i (by omega)
      exact open_flow5 k1 k2)
    have hg : ∀ j, j < len → ((List.range len).map L).getD j fl0 = L j := fun j hj => getD_range L fl0 hj
    refine ⟨some a, len, m, (List.range len).map L, rfl, ⟨by simp, ?_⟩, hl, (fun e => by cases e), fun e he => ?_, ?_⟩
    · rcases Nat.eq_zero_or_pos len with h0 | h0
      · subst h0
        exact .inl rfl
      · have hz := (hL 0 h0).1 0 (by omega)
        have ha0 : a.add (0 * 5) = a := by simp [Addr.add]
        rw [ha0] at hz
        have hz2 : W.cell? (a.add 0) = some (.int .i64 (L 0).p) := hz
        have ha := plain_of hz2
        refine .inr ⟨a.block, a.off, by rw [← ha], fun j hj => flIn_of (fun i hi2 => ?_)⟩
        have hjl : j < len := by simpa using hj
        have hc := (hL j hjl).1 i hi2
        rw [ha, Go.WideShapes.add_plain, Go.WideShapes.add_plain] at hc
        rw [hg j hjl]
        exact hc
    · obtain ⟨i, hil, rfl⟩ := List.mem_map.1 he
      exact (hL i (List.mem_range.1 hil)).2
    · unfold reachBytes at h1
      omega
set_option maxRecDepth 100000 in
theorem open_flows {H : Type} {enc : TypeId × Value → H} {W : World} {v : Value} {d : DataW H} {p : List MemPlace} {r : Reach} {b0 : Nat}
    (hv : Value.okWide Try.prog W r b0 39 v) (h : DataW.Trod enc Try.prog W 0 (fun _ => true) true 39 v d p) (hw : (d.weights Try.prog 39).all (· ≤ reachBytes) = true) :
    ∃ a n cap fs, v = .slice a n cap ∧ InF W a n fs ∧ n ≤ cap ∧ (a = none → n = 0 ∧ cap = 0) ∧ (∀ f ∈ fs, FitF f) ∧ n ≤ 1152921504606846976 := by
  obtain ⟨a, n, cap, rfl⟩ := okWide_slice Try.underlying39 hv
  obtain ⟨fuel, hf⟩ := h
  exact open_flows1 (x := (d, p)) (by simpa [Value.cells] using hf) hw
end Go.Proofs.Ytpbgccidhpfmgaa
