/- The timers of a wheel that are due, in order: the program's timersUntil. Conditions: at most 2^20 timers. -/
import Derived.Test.YthoegmcdohppoaaWmF
import Derived.Test.YthoegmcdohppoaaShf
namespace Go.Proofs.Ythoegmcdohppoaa
open Go Go.RowKit Go.Shelf Go.Maps
set_option linter.unusedVariables false
set_option linter.unusedSimpArgs false

theorem infoP : (Try.prog.info? 69).map (fun i => (i.zero, i.size, i.bytes)) = some (some (.agg #[.int .i64 0, .int .i64 0]), 2, 16) := by kernel_rfl
/-- An address as the program's own rows have. -/
def PlA (a : Option Addr) (c : Nat) : Prop := (a = none ∧ c = 0) ∨ ∃ g, a = some ⟨g, 0, none⟩
theorem PlA.own {w : World} {B n size c : Nat} {e : TypeId} {a : Option Addr} {xs : List Value} (h : w.ownsRow B e size (.slice a n c) n xs) : PlA a c := by
  rcases h.2 with ⟨e0, _⟩ | ⟨g, cap, cur, e0, _⟩
  · cases e0; exact .inl ⟨rfl, rfl⟩
  · cases e0; exact .inr ⟨g, rfl⟩
theorem sortP_c (l : List Wy) (v : Value) (n B : Nat) (w : World) (h : w.ownsRow B tyP 2 v n (cellsP l)) (hB : B ≤ w.heap.size) (hn : n ≤ 1048576) :
    Calls Try.prog 29 #[v, .func (.func 30) #[] #[]] w fun e w' => e = .returned (.tuple #[]) ∧ (∃ a c S, v = .slice a n c ∧ n ≤ c ∧ PlA a c ∧ InP w' a n S ∧ S.Perm l ∧ S.Pairwise leW) ∧ Below B w w' := by
  have hl : l.length = n := by have := h.1; rw [cellsP_len] at this; omega
  by_cases h0 : n = 0
  · subst h0
    have hl0 : l = [] := List.eq_nil_of_length_eq_zero hl
    obtain ⟨a, c, rfl⟩ := own_form h
    refine (AnyF.slices_SortFunc_none { Try.sortP with } a c _ w).mono ?_
    rintro e w' ⟨rfl, rfl⟩
    exact ⟨rfl, ⟨a, c, [], rfl, Nat.zero_le _, PlA.own h, ⟨rfl, .inl rfl⟩, by rw [hl0], .nil⟩, Below.refl _ _⟩
  · rcases h.2 with ⟨e0, h0'⟩ | ⟨g, cap, cur, rfl, hb, hg, h1, h2, h3, h4⟩
    · exact absurd h0' h0
    · have eg : ∀ args w, (callFunc 30 args).run Try.prog w = .ok (.enter 30 args) w := enters_of Try.func30 (by kernel_rfl) rfl
      have hc : ∀ (t : Nat) (u : Value), (cellsP l.toArray.toList)[t]? = some u → cur[t]? = some u := by
        intro t u hu
        rw [show l.toArray.toList = l from rfl, ← h4, List.getElem?_take] at hu
        split at hu
        · rwa [← Array.getElem?_toList]
        · cases hu
      have hs := AnyQ.slices_SortFunc_total Try.sortP 2 Try.isAgg69 Try.sizeOf69 csP csP_len csP_one cfP swoP 30 #[] g 0 cap l.toArray w eg (order_lays _ _ _ _) (holds_of l.toArray hg hc) (lt_of_block hg) (by simp; omega) (fun x y h1 h2 => by
        rw [ltP] at h1 h2
        simp only [decide_eq_false_iff_not, Classical.not_not] at h1 h2
        exact leW_anti h2 h1)
      have es : l.toArray.size = n := by simpa using hl
      rw [es] at hs
      refine hs.mono ?_
      rintro e w' ⟨rfl, q, os, rfl⟩
      obtain ⟨S, hS⟩ : ∃ S, S = (l.toArray.toList.mergeSort fun x y => !(ltOf cfP) y x) := ⟨_, rfl⟩
      rw [← hS]
      have hperm : S.Perm l := by rw [hS]; exact List.mergeSort_perm _ _
      have hle : ∀ x y : Wy, (!(ltOf cfP) y x) = true ↔ leW x y := fun x y => by rw [ltP]; simp
      have hsrt : S.Pairwise leW := by
        rw [hS]
        refine (List.pairwise_mergeSort (fun a b c h1 h2 => ?_) (fun a b => ?_) _).imp (fun h => (hle _ _).1 h)
        · rw [hle] at *; exact leW_trans h1 h2
        · rw [Bool.or_eq_true, hle, hle]; exact leW_total a b
      have hlen : S.toArray.size = n := by simpa using hperm.length_eq.trans hl
      have hH := holdsK_sortWorldK_c csP 2 w g 0 l.toArray S.toArray q os (holds_of l.toArray hg hc) (lt_of_block hg) (by rw [hlen, es])
      have hI := inP_of hH
      rw [hlen] at hI
      exact ⟨rfl, ⟨_, cap, S, rfl, h1, .inr ⟨g, rfl⟩, hI, hperm, hsrt⟩, below_sort hb hB⟩
theorem own_block {w : World} {B n size : Nat} {e : TypeId} {v : Value} {xs : List Value} (h : w.ownsRow B e size v n xs) {k : Nat} (hk : v.ownBlock = some k) : B ≤ k := by
  rcases h.2 with ⟨rfl, _⟩ | ⟨g, cap, cur, rfl, hb, _⟩
  · cases hk
  · cases hk; exact hb
theorem pt_new (w : World) (p : Wy) : ∀ j u, (csP p)[j]? = some u → (w.alloc (.cells (csP p).toArray tyP)).cell? ((⟨w.heap.size, 0, none⟩ : Addr).add j) = some u := fun j u h => by
  rw [Go.WideShapes.add_plain]
  exact cells_new w (csP p) tyP (0, 0) j u h
/-- Those that have come and are due. -/
def doneT (left : Lit → Bool) (now : Int) (ts : List Wy) : List Wy := ts.filter (fun t => !left (kI t.2) && decide (t.1 ≤ now))
theorem doneT_start {D : DU} {ts : List Wy} (hk : KeyT ts) (h : MR D ts) (now : Int) : doneT (Maps.has D) now ts = [] := by
  unfold doneT
  rw [List.filter_eq_nil_iff]
  intro t ht
  rw [h.has, (atT_some hk).2 (show (t.1, t.2) ∈ ts from ht)]
  simp
theorem doneT_end {left : Lit → Bool} {ts : List Wy} (now : Int) (h : ∀ k, left k = false) : doneT left now ts = ts.filter (fun t => decide (t.1 ≤ now)) := by
  unfold doneT
  congr 1
  funext t
  rw [h]
  simp
theorem left_one (left : Lit → Bool) (x : Int) : (left (kI x) && !(kI x).sameKey (kI x)) = false := by
  rw [WideAt.sameKey_self (isKey x)]
  simp
theorem left_other (left : Lit → Bool) {x k : Int} (h : k ≠ x) : (left (kI k) && !(kI k).sameKey (kI x)) = left (kI k) := by
  rw [sameKey_ne (kI_ne h)]
  simp
theorem doneT_step {left : Lit → Bool} {ts : List Wy} (hk : KeyT ts) {x y now : Int} (hin : (y, x) ∈ ts) (hl : left (kI x) = true) :
    (doneT (fun z => left z && !z.sameKey (kI x)) now ts).Perm (doneT left now ts ++ (if y ≤ now then [(y, x)] else [])) := by
  have hp := cut_one hk hin
  have h1 : (doneT (fun z => left z && !z.sameKey (kI x)) now ts).Perm (doneT (fun z => left z && !z.sameKey (kI x)) now ((y, x) :: cutT x ts)) := hp.filter _
  have h2 : (doneT left now ts).Perm (doneT left now ((y, x) :: cutT x ts)) := hp.filter _
  have h3 : doneT left now ((y, x) :: cutT x ts) = doneT left now (cutT x ts) := by
    unfold doneT
    rw [List.filter_cons_of_neg (by simp [hl])]
  have h4 : doneT (fun z => left z && !z.sameKey (kI x)) now (cutT x ts) = doneT left now (cutT x ts) := by
    unfold doneT
    apply List.filter_congr
    intro t ht
    have hne : t.2 ≠ x := by
      have := (List.mem_filter.1 ht).2
      simpa using this
    simp only
    rw [left_other left hne]
  rw [h3] at h2
  refine h1.trans (.trans ?_ (h2.symm.append_right _))
  by_cases hc : y ≤ now
  · rw [if_pos hc]
    have : doneT (fun z => left z && !z.sameKey (kI x)) now ((y, x) :: cutT x ts) = (y, x) :: doneT (fun z => left z && !z.sameKey (kI x)) now (cutT x ts) := by
      unfold doneT
      rw [List.filter_cons_of_pos]
      simp only
      rw [left_one]
      simp [hc]
    rw [this, h4]
    exact (List.perm_append_comm (l₁ := [(y, x)])).trans (.refl _)
  · rw [if_neg hc, List.append_nil]
    have : doneT (fun z => left z && !z.sameKey (kI x)) now ((y, x) :: cutT x ts) = doneT (fun z => left z && !z.sameKey (kI x)) now (cutT x ts) := by
      unfold doneT
      rw [List.filter_cons_of_neg]
      simp [hc]
    rw [this, h4]
/-- What timersUntil leaves. -/
def GotU (w : World) (now : Int) (ts : List Wy) (e : Ending) (w' : World) : Prop :=
  ∃ a n c S, e = .returned (.slice a n c) ∧ n ≤ c ∧ PlA a c ∧ InP w' a n S ∧ S.Perm (ts.filter (fun t => decide (t.1 ≤ now))) ∧ S.Pairwise leW ∧ Below w.heap.size w w'
theorem done_len {left : Lit → Bool} {now : Int} {ts l : List Wy} (h : l.Perm (doneT left now ts)) : l.length ≤ ts.length := by
  rw [h.length_eq]
  exact List.length_filter_le _ _
theorem cells_len {w : World} {B n : Nat} {v : Value} {l : List Wy} (h : w.ownsRow B tyP 2 v n (cellsP l)) : l.length = n := by
  have := h.1
  rw [cellsP_len] at this
  omega
set_option maxRecDepth 100000 in
set_option maxHeartbeats 1000000 in
theorem until_c (b : Nat) (now : Int) (ts : List Wy) (w : World) (hm : MapS w b ts) (hk : KeyT ts) (hn : ts.length ≤ 1048576) :
    Calls Try.prog 27 #[.int .i64 now, .map (some b)] w (GotU w now ts) := by
  obtain ⟨i0, hi0, hz0, hz1, hz2⟩ := info_parts infoP
  obtain ⟨D, hown, hmr⟩ := hm
  have HMR := Lib.hid hmr
  have HKT := Lib.hid hk
  have hbl := hown.lt
  have HL0 := Lib.hid (doneT_start hk hmr now)
  clear hmr hk
  go_enter Try.func27, Try.ntmps27
  go_wp2_with (first
    | (at_range; refine wpList_range_own _ rfl _ tyM rfl tyI tyI lawI Try.underlying59 _ b _ D rfl hown ?_; intro w0 hrg0 hg0 hs0)
    | go_in)
  go_frame
  obtain ⟨r, hr⟩ : ∃ r, r = w.heap.size := ⟨_, rfl⟩
  rw [← hr] at hrg0 ⊢
  have HRr := Lib.hid hr
  have hbr : b < r := by omega
  have HS0 : Hid (w.heap.size + 1 ≤ w0.heap.size) := Lib.hid (by omega)
  clear hr hs0
  go_loopw [5] (fun pv wr => ∃ (N : Nat) (l : List Wy) (left : Lit → Bool) (cnt : Nat), Hid (wr.ownsRow (r + 1) tyP 2 pv N (cellsP l)) ∧ Hid (l.Perm (doneT left now ts)) ∧ wr.ranges Try.prog tyI (plainElem (H := Unit) Try.prog tyI) b r ts.length D left cnt ∧ w.grownBy wr none ∧ Hid (w.heap.size + 1 ≤ wr.heap.size)) (fun _ wr => wr.rangeLeft b r)
  case atStart => exact ⟨0, [], _, _, Lib.hid ⟨by simp [cellsP], .inl ⟨rfl, rfl⟩⟩, Lib.hid (by rw [HL0.out]), hrg0, hg0, HS0⟩
  case round =>
    obtain ⟨N, l, left, cnt, HO, HP, hrg, hgw, HSZ⟩ := hrel
    clear hrg0 hg0 HS0 HL0
    go_wp2_with (first
      | (at_next; refine wpList_next_ranges_ii _ rfl _ rfl tyI tyI .i64 .i64 lawI Try.underlying3 Try.underlying3 b r ts.length D left cnt rfl hrg ?_ ?_)
      | go_in)
    · intro _ hl0
      have hlen := done_len HP.out
      have hcl := cells_len HO.out
      have HE := Lib.hid (doneT_end (ts := ts) now hl0)
      have HB := Lib.hid ((tch_none hgw Non).below (B := w.heap.size) (fun _ h => h.elim) (Nat.le_refl _))
      have CS := Lib.hid (sortP_c _ _ _ _ wr HO.out (by rw [HRr.out]; exact HSZ.out) (by omega))
      clear hrg hgw
      go_wp2_with fail
      refine CS.out.mono ?_
      rintro e w4 ⟨rfl, ⟨a4, c4, S, hv, hS⟩, hb4⟩
      have HS := Lib.hid hS
      have HV := Lib.hid hv
      have HB4 := Lib.hid (HB.out.trans (hb4.mono (by rw [HRr.out]; omega)))
      clear hb4 hv hS CS
      go_wp2
      go_ret
      refine ⟨a4, N, c4, S, ?_, HS.out.1, HS.out.2.1, HS.out.2.2.1, ?_, HS.out.2.2.2.2, HB4.out⟩
      · rw [← HV.out]; rfl
      · rw [← HE.out]; exact HS.out.2.2.2.1.trans HP.out
    · intro x y w4 cnt1 hwx hwc hlx hat hrg1 hlt hg1 hs1 hen
      have hgw1 := hgw.andThen hg1 (fun j hj => by cases hj; exact Or.inl (by rw [HRr.out]; exact Nat.le_refl _))
      have HIN := Lib.hid (look_in HKT.out HMR.out hat)
      have HST := Lib.hid (doneT_step HKT.out HIN.out hlx (now := now))
      have HO4 := Lib.hid ((tch_grown hg1).own HO.out (fun g hg e => by
        have := own_block HO.out hg
        cases e
        omega))
      have HSZ4 : Hid (w.heap.size + 1 ≤ w4.heap.size) := Lib.hid (by rw [hs1]; exact HSZ.out)
      clear hat hlx HO hs1
      by_cases hy : y ≤ now
      · have hlen := done_len HP.out
        have hcl := cells_len HO4.out
        have HNW := Lib.hid (pt_new w4 (y, x))
        have HSA : Hid (cellsP l ++ csP (y, x) = cellsP (l ++ [(y, x)])) := Lib.hid (by rw [cellsP_app, cellsP_one])
        have HP2 : Hid ((l ++ [(y, x)]).Perm (doneT (fun z => left z && !z.sameKey (kI x)) now ts)) := Lib.hid (by
          have := HST.out
          rw [if_pos hy] at this
          exact (HP.out.append_right _).trans this.symm)
        clear HP HST HIN
        go_wp2_with (at_builtin; refine wpList_append_own _ rfl _ _ 66 rfl (r + 1) 69 i0 (.agg #[.int .i64 0, .int .i64 0]) 2 16 Try.underlying66 hi0 hz0 hz1 hz2 rfl (by decide) _ _ _ rfl (HO4.out.alloc _) ⟨w4.heap.size, 0, none⟩ 1 1 (csP (y, x)) rfl rfl HNW.out (csP_one _) ?c1 ?c2 ?c3 ?_)
        case c1 => unfold maxLen; omega
        case c2 => omega
        case c3 => have := HSZ4.out; have := HRr.out; simp; omega
        intro v5 w5 ho5 hg5 _
        rw [HSA.out] at ho5
        have HO5 := Lib.hid ho5
        have hob : ∀ j, u5.ownBlock = some j → r + 1 ≤ j := fun j hj => own_block HO4.out hj
        have hrg5 := (hrg1.alloc (.cells (csP (y, x)).toArray tyP)).kept hg5 (fun e => by have := hob b e.symm; omega) (fun e => by have := hob r e.symm; omega)
        have hgw5 := (hgw1.andThen (World.grownBy_alloc w4 (.cells (csP (y, x)).toArray tyP) none) (fun j hj => by cases hj)).andThen hg5 (fun j hj => Or.inl (by have := hob j hj; have := HRr.out; omega))
        have HSZ5 : Hid (w.heap.size + 1 ≤ w5.heap.size) := Lib.hid (by have := hg5.size; have := HSZ4.out; simp at *; omega)
        clear ho5 hg5 HO4 HSA HNW hgw1 HSZ4 hob
        go_wp2
        go_roundw
        case rel => exact ⟨N + 1, _, _, cnt1, HO5, HP2, hrg5, hgw5, HSZ5⟩
        case measure => rw [hrg5.left_eq, hrg.left_eq]; exact hlt
      · have HP2 : Hid (l.Perm (doneT (fun z => left z && !z.sameKey (kI x)) now ts)) := Lib.hid (by
          have := HST.out
          rw [if_neg hy, List.append_nil] at this
          exact HP.out.trans this.symm)
        clear HP HST HIN
        go_wp2
        go_roundw
        case rel => exact ⟨N, l, _, cnt1, HO4, HP2, hrg1, hgw1, HSZ4⟩
        case measure => rw [hrg1.left_eq, hrg.left_eq]; exact hlt
end Go.Proofs.Ythoegmcdohppoaa
