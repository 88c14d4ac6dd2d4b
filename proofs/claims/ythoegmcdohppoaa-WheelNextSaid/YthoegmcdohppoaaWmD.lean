/- The program's wheel: Next. Conditions: as each states. -/
import Derived.Test.YthoegmcdohppoaaWmC
namespace Go.Proofs.Ythoegmcdohppoaa
open Go Go.RowKit Go.Maps
set_option linter.unusedVariables false
set_option linter.unusedSimpArgs false

/-- The least time of those that have come. -/
def Nx (ts : List Wy) (left : Lit → Bool) (c : Int) (f : Bool) : Prop :=
  (f = false → c = 0 ∧ ∀ t ∈ ts, left (kI t.2) = true) ∧ (f = true → (∃ k, (c, k) ∈ ts) ∧ ∀ t ∈ ts, left (kI t.2) = false → c ≤ t.1)
theorem look_in {D : DU} {ts : List Wy} (hk : KeyT ts) (h : MR D ts) {x y : Int} (hat : ∀ zd, D.atKey (kI x) zd = vI y) : (y, x) ∈ ts := by
  have h1 := hat .nil
  rw [h.look] at h1
  cases e : atT x ts with
  | none => rw [e] at h1; cases h1
  | some t =>
    rw [e] at h1
    injection h1 with h1
    injection h1 with _ h1
    subst h1
    exact (atT_some hk).1 e
theorem left_off {left : Lit → Bool} {x k : Int} (h : (left (kI k) && !(kI k).sameKey (kI x)) = false) : left (kI k) = false ∨ k = x := by
  cases e : left (kI k) with
  | false => exact .inl rfl
  | true =>
    rw [e, Bool.true_and, Bool.not_eq_false'] at h
    have := WideAt.sameKey_eq h
    injection this with _ e2
    exact .inr e2
theorem Nx.start {D : DU} {ts : List Wy} (hk : KeyT ts) (h : MR D ts) : Nx ts (Maps.has D) 0 false := by
  refine ⟨fun _ => ⟨rfl, fun t ht => ?_⟩, fun e => by cases e⟩
  rw [h.has, (atT_some hk).2 (show (t.1, t.2) ∈ ts from ht)]
  rfl
theorem Nx.take {ts : List Wy} {left : Lit → Bool} {c : Int} {f : Bool} (h : Nx ts left c f) (hk : KeyT ts) {x y : Int} (hin : (y, x) ∈ ts) (hc : f = false ∨ y < c) : Nx ts (fun z => left z && !z.sameKey (kI x)) y true := by
  refine ⟨fun e => (by cases e), fun _ => ⟨⟨x, hin⟩, fun t ht hl => ?_⟩⟩
  rcases left_off hl with h1 | h1
  · cases f with
    | false => have := (h.1 rfl).2 t ht; rw [h1] at this; cases this
    | true =>
      have := (h.2 rfl).2 t ht h1
      rcases hc with e | e
      · cases e
      · omega
  · rw [key_one hk ht hin h1]
    exact Int.le_refl _
theorem Nx.stay {ts : List Wy} {left : Lit → Bool} {c : Int} (h : Nx ts left c true) (hk : KeyT ts) {x y : Int} (hin : (y, x) ∈ ts) (hc : ¬ y < c) : Nx ts (fun z => left z && !z.sameKey (kI x)) c true := by
  refine ⟨fun e => (by cases e), fun _ => ⟨(h.2 rfl).1, fun t ht hl => ?_⟩⟩
  rcases left_off hl with h1 | h1
  · exact (h.2 rfl).2 t ht h1
  · rw [key_one hk ht hin h1]
    exact Int.not_lt.1 hc
theorem Nx.done {ts : List Wy} {left : Lit → Bool} {c : Int} {f : Bool} (h : Nx ts left c f) (hl : ∀ k, left k = false) : atR (nextT ts) = .tuple #[.int .i64 c, .bool f] := by
  cases f with
  | false =>
    have h1 := h.1 rfl
    have : ts = [] := by
      cases ts with
      | nil => rfl
      | cons t ts =>
        have := h1.2 t List.mem_cons_self
        rw [hl] at this
        cases this
    rw [nextT_none.2 this, h1.1]
    rfl
  | true =>
    obtain ⟨⟨k, hk⟩, h2⟩ := h.2 rfl
    cases e : nextT ts with
    | none => rw [nextT_none.1 e] at hk; cases hk
    | some a =>
      obtain ⟨⟨k2, hk2⟩, h3⟩ := nextT_some e
      have h4 := h2 _ hk2 (hl _)
      have h5 := h3 _ hk
      simp only at h4 h5
      rw [show a = c by omega]
      rfl
theorem tch_none {w w' : World} (h : w.grownBy w' none) (F : Nat → Prop) : Tch F w w' := (tch_grown h).mono (fun k hk => by cases hk)
set_option maxRecDepth 100000 in
theorem wnext_t (B p : Nat) (F : Nat → Prop) (ts : List Wy) (w : World) (h : WSt w B F p ts) (hB : B ≤ w.heap.size) (hn : ts.length ≤ 1048576) :
    Calls Try.prog 22 #[.pointer (some ⟨p, 0, none⟩)] w fun e w' => e = .returned (atR (nextT ts)) ∧ WTo WSt w B F p ts w' := by
  obtain ⟨b, hF, hc, hm⟩ := h.map
  have HH := Lib.hid (held_c p b w hc)
  obtain ⟨D, hown, hmr⟩ := hm
  have HMR := Lib.hid hmr
  have HKT := Lib.hid h.key
  have HX0 := Lib.hid (Nx.start h.key hmr)
  have HW := Lib.hid h
  clear hmr h
  go_enter Try.func22, Try.ntmps22
  go_wp2_with fail
  refine HH.out.mono ?_
  rintro e w1 ⟨rfl, rfl⟩
  go_wp2_with (first
    | (at_range; refine wpList_range_own _ rfl _ tyM rfl tyI tyI lawI Try.underlying59 _ b _ D rfl hown ?_; intro w0 hrg0 hg0 hs0)
    | go_in)
  go_frame
  obtain ⟨r, hr⟩ : ∃ r, r = w1.heap.size := ⟨_, rfl⟩
  rw [← hr] at hrg0 ⊢
  have HRr := Lib.hid hr
  clear hr
  go_loopw [4, 5] (fun lv fv wr => ∃ (c : Int) (f : Bool) (left : Lit → Bool) (cnt : Nat), lv = .int .i64 c ∧ fv = .bool f ∧ wr.ranges Try.prog tyI (plainElem (H := Unit) Try.prog tyI) b r ts.length D left cnt ∧ Hid (Nx ts left c f) ∧ w1.grownBy wr none) (fun _ _ wr => wr.rangeLeft b r)
  case atStart => exact ⟨0, false, _, _, rfl, rfl, hrg0, HX0, hg0⟩
  case round =>
    obtain ⟨c, f, left, cnt, rfl, rfl, hrg, HX, hgw⟩ := hrel
    clear hrg0 hg0 hs0
    go_wp2_with (first
      | (at_next; refine wpList_next_ranges_ii _ rfl _ rfl tyI tyI .i64 .i64 lawI Try.underlying3 Try.underlying3 b r ts.length D left cnt rfl hrg ?_ ?_)
      | go_in)
    · intro _ hl0
      have HE := Lib.hid (HX.out.done hl0)
      go_wp2
      go_ret2
      exact ⟨by rw [HE.out]; rfl, F, HW.out.keep (tch_none hgw Non) (fun k _ hk => hk), fun k hk => .inl hk, tch_none hgw F⟩
    · intro x y w2 cnt1 hwx hwc hlx hat hrg1 hlt hg1 hs1 hen
      have hgw1 := hgw.andThen hg1 (fun j hj => by cases hj; exact Or.inl (by rw [HRr.out]; exact Nat.le_refl _))
      have HIN := Lib.hid (look_in HKT.out HMR.out hat)
      clear hat hlx
      cases f with
      | false =>
        have HX1 := Lib.hid (HX.out.take HKT.out HIN.out (.inl rfl))
        go_wp2
        go_roundw
        case rel =>
            exact ⟨y, true, _, cnt1, rfl, rfl, hrg1, HX1, hgw1⟩
        case measure => rw [hrg1.left_eq, hrg.left_eq]; exact hlt
      | true =>
        by_cases hy : y < c
        · have HX1 := Lib.hid (HX.out.take HKT.out HIN.out (.inr hy))
          go_wp2
          go_roundw
          case rel =>
            exact ⟨y, true, _, cnt1, rfl, rfl, hrg1, HX1, hgw1⟩
          case measure => rw [hrg1.left_eq, hrg.left_eq]; exact hlt
        · have HX1 := Lib.hid (HX.out.stay HKT.out HIN.out hy)
          go_wp2
          go_roundw
          case rel =>
            exact ⟨c, true, _, cnt1, rfl, rfl, hrg1, HX1, hgw1⟩
          case measure => rw [hrg1.left_eq, hrg.left_eq]; exact hlt
theorem wnextN_t (w : World) : Calls Try.prog 22 #[.pointer none] w fun e w' => e = .returned (atR none) ∧ Below w.heap.size w w' := by
  have HH := Lib.hid (held_n w)
  have hrg := run_range_nilMap (P := Try.prog) w tyM tyI tyI Try.underlying59
  have hnx : ∀ ty, (Instr.next (.pointer (some ⟨w.heap.size, 0, none⟩)) false ty).run Try.prog (w.alloc (.mapIter none 0 #[] 0)) = _ := fun ty => run_next_nilMap w ty 0 0 #[]
  have HB := Lib.hid ((Below.refl w.heap.size w).alloc (Nat.le_refl _) (.mapIter none 0 #[] 0))
  go_enter Try.func22, Try.ntmps22
  go_wp2_with fail
  refine HH.out.mono ?_
  rintro e w1 ⟨rfl, rfl⟩
  go_wp2
  refine wp_loop_rounds 1 ?_
  rw [rounds_succ]
  go_wp2
  go_ret2
  exact ⟨rfl, HB.out⟩
end Go.Proofs.Ythoegmcdohppoaa
