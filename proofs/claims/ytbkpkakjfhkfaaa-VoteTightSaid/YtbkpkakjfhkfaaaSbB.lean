/- The program's store: size, differences. Conditions: as each states. -/
import Derived.Test.YtbkpkakjfhkfaaaSbA
namespace Go.Proofs.Ytbkpkakjfhkfaaa
open Go Go.RowKit Go.Maps
set_option linter.unusedVariables false
set_option linter.unusedSimpArgs false

theorem own_n {w : World} {B size n k c : Nat} {e : TypeId} {a : Option Addr} {xs : List Value} (h : w.ownsRow B e size (.slice a n c) k xs) : k = n := by
  rcases h.2 with ⟨e, h0⟩ | ⟨g, cap, cur, e, _⟩
  · cases e; exact h0
  · cases e; rfl
abbrev slV (t : Option Addr × Nat × Nat) : Value := .slice t.1 t.2.1 t.2.2
theorem invK : ∀ key kl, keyOf Try.prog tyK key = some kl → ∃ x : Ky, key = encStr x := fun key kl h => by
  obtain ⟨x, hx, _⟩ := Maps.keyOf_str Try.underlying9 h
  exact ⟨x, hx⟩
theorem invV : ∀ v y, rdV v = some y → ∃ t, v = slV t := fun v y h => by
  obtain ⟨d, ps⟩ := y
  obtain ⟨_, a, n, c, e⟩ := rd_val h
  exact ⟨(a, n, c), e⟩
theorem MR.in {F : Nat → Prop} {w : World} {B : Nat} {D : DV} {l : List Pr} (hm : MR w F B D l) {x : Ky} {kl : Lit} {v : Value} {y : DV × List MemPlace} (hkey : keyOf Try.prog tyK (encStr x) = some kl) (hv : rdV v = some y) (hat : ∀ zd, D.atKey kl zd = y.1) :
    kl = kI x ∧ ∃ r, findP x l = some r ∧ RowF w F B v r := by
  obtain ⟨x', e1, e2, _⟩ := Maps.keyOf_str Try.underlying9 hkey
  have e3 := encStr_inj e1
  subst e3
  subst e2
  refine ⟨rfl, ?_⟩
  have h1 := has_true_of_atKey hat
  rw [hm.has x, Option.isSome_iff_exists] at h1
  obtain ⟨r, hr⟩ := h1
  obtain ⟨_, u, hu, hrow⟩ := hm.some_ x r hr
  refine ⟨r, hr, ?_⟩
  have h2 := hat .nil
  rw [hu] at h2
  obtain ⟨d, ps⟩ := y
  rw [(rd_val hv).1] at h2
  simp only [DataW.held.injEq] at h2
  rw [← h2]
  exact hrow
theorem MR.start {F : Nat → Prop} {w : World} {B : Nat} {D : DV} {l : List Pr} (hm : MR w F B D l) (hs : SrtP l) : ∀ e ∈ l, Maps.has D (kI e.k) = true := fun e he => by
  rw [hm.has, findP_of_mem hs he]; rfl
theorem tch_none {w w' : World} (h : w.grownBy w' none) (F : Nat → Prop) : Tch F w w' := (tch_grown h).mono (fun k hk => by cases hk)
set_option maxRecDepth 100000 in
set_option maxHeartbeats 1000000 in
theorem size_c (B b : Nat) (F : Nat → Prop) (l : List Pr) (w : World) (h : MapS w F B b l) (hs : SrtP l) (hu : usedP l ≤ 1099511627776) :
    Calls Try.prog 87 #[.map (some b)] w fun e w' => e = .returned (.int .i64 (usedP l : Nat)) ∧ Tch Non w w' := by
  have HM := Lib.hid h
  have HS := Lib.hid hs
  have HR : Hid (∀ k r, findP k l = some r → k.length + r.length ≤ 1099511627776) := Lib.hid (fun k r hf => by
    have h1 := sz_used (findP_mem hf)
    simp only [szP] at h1
    omega)
  obtain ⟨_, D, hown, hmr⟩ := h
  have HMR := Lib.hid hmr
  have HX0 : Hid (sumV (Maps.has D) szP l = 0) := Lib.hid (sumV_start (hmr.start hs))
  clear hmr
  go_enter Try.func87, Try.ntmps87
  go_wp2_with (first
    | (at_range; refine wpList_range_own _ rfl _ tyM rfl tyK tyB lawK Try.underlying153 rdV b _ D rfl hown ?_; intro w0 hrg0 hg0 hs0)
    | go_in)
  go_frame
  obtain ⟨r, hr⟩ : ∃ r, r = w.heap.size := ⟨_, rfl⟩
  rw [← hr] at hrg0 ⊢
  have HRr := Lib.hid hr
  clear hr
  go_loopw [3, 4] (fun tv _ wr => ∃ (t : Nat) (left : Lit → Bool) (cnt : Nat), tv = .int .i64 t ∧ wr.ranges Try.prog tyK rdV b r l.length D left cnt ∧ Hid (t = sumV left szP l) ∧ w.grownBy wr none) (fun _ _ wr => wr.rangeLeft b r)
  case atStart => exact ⟨0, _, _, rfl, hrg0, Lib.hid HX0.out.symm, hg0⟩
  case round =>
    obtain ⟨t, left, cnt, rfl, hrg, HT, hgw⟩ := hrel
    clear hrg0 hg0 hs0
    go_wp2_with (first
      | (at_next; refine wpList_next_ranges _ rfl _ rfl tyK lawK rdV encStr slV invK invV b r l.length D left cnt rfl hrg ?_ ?_)
      | go_in)
    · intro _ hl0
      have HE : Hid (t = usedP l) := Lib.hid (by rw [HT.out, sumV_end _ _ hl0, sumA_sz])
      go_wp2
      go_ret
      exact ⟨by rw [HE.out]; rfl, tch_none hgw Non⟩
    · intro x ya yn yc kl yd yp w2 cnt1 hkey hlx hrv hat hrg1 hlt hg1 hs1 hen
      obtain ⟨e1, rr, hfr, hrow⟩ := HMR.out.in (y := (yd, yp)) hkey hrv hat
      subst e1
      have hgw1 := hgw.andThen hg1 (fun j hj => by cases hj; exact Or.inl (by rw [HRr.out]; exact Nat.le_refl _))
      have CS := Lib.hid (sizeAt_c B F (some b) l x w2 (MapS.tch HM.out (tch_none hgw1 Non) (fun h => h) (fun _ h => h.elim)) (by have := HR.out x rr hfr; unfold maxLen; omega) (HR.out x))
      have eS : sizeAt x l = szP ⟨x, rr⟩ := by unfold sizeAt; rw [hfr]; rfl
      have HT1 : Hid (t + sizeAt x l = sumV (fun z => left z && !z.sameKey (kI x)) szP l) := Lib.hid (by rw [sumV_step HS.out hfr hlx, eS, HT.out])
      have hbt : t + sizeAt x l ≤ 1099511627776 := by
        rw [HT1.out]
        have := sumV_le (fun z => left z && !z.sameKey (kI x)) szP l
        rw [sumA_sz] at this
        omega
      clear hat hlx hrv hkey hrow eS hfr
      generalize sizeAt x l = sz at CS HT1 hbt
      have e1 : ∀ [Inhabited Nat], wrap64 ((t : Int) + (sz : Int)) = (t : Int) + (sz : Int) := by intro _; unfold wrap64; omega
      go_wp2_with fail
      refine CS.out.mono ?_
      rintro e w3 ⟨rfl, rfl⟩
      go_wp2
      go_roundw
      case rel => exact ⟨t + sz, _, cnt1, by push_cast; rfl, hrg1, HT1, hgw1⟩
      case measure => rw [hrg1.left_eq, hrg.left_eq]; exact hlt
/-- Is the row unlike? -/
abbrev gA (m : List Pr) (e : Pr) : Nat := if findP e.k m ≠ some e.b then 1 else 0
abbrev gB (l : List Pr) (e : Pr) : Nat := if findP e.k l = none then 1 else 0
theorem sumA_gA (l m : List Pr) : sumA (gA m) l = unA l m := sumA_filter (fun e => findP e.k m ≠ some e.b) l
theorem sumA_gB (l m : List Pr) : sumA (gB l) m = unB l m := sumA_filter (fun e => findP e.k l = none) m
theorem un_le (l m : List Pr) : unA l m ≤ l.length ∧ unB l m ≤ m.length := ⟨List.length_filter_le _ _, List.length_filter_le _ _⟩
set_option maxRecDepth 100000 in
set_option maxHeartbeats 2000000 in
theorem diff_c (B b b2 : Nat) (F : Nat → Prop) (l m : List Pr) (w : World) (h : MapS w F B b l) (h2 : MapS w F B b2 m) (hs : SrtP l ∧ SrtP m) (hu : usedP l ≤ 67108864 ∧ usedP m ≤ 67108864) (hn : l.length ≤ 67108864 ∧ m.length ≤ 67108864) :
    Calls Try.prog 85 #[.map (some b), .map (some b2)] w fun e w' => e = .returned (.int .i64 (unlikeP l m : Nat)) ∧ Tch Non w w' := by
  have HM := Lib.hid h
  have HM2 := Lib.hid h2
  have HS := Lib.hid hs
  have HN := Lib.hid hn
  have hkb : ∀ {ll : List Pr}, usedP ll ≤ 67108864 → ∀ k r, findP k ll = some r → k.length ≤ 67108864 ∧ r.length ≤ 67108864 := fun hu k r hf => by
    have h1 := sz_used (findP_mem hf)
    simp only [szP] at h1
    omega
  have HR := Lib.hid (And.intro (hkb hu.1) (hkb hu.2))
  obtain ⟨_, D, hown, hmr⟩ := h
  obtain ⟨_, D2, hown2, hmr2⟩ := h2
  have HMR := Lib.hid (And.intro hmr hmr2)
  have HX0 : Hid (sumV (Maps.has D) (gA m) l = 0) := Lib.hid (sumV_start (hmr.start hs.1))
  have HY0 : Hid (sumV (Maps.has D2) (gB l) m = 0) := Lib.hid (sumV_start (hmr2.start hs.2))
  have HUB : Hid (unA l m ≤ 67108864 ∧ unB l m ≤ 67108864) := Lib.hid (by have := un_le l m; omega)
  have HO2 := Lib.hid hown2
  clear hmr hmr2 hkb hn hu hs hown2
  go_enter Try.func85, Try.ntmps85
  go_wp2_with (first
    | (at_range; refine wpList_range_own _ rfl _ tyM rfl tyK tyB lawK Try.underlying153 rdV b _ D rfl hown ?_; intro w0 hrg0 hg0 hs0)
    | go_in)
  go_frame
  obtain ⟨r, hr⟩ : ∃ r, r = w.heap.size := ⟨_, rfl⟩
  rw [← hr] at hrg0 ⊢
  have HRr := Lib.hid hr
  clear hr
  go_loopw [5, 6, 7, 8, 9] (fun tv _ _ _ _ wr => ∃ (t : Nat) (left : Lit → Bool) (cnt : Nat), tv = .int .i64 t ∧ wr.ranges Try.prog tyK rdV b r l.length D left cnt ∧ Hid (t = sumV left (gA m) l) ∧ w.grownBy wr none) (fun _ _ _ _ _ wr => wr.rangeLeft b r)
  case atStart => exact ⟨0, _, _, rfl, hrg0, Lib.hid HX0.out.symm, hg0⟩
  case round =>
    obtain ⟨t, left, cnt, rfl, hrg, HT, hgw⟩ := hrel
    clear hrg0 hg0 hs0
    go_wp2_with (first
      | (at_next; refine wpList_next_ranges _ rfl _ rfl tyK lawK rdV encStr slV invK invV b r l.length D left cnt rfl hrg ?_ ?_)
      | go_in)
    · intro _ hl0
      have HE : Hid (t = unA l m) := Lib.hid (by rw [HT.out, sumV_end _ _ hl0, sumA_gA])
      have HG1 := Lib.hid hgw
      obtain ⟨wq, hwq⟩ : ∃ q, q = wr := ⟨_, rfl⟩
      rw [← hwq] at HG1 ⊢
      have hownq := own_block_m HO2.out ((tch_none HG1.out Non).block b2 HM2.out.lt (fun h => h))
      clear hgw hrg hwq HT
      go_wp2_with (first
        | (at_range; refine wpList_range_own _ rfl _ tyM rfl tyK tyB lawK Try.underlying153 rdV b2 _ D2 rfl hownq ?_; intro v0 krg0 kg0 ks0)
        | go_in)
      go_frame
      obtain ⟨q, hq⟩ : ∃ q, q = wq.heap.size := ⟨_, rfl⟩
      rw [← hq] at krg0 ⊢
      have HQq := Lib.hid hq
      clear hq
      go_loopw [5, 10, 11, 12] (fun tv _ _ _ wr => ∃ (t2 : Nat) (left : Lit → Bool) (cnt : Nat), tv = .int .i64 t2 ∧ wr.ranges Try.prog tyK rdV b2 q m.length D2 left cnt ∧ Hid (t2 = unA l m + sumV left (gB l) m) ∧ wq.grownBy wr none) (fun _ _ _ _ wr => wr.rangeLeft b2 q)
      case atStart => exact ⟨t, _, _, rfl, krg0, Lib.hid (by rw [HY0.out, HE.out]; rfl), kg0⟩
      case round =>
        obtain ⟨t2, left, cnt, rfl, krg, KT, kgw⟩ := hrel
        clear krg0 kg0 ks0
        have hgall := HG1.out.andThen kgw (fun j hj => by cases hj)
        go_wp2_with (first
          | (at_next; refine wpList_next_ranges _ rfl _ rfl tyK lawK rdV encStr slV invK invV b2 q m.length D2 left cnt rfl krg ?_ ?_)
          | go_in)
        · intro _ hl0
          have HE2 : Hid (t2 = unlikeP l m) := Lib.hid (by rw [KT.out, sumV_end _ _ hl0, sumA_gB]; rfl)
          go_wp2
          go_ret
          exact ⟨by rw [HE2.out]; rfl, tch_none hgall Non⟩
        · intro x ya yn yc kl yd yp w2 cnt1 hkey hlx hrv hat hrg1 hlt hg1 hs1 hen
          obtain ⟨e1, rr, hfr, hrow⟩ := HMR.out.2.in (y := (yd, yp)) hkey hrv hat
          subst e1
          have kgw1 := kgw.andThen hg1 (fun j hj => by cases hj; exact Or.inl (by rw [HQq.out]; exact Nat.le_refl _))
          have hga2 := HG1.out.andThen kgw1 (fun j hj => by cases hj)
          have hM2 : MapO w2 F B (some b) l := MapS.tch HM.out (tch_none hga2 Non) (fun h => h) (fun _ h => h.elim)
          obtain ⟨v, hlk, _⟩ := hM2.look (k := x) (by have := (HR.out.2 x rr hfr).1; unfold maxLen; omega)
          have hlw := hlk w2 (fun _ _ => rfl)
          have hst := sumV_step (g := gB l) HS.out.2 hfr hlx
          have hle : sumV (fun z => left z && !z.sameKey (kI x)) (gB l) m ≤ unB l m := by have := sumV_le (fun z => left z && !z.sameKey (kI x)) (gB l) m; rwa [sumA_gB] at this
          have hub := HUB.out
          have hkt := KT.out
          have HLT := Lib.hid hlt
          cases hf : findP x l with
          | none =>
            have e1 : gB l ⟨x, rr⟩ = 1 := if_pos hf
            rw [hf] at hlw
            have HT1 : Hid (t2 + 1 = unA l m + sumV (fun z => left z && !z.sameKey (kI x)) (gB l) m) := Lib.hid (by rw [hst, e1, hkt]; omega)
            have hbt : t2 + 1 ≤ 134217728 := by rw [HT1.out]; omega
            clear hat hlx hrv hkey hrow hfr hf hst hle hub hkt e1 hlk hM2 hlt
            go_wp2
            go_roundw
            case rel => exact ⟨t2 + 1, _, cnt1, by go_num, hrg1, HT1, kgw1⟩
            case measure => rw [hrg1.left_eq, krg.left_eq]; exact HLT.out
          | some r0 =>
            have e1 : gB l ⟨x, rr⟩ = 0 := if_neg (by show ¬ findP x l = none; rw [hf]; simp)
            rw [hf] at hlw
            have HT1 : Hid (t2 = unA l m + sumV (fun z => left z && !z.sameKey (kI x)) (gB l) m) := Lib.hid (by rw [hst, e1, hkt]; omega)
            clear hat hlx hrv hkey hrow hfr hf hst hle hub hkt e1 hlk hM2 hlt
            go_wp2
            go_roundw
            case rel => exact ⟨t2, _, cnt1, rfl, hrg1, HT1, kgw1⟩
            case measure => rw [hrg1.left_eq, krg.left_eq]; exact HLT.out
    · intro x ya yn yc kl yd yp w2 cnt1 hkey hlx hrv hat hrg1 hlt hg1 hs1 hen
      obtain ⟨e1, rr, hfr, hrow⟩ := HMR.out.1.in (y := (yd, yp)) hkey hrv hat
      subst e1
      have hgw1 := hgw.andThen hg1 (fun j hj => by cases hj; exact Or.inl (by rw [HRr.out]; exact Nat.le_refl _))
      have hM2 : MapO w2 F B (some b2) m := MapS.tch HM2.out (tch_none hgw1 Non) (fun h => h) (fun _ h => h.elim)
      have hrw : RowF w2 F B (.slice ya yn yc) rr := hrow.tch (tch_none hgw1 Non) (fun _ h => h.elim)
      obtain ⟨v, hlk, hvr⟩ := hM2.look (k := x) (by have := (HR.out.1 x rr hfr).1; unfold maxLen; omega)
      have hlw := hlk w2 (fun _ _ => rfl)
      have hst := sumV_step (g := gA m) HS.out.1 hfr hlx
      have hle : sumV (fun z => left z && !z.sameKey (kI x)) (gA m) l ≤ unA l m := by have := sumV_le (fun z => left z && !z.sameKey (kI x)) (gA m) l; rwa [sumA_gA] at this
      have hub := HUB.out
      have hkt := HT.out
      have HLT := Lib.hid hlt
      have hyn : rr.length = yn := own_n hrw.1
      cases hf : findP x m with
      | none =>
        have e1 : gA m ⟨x, rr⟩ = 1 := if_pos (by show findP x m ≠ some rr; rw [hf]; simp)
        rw [hf] at hlw
        have HT1 : Hid (t + 1 = sumV (fun z => left z && !z.sameKey (kI x)) (gA m) l) := Lib.hid (by rw [hst, e1, hkt])
        have hbt : t + 1 ≤ 134217728 := by rw [HT1.out]; omega
        clear hat hlx hrv hkey hrow hfr hf hst hle hub hkt e1 hlk hM2 hlt hvr hrw hyn
        go_wp2
        go_roundw
        case rel => exact ⟨t + 1, _, cnt1, by go_num, hrg1, HT1, hgw1⟩
        case measure => rw [hrg1.left_eq, hrg.left_eq]; exact HLT.out
      | some r0 =>
        unfold LookV at hvr
        rw [hf] at hlw hvr
        obtain ⟨va, vc, rfl⟩ := own_form hvr.1
        have CE := Lib.hid (equal_c rr r0 ya va yn r0.length yc vc w2 (At.own hrw.1) (At.own hvr.1) hyn rfl hrw.2.1 hvr.2.1)
        by_cases he : rr = r0
        · have e1 : gA m ⟨x, rr⟩ = 0 := if_neg (by show ¬ findP x m ≠ some rr; rw [hf, he]; simp)
          have HT1 : Hid (t = sumV (fun z => left z && !z.sameKey (kI x)) (gA m) l) := Lib.hid (by rw [hst, e1, hkt]; rfl)
          rw [decide_eq_true he] at CE
          clear hat hlx hrv hkey hrow hfr hf hst hle hub hkt e1 hlk hM2 hlt hvr hrw hyn he
          go_wp2_with fail
          refine CE.out.mono ?_
          rintro e w3 ⟨rfl, rfl⟩
          go_wp2
          go_roundw
          case rel => exact ⟨t, _, cnt1, rfl, hrg1, HT1, hgw1⟩
          case measure => rw [hrg1.left_eq, hrg.left_eq]; exact HLT.out
        · have e1 : gA m ⟨x, rr⟩ = 1 := if_pos (by show findP x m ≠ some rr; rw [hf]; intro e; exact he (Option.some.inj e).symm)
          have HT1 : Hid (t + 1 = sumV (fun z => left z && !z.sameKey (kI x)) (gA m) l) := Lib.hid (by rw [hst, e1, hkt])
          have hbt : t + 1 ≤ 134217728 := by rw [HT1.out]; omega
          rw [decide_eq_false he] at CE
          clear hat hlx hrv hkey hrow hfr hf hst hle hub hkt e1 hlk hM2 hlt hvr hrw hyn he
          go_wp2_with fail
          refine CE.out.mono ?_
          rintro e w3 ⟨rfl, rfl⟩
          go_wp2
          go_roundw
          case rel => exact ⟨t + 1, _, cnt1, by go_num, hrg1, HT1, hgw1⟩
          case measure => rw [hrg1.left_eq, hrg.left_eq]; exact HLT.out
end Go.Proofs.Ytbkpkakjfhkfaaa
