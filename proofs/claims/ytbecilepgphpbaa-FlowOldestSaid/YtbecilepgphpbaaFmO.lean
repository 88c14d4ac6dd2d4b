/- The program's table: the oldest untrusted entry. Conditions: as each states. -/
import Derived.Test.YtbecilepgphpbaaFmL
import Derived.Test.YtbecilepgphpbaaFmT
namespace Go.Proofs.Ytbecilepgphpbaa
open Go Go.RowKit Go.Maps
set_option linter.unusedVariables false
set_option linter.unusedSimpArgs false

/-- No later than. -/
def LeO (a b : En) : Prop := a.la < b.la ∨ (a.la = b.la ∧ (a.f = b.f ∨ ltF a.f b.f))
theorem LeO.refl (a : En) : LeO a a := .inr ⟨rfl, .inl rfl⟩
theorem LeO.trans {a b c : En} (h : LeO a b) (h2 : LeO b c) : LeO a c := by
  rcases h with h | ⟨h, h'⟩
  · rcases h2 with g | ⟨g, _⟩
    · exact .inl (by omega)
    · exact .inl (by omega)
  · rcases h2 with g | ⟨g, g'⟩
    · exact .inl (by omega)
    · refine .inr ⟨by omega, ?_⟩
      rcases h' with h' | h'
      · rw [h']; exact g'
      · rcases g' with g' | g'
        · exact .inr (g' ▸ h')
        · exact .inr (ltF_trans h' g')
theorem old_min : ∀ {l : List En} {s r : En}, SrtE l → (∀ e ∈ l, ltF s.f e.f) → l.foldl oldS (some s) = some r → LeO r s ∧ ∀ e ∈ l, e.tr = false → LeO r e
  | [], s, r, _, _, h => by
    injection h with h
    subst h
    exact ⟨LeO.refl _, by simp⟩
  | a :: l, s, r, hs, hlt, h => by
    have h1 := List.pairwise_cons.1 hs
    rw [List.foldl_cons] at h
    cases ha : a.tr with
    | true =>
      rw [show oldS (some s) a = some s by unfold oldS; rw [if_pos ha]] at h
      obtain ⟨g1, g2⟩ := old_min (l := l) h1.2 (fun e he => hlt e (List.mem_cons_of_mem _ he)) h
      refine ⟨g1, fun e he ht => ?_⟩
      rcases List.mem_cons.1 he with rfl | he
      · rw [ha] at ht; cases ht
      · exact g2 e he ht
    | false =>
      by_cases hl : a.la < s.la
      · rw [show oldS (some s) a = some a by unfold oldS; rw [if_neg (by rw [ha]; simp)]; exact if_pos hl] at h
        obtain ⟨g1, g2⟩ := old_min (l := l) h1.2 h1.1 h
        refine ⟨g1.trans (.inl hl), fun e he ht => ?_⟩
        rcases List.mem_cons.1 he with rfl | he
        · exact g1
        · exact g2 e he ht
      · rw [show oldS (some s) a = some s by unfold oldS; rw [if_neg (by rw [ha]; simp)]; exact if_neg hl] at h
        obtain ⟨g1, g2⟩ := old_min (l := l) h1.2 (fun e he => hlt e (List.mem_cons_of_mem _ he)) h
        refine ⟨g1, fun e he ht => ?_⟩
        rcases List.mem_cons.1 he with rfl | he
        · refine g1.trans ?_
          rcases Int.lt_or_eq_of_le (Int.not_lt.1 hl) with q | q
          · exact .inl q
          · exact .inr ⟨q, .inr (hlt _ List.mem_cons_self)⟩
        · exact g2 e he ht
theorem old_lst : ∀ {l : List En} {r : En}, SrtE l → oldE l = some r → ∀ e ∈ l, e.tr = false → LeO r e
  | [], r, _, h => by simp
  | a :: l, r, hs, h => by
    have h1 := List.pairwise_cons.1 hs
    unfold oldE at h
    rw [List.foldl_cons] at h
    cases ha : a.tr with
    | true =>
      rw [show oldS none a = none by unfold oldS; rw [if_pos ha]] at h
      intro e he ht
      rcases List.mem_cons.1 he with rfl | he
      · rw [ha] at ht; cases ht
      · exact old_lst (l := l) h1.2 h e he ht
    | false =>
      rw [show oldS none a = some a by unfold oldS; rw [if_neg (by rw [ha]; simp)]] at h
      obtain ⟨g1, g2⟩ := old_min (l := l) h1.2 h1.1 h
      intro e he ht
      rcases List.mem_cons.1 he with rfl | he
      · exact g1
      · exact g2 e he ht
theorem old_eq {l : List En} {o : En} (hs : SrtE l) (ho : o ∈ l) (ht : o.tr = false) (hm : ∀ e ∈ l, e.tr = false → LeO o e) : oldE l = some o := by
  cases h : oldE l with
  | none =>
    have := (old_none h).2 o ho
    rw [ht] at this
    cases this
  | some r =>
    obtain ⟨h1, h2⟩ := old_is h
    have a := hm r h1 h2
    have b := old_lst hs h o ho ht
    have : r.f = o.f := by
      rcases a with a | ⟨a, a'⟩
      · rcases b with b | ⟨b, _⟩ <;> omega
      · rcases b with b | ⟨_, b'⟩
        · omega
        · rcases a' with a' | a'
          · exact a'.symm
          · rcases b' with b' | b'
            · exact b'
            · exact absurd a' (ltF_asym b')
    rw [srt_one hs h1 ho this]
/-- What has come. -/
def Come (left : Lit → Bool) (e : En) : Prop := ∀ kl, KeyAt e.f kl → left kl = false
def Ol (l : List En) (left : Lit → Bool) (fb : Bool) (o : En) : Prop := (fb = false → o = en0 ∧ ∀ e ∈ l, Come left e → e.tr = true) ∧ (fb = true → o ∈ l ∧ o.tr = false ∧ ∀ e ∈ l, Come left e → e.tr = false → LeO o e)
theorem Ol.start {D : DE} {l : List En} (hm : MR D l) (hs : SrtE l) (hf : ∀ e ∈ l, FitE e) : Ol l (Maps.has D) false en0 := by
  refine ⟨fun _ => ⟨rfl, fun e he hc => ?_⟩, fun h => by cases h⟩
  obtain ⟨kl, hk⟩ := keyF (hf e he).f
  have h1 := hc kl hk
  rw [hm.has e.f kl hk, findE_mem hs he rfl] at h1
  cases h1
theorem come_step {l : List En} {left : Lit → Bool} {x e : En} {kl : Lit} (hs : SrtE l) (hx : x ∈ l) (hk : KeyAt x.f kl) (he : e ∈ l) (h : Come (fun z => left z && !z.sameKey kl) e) : Come left e ∨ e = x := by
  by_cases hf : e.f = x.f
  · exact .inr (srt_one hs he hx hf)
  · refine .inl (fun kg hg => ?_)
    have h1 := h kg hg
    simp only at h1
    rw [sameKey_ne (hk.ne hg hf)] at h1
    simpa using h1
theorem Ol.skip {l : List En} {left : Lit → Bool} {fb : Bool} {o x : En} {kl : Lit} (h : Ol l left fb o) (hs : SrtE l) (hx : x ∈ l) (hk : KeyAt x.f kl) (hb : x.tr = true ∨ (fb = true ∧ LeO o x)) : Ol l (fun z => left z && !z.sameKey kl) fb o := by
  refine ⟨fun e => ?_, fun e => ?_⟩
  · refine ⟨(h.1 e).1, fun a ha hc => ?_⟩
    rcases come_step hs hx hk ha hc with c | rfl
    · exact (h.1 e).2 a ha c
    · rcases hb with hb | ⟨hb, _⟩
      · exact hb
      · rw [e] at hb; cases hb
  · refine ⟨(h.2 e).1, (h.2 e).2.1, fun a ha hc ht => ?_⟩
    rcases come_step hs hx hk ha hc with c | rfl
    · exact (h.2 e).2.2 a ha c ht
    · rcases hb with hb | ⟨_, hb⟩
      · rw [hb] at ht; cases ht
      · exact hb
theorem Ol.take {l : List En} {left : Lit → Bool} {fb : Bool} {o x : En} {kl : Lit} (h : Ol l left fb o) (hs : SrtE l) (hx : x ∈ l) (hk : KeyAt x.f kl) (ht : x.tr = false) (hb : fb = true → LeO x o) : Ol l (fun z => left z && !z.sameKey kl) true x := by
  refine ⟨fun e => absurd e (by simp), fun _ => ⟨hx, ht, fun a ha hc hta => ?_⟩⟩
  rcases come_step hs hx hk ha hc with c | rfl
  · cases fb with
    | true => exact (hb rfl).trans ((h.2 rfl).2.2 a ha c hta)
    | false =>
      have := (h.1 rfl).2 a ha c
      rw [hta] at this
      cases this
  · exact LeO.refl _
theorem Ol.done {l : List En} {left : Lit → Bool} {fb : Bool} {o : En} (h : Ol l left fb o) (hs : SrtE l) (hl : ∀ k, left k = false) : (oldE l).getD en0 = o := by
  cases fb with
  | true =>
    obtain ⟨h1, h2, h3⟩ := h.2 rfl
    rw [old_eq hs h1 h2 (fun e he ht => h3 e he (fun k _ => hl k) ht)]
    rfl
  | false =>
    obtain ⟨h1, h2⟩ := h.1 rfl
    cases ho : oldE l with
    | none => exact h1.symm
    | some r =>
      obtain ⟨a, b⟩ := old_is ho
      have := h2 r a (fun k _ => hl k)
      rw [b] at this
      cases this
theorem mr_in {D : DE} {l : List En} (hm : MR D l) {f : Fl} {e : En} {kl : Lit} {y : DE × List MemPlace} (hk : keyOf Try.prog tyF f.val = some kl) (hv : rdE e.val = some y) (hat : ∀ zd, D.atKey kl zd = y.1) : findE f l = some e := by
  have hy : y = (.held e, []) := by rw [rdE_val] at hv; exact (Option.some.inj hv).symm
  subst hy
  have h1 := hat .nil
  rw [hm.look f kl _ hk] at h1
  cases h2 : findE f l with
  | none =>
    rw [h2] at h1
    have h3 : (DataW.nil : DE) = DataW.held e := h1
    cases h3
  | some a =>
    rw [h2] at h1
    have h3 : DataW.held a = (DataW.held e : DE) := h1
    exact congrArg some (DataW.held.inj h3)
theorem rng_tch {T : Nat → Prop} {w w' : World} {b r n : Nat} {D : DE} {left : Lit → Bool} {cnt : Nat} (h : w.ranges Try.prog tyF rdE b r n D left cnt) (ht : Tch T w w') (hb : ¬ T b) (hr : ¬ T r) : w'.ranges Try.prog tyF rdE b r n D left cnt := by
  obtain ⟨es, clock, since, seen, c0, h1, h2, h3, h4, h5, h6⟩ := h
  exact ⟨es, clock, since, seen, c0, ht.at h1 hb, h2, h3, h4, ht.at h5 hr, h6⟩
theorem rng_lt {w : World} {b r n : Nat} {D : DE} {left : Lit → Bool} {cnt : Nat} (h : w.ranges Try.prog tyF rdE b r n D left cnt) : r < w.heap.size := by
  obtain ⟨es, clock, since, seen, c0, h1, h2, h3, h4, h5, h6⟩ := h
  exact lt_of_block h5
theorem invKF : ∀ key kl, keyOf Try.prog tyF key = some kl → ∃ x : Fl, key = x.val := fun key kl hk => by obtain ⟨x, hx, _⟩ := keyF_inv hk; exact ⟨x, hx⟩
theorem invVE : ∀ (v : Value) (y : DE × List MemPlace), rdE v = some y → ∃ c : En, v = c.val := fun v y hv => by obtain ⟨e, he, _⟩ := rdE_inv hv; exact ⟨e, he⟩
theorem old_boxes (w : World) : ∃ W, (w.alloc (.cells zeroE tyE)).alloc (.cells zeroE tyE) = W ∧ BxE W w.heap.size en0 ∧ BxE W (w.heap.size + 1) en0 ∧ Below w.heap.size w W ∧ W.heap.size = w.heap.size + 2 := by
  have hs1 : (w.alloc (.cells zeroE tyE)).heap.size = w.heap.size + 1 := by simp
  refine ⟨_, rfl, (zero_new w).keep (tch_new (bl_al (Below.refl _ _) _)) (fun h => h), ?_, bl_al (bl_al (Below.refl _ _) _) _, by simp⟩
  rw [← hs1]
  exact zero_new _
set_option maxRecDepth 100000 in
set_option maxHeartbeats 4000000 in
theorem oldest_c (B p : Nat) (F : Nat → Prop) (qt qu : Int) (l : List En) (w : World) (h : TSt w B F p qt qu l) (hn : l.length ≤ 1048576) :
    Calls Try.prog 48 #[.pointer (some ⟨p, 0, none⟩)] w fun e w' => e = .returned ((oldE l).getD en0).val ∧ Below w.heap.size w w' := by
  obtain ⟨b, hF, hne, hc, hm⟩ := h.map
  obtain ⟨W, hW, hz, ho, hb1, hsz⟩ := old_boxes w
  have hcW := hc.tch (tch_new hb1) (fun h => h)
  have hmW := hm.tch (tch_new hb1) (fun h => h)
  have c2 := hcW.cs.2.2.1
  have hbl := hm.lt
  obtain ⟨D, hown, hmr⟩ := hmW
  have HMR := Lib.hid hmr
  have HSR := Lib.hid h.srt
  have HFT := Lib.hid h.fit
  have HO0 := Lib.hid (Ol.start hmr h.srt h.fit)
  obtain ⟨q, hq⟩ : ∃ q, q = w.heap.size := ⟨_, rfl⟩
  rw [← hq] at hz ho hsz hbl
  have HW := Lib.hid hW
  have HQ := Lib.hid hq
  have HB := Lib.hid hb1
  have HZ := Lib.hid hz
  have HOX := Lib.hid ho
  have HSZ := Lib.hid hsz
  clear hcW hc hm hW hb1 hq hmr hz ho hne h hsz
  go_enter Try.func48, Try.ntmps48
  go_wp2
  go_step3
  go_wp2
  rw [HW.out, ← HQ.out]
  go_step3
  go_wp2_with (first
    | (at_range; refine wpList_range_own _ rfl _ tyM rfl tyF tyE lawF Try.underlying72 rdE b _ D rfl hown ?_; intro w0 hrg0 hg0 hs0)
    | go_in)
  go_frame
  rw [HSZ.out] at hrg0 ⊢
  have HG0 := Lib.hid (show Tch Non W w0 from (tch_grown hg0).mono (fun k hk => by cases hk))
  have HZ0 := Lib.hid (HZ.out.keep HG0.out (fun h => h))
  have HX0 := Lib.hid (HOX.out.keep HG0.out (fun h => h))
  have HT0 := Lib.hid (show Below w.heap.size w w0 from HB.out.trans (HG0.out.below (fun _ h => h.elim) HB.out.size))
  clear hs0 hg0 hown c2
  go_loopw [4] (fun fv wr => ∃ (fb : Bool) (o : En) (left : Lit → Bool) (cnt : Nat), fv = .bool fb ∧ wr.ranges Try.prog tyF rdE b (q + 2) l.length D left cnt ∧ Ol l left fb o ∧ BxE wr (q + 1) o ∧ BxE wr q en0 ∧ Below w.heap.size w wr) (fun _ wr => wr.rangeLeft b (q + 2))
  case atStart => exact ⟨false, en0, _, _, rfl, hrg0, HO0.out, HX0.out, HZ0.out, HT0.out⟩
  case round =>
    obtain ⟨fb, o, left, cnt, rfl, hrg, hol, hox, hzx, htx⟩ := hrel
    obtain ⟨w4, rfl⟩ : ∃ v, v = wr := ⟨_, rfl⟩
    have HRG := Lib.hid hrg
    have HOL := Lib.hid hol
    have HOXa := Lib.hid hox
    have HZXa := Lib.hid hzx
    have HTXa := Lib.hid htx
    clear hrg0 HG0 HZ0 HX0 HT0 hol hox hzx htx HO0
    go_wp2_with (first
      | (at_next; refine wpList_next_ranges _ rfl _ rfl tyF lawF rdE Fl.val En.val invKF invVE b (q + 2) l.length D left cnt rfl hrg ?_ ?_)
      | go_in)
    · intro _ hl0
      have HD := Lib.hid (HOL.out.done HSR.out hl0)
      obtain ⟨b0, b1, b2, b3, b4, b5, b6, b7, b8, b9⟩ := HZXa.out.cs
      obtain ⟨o0, o1, o2, o3, o4, o5, o6, o7, o8, o9⟩ := HOXa.out.cs
      have bf := HZXa.out.free
      obtain ⟨W3, hW3⟩ : ∃ v, v = stE w4 q o := ⟨_, rfl⟩
      have hx3 : BxE W3 q o := by rw [hW3]; exact HZXa.out.set o
      have HB3 : Hid (Below w.heap.size w W3) := Lib.hid (by rw [hW3]; exact bl_st HTXa.out (by rw [HQ.out]; exact Nat.le_refl _) o)
      dsimp only [stE] at hW3
      have HW3 := Lib.hid hW3
      clear hW3 hrg
      go_wp2
      rw [← HW3.out]
      rw [Exit.noGoto_ret]
      obtain ⟨a0, a1, a2, a3, a4, a5, a6, a7, a8, a9⟩ := hx3.cs
      refine bodyPost_ret (v := o.val) (by simp [results, Try.results48, go_sem, a0, a1, a2, a3, a4, a5, a6, a7, a8, a9]) rfl ?_
      exact ⟨by rw [HD.out], HB3.out⟩
    · intro xf xe kl yd yp w5 cnt1 hkey hlk hv hat hrg1 hlt hg1 hs1 hen
      have HFE := Lib.hid (mr_in (y := (yd, yp)) HMR.out hkey hv hat)
      have hxf : xe.f = xf := (findE_some HFE.out).2
      subst hxf
      have HIN := Lib.hid (findE_some HFE.out).1
      have HKY := Lib.hid (show KeyAt xe.f kl from hkey)
      have HLT := Lib.hid hlt
      have ht5 : Tch (· = q + 2) w4 w5 := (tch_grown hg1).mono (fun k hk => by simpa using hk)
      have hrr := rng_lt HRG.out
      obtain ⟨s, hs⟩ : ∃ s, s = w5.heap.size := ⟨_, rfl⟩
      have hss : q + 2 < s := by rw [hs, hs1]; exact hrr
      have HSS := Lib.hid hs
      have HB5 := Lib.hid (show Below w.heap.size w w5 from HTXa.out.trans (ht5.below (fun k e => by rw [e, ← HQ.out]; omega) HTXa.out.size))
      have HO5 := Lib.hid (HOXa.out.keep ht5 (fun e => by omega))
      have HZ5 := Lib.hid (HZXa.out.keep ht5 (fun e => by omega))
      obtain ⟨w6, hw6⟩ : ∃ v, v = (w5.alloc xe.f.obj).alloc xe.obj := ⟨_, rfl⟩
      have hsa : (w5.alloc xe.f.obj).heap.size = s + 1 := by rw [hs]; simp
      have ht6 : Tch Non w5 w6 := by rw [hw6]; exact tch_new (bl_al (bl_al (Below.refl _ _) _) _)
      have HFL := Lib.hid (show FlAt w6 s xe.f by rw [hw6, hs]; exact flAt_below (flAt_new w5 xe.f) (bl_al (Below.refl _ _) _) (by simp))
      have HEB := Lib.hid (show BxE w6 (s + 1) xe by rw [hw6, ← hsa]; exact BxE.new _ xe)
      have HB6 := Lib.hid (show Below w.heap.size w w6 from HB5.out.trans (ht6.below (fun _ h => h.elim) HB5.out.size))
      have HO6 := Lib.hid (HO5.out.keep ht6 (fun h => h))
      have HZ6 := Lib.hid (HZ5.out.keep ht6 (fun h => h))
      have HR6 := Lib.hid (rng_tch hrg1 ht6 (fun h => h) (fun h => h))
      have HW6 := Lib.hid hw6
      clear hrg1 hlt hg1 hs1 hlk hv hat ht5 ht6 hw6 hsa hs hrg hkey
      go_upto_region 6 with fail
      rw [← HSS.out, ← HW6.out]
      clear hen
      obtain ⟨f0, f1, f2, f3, f4⟩ := HFL.out
      obtain ⟨e0, e1, e2, e3, e4, e5, e6, e7, e8, e9⟩ := HEB.out.cs
      obtain ⟨o0, o1, o2, o3, o4, o5, o6, o7, o8, o9⟩ := HO6.out.cs
      have of9 := HO6.out.free
      cases htr : xe.tr with
      | true =>
        have HTR := Lib.hid htr
        rw [htr] at e7
        clear htr
        go_wp2
        go_roundw
        case rel => exact ⟨fb, o, _, cnt1, rfl, HR6.out, HOL.out.skip HSR.out HIN.out HKY.out (.inl HTR.out), HO6.out, HZ6.out, HB6.out⟩
        case measure => rw [HR6.out.left_eq, HRG.out.left_eq]; exact HLT.out
      | false =>
        have HTR := Lib.hid htr
        rw [htr] at e7
        clear htr
        cases fb with
        | false =>
          obtain ⟨W3, hW3⟩ : ∃ v, v = stE w6 (q + 1) xe := ⟨_, rfl⟩
          have hx3 : BxE W3 (q + 1) xe := by rw [hW3]; exact HO6.out.set xe
          have ht3 : Tch (· = q + 1) w6 W3 := by rw [hW3]; exact stE_tch _ _ _
          have HX3 := Lib.hid hx3
          have HR3 := Lib.hid (rng_tch HR6.out ht3 (fun e => by omega) (fun e => by omega))
          have HZ3 := Lib.hid (HZ6.out.keep ht3 (fun e => by omega))
          have HB3 := Lib.hid (show Below w.heap.size w W3 from HB6.out.trans (ht3.below (fun k e => by rw [e, ← HQ.out]; omega) HB6.out.size))
          dsimp only [stE] at hW3
          rw [HTR.out] at hW3
          have HW3 := Lib.hid hW3
          clear hW3 hx3 ht3
          go_wp2
          rw [← HW3.out]
          go_roundw
          case rel => exact ⟨true, xe, _, cnt1, rfl, HR3.out, HOL.out.take HSR.out HIN.out HKY.out HTR.out (fun h => by cases h), HX3.out, HZ3.out, HB3.out⟩
          case measure => rw [HR3.out.left_eq, HRG.out.left_eq]; exact HLT.out
        | true =>
          by_cases h1 : o.la < xe.la
          · have hz : (o.la < xe.la) = True := by simp [h1]
            go_wp2
            go_roundw
            case rel => exact ⟨true, o, _, cnt1, rfl, HR6.out, HOL.out.skip HSR.out HIN.out HKY.out (.inr ⟨rfl, .inl h1⟩), HO6.out, HZ6.out, HB6.out⟩
            case measure => rw [HR6.out.left_eq, HRG.out.left_eq]; exact HLT.out
          · by_cases h2 : xe.la = o.la
            · have q2 : (xe.la == o.la) = true := by simp [h2]
              have HLS := less_g o.f xe.f w6
              by_cases h3 : ltF o.f xe.f
              · rw [decide_eq_true h3] at HLS
                have H23 := Lib.hid (And.intro h2 h3)
                clear h2 h3
                go_wp2_with fail
                refine HLS.mono ?_
                rintro e w7 ⟨rfl, hg7⟩
                have HR7 := Lib.hid (rng_tch HR6.out (tch_grw Non hg7) (fun h => h) (fun h => h))
                have HO7 := Lib.hid (HO6.out.keep (tch_grw Non hg7) (fun h => h))
                have HZ7 := Lib.hid (HZ6.out.keep (tch_grw Non hg7) (fun h => h))
                have HB7 := Lib.hid (show Below w.heap.size w w7 from HB6.out.trans ((tch_grw Non hg7).below (fun _ h => h.elim) HB6.out.size))
                clear hg7 HLS
                go_wp2
                go_roundw
                case rel => exact ⟨true, o, _, cnt1, rfl, HR7.out, HOL.out.skip HSR.out HIN.out HKY.out (.inr ⟨rfl, .inr ⟨H23.out.1.symm, .inr H23.out.2⟩⟩), HO7.out, HZ7.out, HB7.out⟩
                case measure => rw [HR7.out.left_eq, HRG.out.left_eq]; exact HLT.out
              · rw [decide_eq_false h3] at HLS
                have H23 := Lib.hid (And.intro h2 h3)
                clear h2 h3
                go_wp2_with fail
                refine HLS.mono ?_
                rintro e w7 ⟨rfl, hg7⟩
                have HR7 := Lib.hid (rng_tch HR6.out (tch_grw Non hg7) (fun h => h) (fun h => h))
                have HO7 := Lib.hid (HO6.out.keep (tch_grw Non hg7) (fun h => h))
                have HZ7 := Lib.hid (HZ6.out.keep (tch_grw Non hg7) (fun h => h))
                have HEB7 := Lib.hid (HEB.out.keep (tch_grw Non hg7) (fun h => h))
                have HB7 := Lib.hid (show Below w.heap.size w w7 from HB6.out.trans ((tch_grw Non hg7).below (fun _ h => h.elim) HB6.out.size))
                clear hg7 HLS o0 o1 o2 o3 o4 o5 o6 o7 o8 o9 of9 e0 e1 e2 e3 e4 e5 e6 e7 e8 e9 f0 f1 f2 f3 f4
                obtain ⟨e0, e1, e2, e3, e4, e5, e6, e7, e8, e9⟩ := HEB7.out.cs
                obtain ⟨o0, o1, o2, o3, o4, o5, o6, o7, o8, o9⟩ := HO7.out.cs
                have of9 := HO7.out.free
                obtain ⟨W3, hW3⟩ : ∃ v, v = stE w7 (q + 1) xe := ⟨_, rfl⟩
                have hx3 : BxE W3 (q + 1) xe := by rw [hW3]; exact HO7.out.set xe
                have ht3 : Tch (· = q + 1) w7 W3 := by rw [hW3]; exact stE_tch _ _ _
                have HX3 := Lib.hid hx3
                have HR3 := Lib.hid (rng_tch HR7.out ht3 (fun e => by omega) (fun e => by omega))
                have HZ3 := Lib.hid (HZ7.out.keep ht3 (fun e => by omega))
                have HB3 := Lib.hid (show Below w.heap.size w W3 from HB7.out.trans (ht3.below (fun k e => by rw [e, ← HQ.out]; omega) HB7.out.size))
                dsimp only [stE] at hW3
                have HW3 := Lib.hid hW3
                clear hW3 hx3 ht3
                go_wp2
                rw [← HW3.out]
                go_roundw
                case rel => exact ⟨true, xe, _, cnt1, rfl, HR3.out, HOL.out.take HSR.out HIN.out HKY.out HTR.out (fun _ => by rcases ltF_total H23.out.2 with e | e; exact .inr ⟨H23.out.1, .inl e.symm⟩; exact .inr ⟨H23.out.1, .inr e⟩), HX3.out, HZ3.out, HB3.out⟩
                case measure => rw [HR3.out.left_eq, HRG.out.left_eq]; exact HLT.out
            · have q2 : (xe.la == o.la) = false := by simp [h2]
              have H12 := Lib.hid (show xe.la < o.la by omega)
              clear h2
              obtain ⟨W3, hW3⟩ : ∃ v, v = stE w6 (q + 1) xe := ⟨_, rfl⟩
              have hx3 : BxE W3 (q + 1) xe := by rw [hW3]; exact HO6.out.set xe
              have ht3 : Tch (· = q + 1) w6 W3 := by rw [hW3]; exact stE_tch _ _ _
              have HX3 := Lib.hid hx3
              have HR3 := Lib.hid (rng_tch HR6.out ht3 (fun e => by omega) (fun e => by omega))
              have HZ3 := Lib.hid (HZ6.out.keep ht3 (fun e => by omega))
              have HB3 := Lib.hid (show Below w.heap.size w W3 from HB6.out.trans (ht3.below (fun k e => by rw [e, ← HQ.out]; omega) HB6.out.size))
              dsimp only [stE] at hW3
              rw [HTR.out] at hW3
              have HW3 := Lib.hid hW3
              clear hW3 hx3 ht3
              go_wp2
              rw [← HW3.out]
              go_roundw
              case rel => exact ⟨true, xe, _, cnt1, rfl, HR3.out, HOL.out.take HSR.out HIN.out HKY.out HTR.out (fun _ => .inl H12.out), HX3.out, HZ3.out, HB3.out⟩
              case measure => rw [HR3.out.left_eq, HRG.out.left_eq]; exact HLT.out
end Go.Proofs.Ytbecilepgphpbaa
