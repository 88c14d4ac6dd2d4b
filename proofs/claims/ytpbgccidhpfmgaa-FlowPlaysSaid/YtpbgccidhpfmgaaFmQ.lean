/- The program's table: the oldest untrusted entry. Conditions: as each states. The program's table: makeRoom. Conditions: as each states. The program's table: Put. Conditions: as each states. -/
import Derived.Test.YtpbgccidhpfmgaaFmL
import Derived.Test.YtpbgccidhpfmgaaFmT
namespace Go.Proofs.Ytpbgccidhpfmgaa
open Go Go.RowKit Go.Maps
set_option linter.unusedVariables false
set_option linter.unusedSimpArgs false

/-- No later than. -/
def LeO (a b : En) : Prop := a.la < b.la ∨ (a.la = b.la ∧ (a.f = b.f ∨ ltF a.f b.f))
theorem LeO.refl (a : En) : LeO a a := .inr ⟨rfl, .inl rfl⟩
theorem LeO.trans {a b c : En} (h : LeO a b) (h2 : LeO b c) : LeO a c := by
  rcases h with h | ⟨h, h'⟩
  · rcases h2 with g | ⟨g, _⟩
    · exact .inl (by omega)
    · exact .inl (by omega)
  · rcases h2 with g | ⟨g, g'⟩
    · exact .inl (by omega)
    · refine .inr ⟨by omega, ?_⟩
      rcases h' with h' | h'
      · rw [h']; exact g'
      · rcases g' with g' | g'
        · exact .inr (g' ▸ h')
        · exact .inr (ltF_trans h' g')
theorem old_min : ∀ {l : List En} {s r : En}, SrtE l → (∀ e ∈ l, ltF s.f e.f) → l.foldl oldS (some s) = some r → LeO r s ∧ ∀ e ∈ l, e.tr = false → LeO r e
  | [], s, r, _, _, h => by
    injection h with h
    subst h
    exact ⟨LeO.refl _, by simp⟩
  | a :: l, s, r, hs, hlt, h => by
    have h1 := List.pairwise_cons.1 hs
    rw [List.foldl_cons] at h
    cases ha : a.tr with
    | true =>
      rw [show oldS (some s) a = some s by unfold oldS; rw [if_pos ha]] at h
      obtain ⟨g1, g2⟩ := old_min (l := l) h1.2 (fun e he => hlt e (List.mem_cons_of_mem _ he)) h
      refine ⟨g1, fun e he ht => ?_⟩
      rcases List.mem_cons.1 he with rfl | he
      · rw [ha] at ht; cases ht
      · exact g2 e he ht
    | false =>
      by_cases hl : a.la < s.la
      · rw [show oldS (some s) a = some a by unfold oldS; rw [if_neg (by rw [ha]; simp)]; exact if_pos hl] at h
        obtain ⟨g1, g2⟩ := old_min (l := l) h1.2 h1.1 h
        refine ⟨g1.trans (.inl hl), fun e he ht => ?_⟩
        rcases List.mem_cons.1 he with rfl | he
        · exact g1
        · exact g2 e he ht
      · rw [show oldS (some s) a = some s by unfold oldS; rw [if_neg (by rw [ha]; simp)]; exact if_neg hl] at h
        obtain ⟨g1, g2⟩ := old_min (l := l) h1.2 (fun e he => hlt e (List.mem_cons_of_mem _ he)) h
        refine ⟨g1, fun e he ht => ?_⟩
        rcases List.mem_cons.1 he with rfl | he
        · refine g1.trans ?_
          rcases Int.lt_or_eq_of_le (Int.not_lt.1 hl) with q | q
          · exact .inl q
          · exact .inr ⟨q, .inr (hlt _ List.mem_cons_self)⟩
        · exact g2 e he ht
theorem old_lst : ∀ {l : List En} {r : En}, SrtE l → oldE l = some r → ∀ e ∈ l, e.tr = false → LeO r e
  | [], r, _, h => by simp
  | a :: l, r, hs, h => by
    have h1 := List.pairwise_cons.1 hs
    unfold oldE at h
    rw [List.foldl_cons] at h
    cases ha : a.tr with
    | true =>
      rw [show oldS none a = none by unfold oldS; rw [if_pos ha]] at h
      intro e he ht
      rcases List.mem_cons.1 he with rfl | he
      · rw [ha] at ht; cases ht
      · exact old_lst (l := l) h1.2 h e he ht
    | false =>
      rw [show oldS none a = some a by unfold oldS; rw [if_neg (by rw [ha]; simp)]] at h
      obtain ⟨g1, g2⟩ := old_min (l := l) h1.2 h1.1 h
      intro e he ht
      rcases List.mem_cons.1 he with rfl | he
      · exact g1
      · exact g2 e he ht
theorem old_eq {l : List En} {o : En} (hs : SrtE l) (ho : o ∈ l) (ht : o.tr = false) (hm : ∀ e ∈ l, e.tr = false → LeO o e) : oldE l = some o := by
  cases h : oldE l with
  | none =>
    have := (old_none h).2 o ho
    rw [ht] at this
    cases this
  | some r =>
    obtain ⟨h1, h2⟩ := old_is h
    have a := hm r h1 h2
    have b := old_lst hs h o ho ht
    have : r.f = o.f := by
      rcases a with a | ⟨a, a'⟩
      · rcases b with b | ⟨b, _⟩ <;> omega
      · rcases b with b | ⟨_, b'⟩
        · omega
        · rcases a' with a' | a'
          · exact a'.symm
          · rcases b' with b' | b'
            · exact b'
            · exact absurd a' (ltF_asym b')
    rw [srt_one hs h1 ho this]
/-- What has come. -/
def Come (left : Lit → Bool) (e : En) : Prop := ∀ kl, KeyAt e.f kl → left kl = false
def Ol (l : List En) (left : Lit → Bool) (fb : Bool) (o : En) : Prop := (fb = false → o = en0 ∧ ∀ e ∈ l, Come left e → e.tr = true) ∧ (fb = true → o ∈ l ∧ o.tr = false ∧ ∀ e ∈ l, Come left e → e.tr = false → LeO o e)
theorem Ol.start {D : DE} {l : List En} (hm : MR D l) (hs : SrtE l) (hf : ∀ e ∈ l, FitE e) : Ol l (Maps.has D) false en0 := by
  refine ⟨fun _ => ⟨rfl, fun e he hc => ?_⟩, fun h => by cases h⟩
  obtain ⟨kl, hk⟩ := keyF (hf e he).f
  have h1 := hc kl hk
  rw [hm.has e.f kl hk, findE_mem hs he rfl] at h1
  cases h1
theorem come_step {l : List En} {left : Lit → Bool} {x e : En} {kl : Lit} (hs : SrtE l) (hx : x ∈ l) (hk : KeyAt x.f kl) (he : e ∈ l) (h : Come (fun z => left z && !z.sameKey kl) e) : Come left e ∨ e = x := by
  by_cases hf : e.f = x.f
  · exact .inr (srt_one hs he hx hf)
  · refine .inl (fun kg hg => ?_)
    have h1 := h kg hg
    simp only at h1
    rw [sameKey_ne (hk.ne hg hf)] at h1
    simpa using h1
theorem Ol.skip {l : List En} {left : Lit → Bool} {fb : Bool} {o x : En} {kl : Lit} (h : Ol l left fb o) (hs : SrtE l) (hx : x ∈ l) (hk : KeyAt x.f kl) (hb : x.tr = true ∨ (fb = true ∧ LeO o x)) : Ol l (fun z => left z && !z.sameKey kl) fb o := by
  refine ⟨fun e => ?_, fun e => ?_⟩
  · refine ⟨(h.1 e).1, fun a ha hc => ?_⟩
    rcases come_step hs hx hk ha hc with c | rfl
    · exact (h.1 e).2 a ha c
    · rcases hb with hb | ⟨hb, _⟩
      · exact hb
      · rw [e] at hb; cases hb
  · refine ⟨(h.2 e).1, (h.2 e).2.1, fun a ha hc ht => ?_⟩
    rcases come_step hs hx hk ha hc with c | rfl
    · exact (h.2 e).2.2 a ha c ht
    · rcases hb with hb | ⟨_, hb⟩
      · rw [hb] at ht; cases ht
      · exact hb
theorem Ol.take {l : List En} {left : Lit → Bool} {fb : Bool} {o x : En} {kl : Lit} (h : Ol l left fb o) (hs : SrtE l) (hx : x ∈ l) (hk : KeyAt x.f kl) (ht : x.tr = false) (hb : fb = true → LeO x o) : Ol l (fun z => left z && !z.sameKey kl) true x := by
  refine ⟨fun e => absurd e (by simp), fun _ => ⟨hx, ht, fun a ha hc hta => ?_⟩⟩
  rcases come_step hs hx hk ha hc with c | rfl
  · cases fb with
    | true => exact (hb rfl).trans ((h.2 rfl).2.2 a ha c hta)
    | false =>
      have := (h.1 rfl).2 a ha c
      rw [hta] at this
      cases this
  · exact LeO.refl _
theorem Ol.done {l : List En} {left : Lit → Bool} {fb : Bool} {o : En} (h : Ol l left fb o) (hs : SrtE l) (hl : ∀ k, left k = false) : (oldE l).getD en0 = o := by
  cases fb with
  | true =>
    obtain ⟨h1, h2, h3⟩ := h.2 rfl
    rw [old_eq hs h1 h2 (fun e he ht => h3 e he (fun k _ => hl k) ht)]
    rfl
  | false =>
    obtain ⟨h1, h2⟩ := h.1 rfl
    cases ho : oldE l with
    | none => exact h1.symm
    | some r =>
      obtain ⟨a, b⟩ := old_is ho
      have := h2 r a (fun k _ => hl k)
      rw [b] at this
      cases this
theorem mr_in {D : DE} {l : List En} (hm : MR D l) {f : Fl} {e : En} {kl : Lit} {y : DE × List MemPlace} (hk : keyOf Try.prog tyF f.val = some kl) (hv : rdE e.val = some y) (hat : ∀ zd, D.atKey kl zd = y.1) : findE f l = some e := by
  have hy : y = (.held e, []) := by rw [rdE_val] at hv; exact (Option.some.inj hv).symm
  subst hy
  have h1 := hat .nil
  rw [hm.look f kl _ hk] at h1
  cases h2 : findE f l with
  | none =>
    rw [h2] at h1
    have h3 : (DataW.nil : DE) = DataW.held e := h1
    cases h3
  | some a =>
    rw [h2] at h1
    have h3 : DataW.held a = (DataW.held e : DE) := h1
    exact congrArg some (DataW.held.inj h3)
theorem rng_tch {T : Nat → Prop} {w w' : World} {b r n : Nat} {D : DE} {left : Lit → Bool} {cnt : Nat} (h : w.ranges Try.prog tyF rdE b r n D left cnt) (ht : Tch T w w') (hb : ¬ T b) (hr : ¬ T r) : w'.ranges Try.prog tyF rdE b r n D left cnt := by
  obtain ⟨es, clock, since, seen, c0, h1, h2, h3, h4, h5, h6⟩ := h
  exact ⟨es, clock, since, seen, c0, ht.at h1 hb, h2, h3, h4, ht.at h5 hr, h6⟩
theorem rng_lt {w : World} {b r n : Nat} {D : DE} {left : Lit → Bool} {cnt : Nat} (h : w.ranges Try.prog tyF rdE b r n D left cnt) : r < w.heap.size := by
  obtain ⟨es, clock, since, seen, c0, h1, h2, h3, h4, h5, h6⟩ := h
  exact lt_of_block h5
theorem invKF : ∀ key kl, keyOf Try.prog tyF key = some kl → ∃ x : Fl, key = x.val := fun key kl hk => by obtain ⟨x, hx, _⟩ := keyF_inv hk; exact ⟨x, hx⟩
theorem invVE : ∀ (v : Value) (y : DE × List MemPlace), rdE v = some y → ∃ c : En, v = c.val := fun v y hv => by obtain ⟨e, he, _⟩ := rdE_inv hv; exact ⟨e, he⟩
theorem old_boxes (w : World) : ∃ W, (w.alloc (.cells zeroE tyE)).alloc (.cells zeroE tyE) = W ∧ BxE W w.heap.size en0 ∧ BxE W (w.heap.size + 1) en0 ∧ Below w.heap.size w W ∧ W.heap.size = w.heap.size + 2 := by
  have hs1 : (w.alloc (.cells zeroE tyE)).heap.size = w.heap.size + 1 := by simp
  refine ⟨_, rfl, (zero_new w).keep (tch_new (bl_al (Below.refl _ _) _)) (fun h => h), ?_, bl_al (bl_al (Below.refl _ _) _) _, by simp⟩
  rw [← hs1]
  exact zero_new _
set_option maxRecDepth 100000 in
set_option maxHeartbeats 4000000 in
theorem oldest_c (B p : Nat) (F : Nat → Prop) (qt qu : Int) (l : List En) (w : World) (h : TSt w B F p qt qu l) (hn : l.length ≤ 1048576) :
    Calls Try.prog 84 #[.pointer (some ⟨p, 0, none⟩)] w fun e w' => e = .returned ((oldE l).getD en0).val ∧ Below w.heap.size w w' := by
  obtain ⟨b, hF, hne, hc, hm⟩ := h.map
  obtain ⟨W, hW, hz, ho, hb1, hsz⟩ := old_boxes w
  have hcW := hc.tch (tch_new hb1) (fun h => h)
  have hmW := hm.tch (tch_new hb1) (fun h => h)
  have c2 := hcW.cs.2.2.1
  have hbl := hm.lt
  obtain ⟨D, hown, hmr⟩ := hmW
  have HMR := Lib.hid hmr
  have HSR := Lib.hid h.srt
  have HFT := Lib.hid h.fit
  have HO0 := Lib.hid (Ol.start hmr h.srt h.fit)
  obtain ⟨q, hq⟩ : ∃ q, q = w.heap.size := ⟨_, rfl⟩
  rw [← hq] at hz ho hsz hbl
  have HW := Lib.hid hW
  have HQ := Lib.hid hq
  have HB := Lib.hid hb1
  have HZ := Lib.hid hz
  have HOX := Lib.hid ho
  have HSZ := Lib.hid hsz
  clear hcW hc hm hW hb1 hq hmr hz ho hne h hsz
  go_enter Try.func84, Try.ntmps84
  go_wp2
  go_step3
  go_wp2
  rw [HW.out, ← HQ.out]
  go_step3
  go_wp2_with (first
    | (at_range; refine wpList_range_own _ rfl _ tyM rfl tyF tyE lawF Try.underlying106 rdE b _ D rfl hown ?_; intro w0 hrg0 hg0 hs0)
    | go_in)
  go_frame
  rw [HSZ.out] at hrg0 ⊢
  have HG0 := Lib.hid (show Tch Non W w0 from (tch_grown hg0).mono (fun k hk => by cases hk))
  have HZ0 := Lib.hid (HZ.out.keep HG0.out (fun h => h))
  have HX0 := Lib.hid (HOX.out.keep HG0.out (fun h => h))
  have HT0 := Lib.hid (show Below w.heap.size w w0 from HB.out.trans (HG0.out.below (fun _ h => h.elim) HB.out.size))
  clear hs0 hg0 hown c2
  go_loopw [4] (fun fv wr => ∃ (fb : Bool) (o : En) (left : Lit → Bool) (cnt : Nat), fv = .bool fb ∧ wr.ranges Try.prog tyF rdE b (q + 2) l.length D left cnt ∧ Ol l left fb o ∧ BxE wr (q + 1) o ∧ BxE wr q en0 ∧ Below w.heap.size w wr) (fun _ wr => wr.rangeLeft b (q + 2))
  case atStart => exact ⟨false, en0, _, _, rfl, hrg0, HO0.out, HX0.out, HZ0.out, HT0.out⟩
  case round =>
    obtain ⟨fb, o, left, cnt, rfl, hrg, hol, hox, hzx, htx⟩ := hrel
    obtain ⟨w4, rfl⟩ : ∃ v, v = wr := ⟨_, rfl⟩
    have HRG := Lib.hid hrg
    have HOL := Lib.hid hol
    have HOXa := Lib.hid hox
    have HZXa := Lib.hid hzx
    have HTXa := Lib.hid htx
    clear hrg0 HG0 HZ0 HX0 HT0 hol hox hzx htx HO0
    go_wp2_with (first
      | (at_next; refine wpList_next_ranges _ rfl _ rfl tyF lawF rdE Fl.val En.val invKF invVE b (q + 2) l.length D left cnt rfl hrg ?_ ?_)
      | go_in)
    · intro _ hl0
      have HD := Lib.hid (HOL.out.done HSR.out hl0)
      obtain ⟨b0, b1, b2, b3, b4, b5, b6, b7, b8, b9⟩ := HZXa.out.cs
      obtain ⟨o0, o1, o2, o3, o4, o5, o6, o7, o8, o9⟩ := HOXa.out.cs
      have bf := HZXa.out.free
      obtain ⟨W3, hW3⟩ : ∃ v, v = stE w4 q o := ⟨_, rfl⟩
      have hx3 : BxE W3 q o := by rw [hW3]; exact HZXa.out.set o
      have HB3 : Hid (Below w.heap.size w W3) := Lib.hid (by rw [hW3]; exact bl_st HTXa.out (by rw [HQ.out]; exact Nat.le_refl _) o)
      dsimp only [stE] at hW3
      have HW3 := Lib.hid hW3
      clear hW3 hrg
      go_wp2
      rw [← HW3.out]
      rw [Exit.noGoto_ret]
      obtain ⟨a0, a1, a2, a3, a4, a5, a6, a7, a8, a9⟩ := hx3.cs
      refine bodyPost_ret (v := o.val) (by simp [results, Try.results84, go_sem, a0, a1, a2, a3, a4, a5, a6, a7, a8, a9]) rfl ?_
      exact ⟨by rw [HD.out], HB3.out⟩
    · intro xf xe kl yd yp w5 cnt1 hkey hlk hv hat hrg1 hlt hg1 hs1 hen
      have HFE := Lib.hid (mr_in (y := (yd, yp)) HMR.out hkey hv hat)
      have hxf : xe.f = xf := (findE_some HFE.out).2
      subst hxf
      have HIN := Lib.hid (findE_some HFE.out).1
      have HKY := Lib.hid (show KeyAt xe.f kl from hkey)
      have HLT := Lib.hid hlt
      have ht5 : Tch (· = q + 2) w4 w5 := (tch_grown hg1).mono (fun k hk => by simpa using hk)
      have hrr := rng_lt HRG.out
      obtain ⟨s, hs⟩ : ∃ s, s = w5.heap.size := ⟨_, rfl⟩
      have hss : q + 2 < s := by rw [hs, hs1]; exact hrr
      have HSS := Lib.hid hs
      have HB5 := Lib.hid (show Below w.heap.size w w5 from HTXa.out.trans (ht5.below (fun k e => by rw [e, ← HQ.out]; omega) HTXa.out.size))
      have HO5 := Lib.hid (HOXa.out.keep ht5 (fun e => by omega))
      have HZ5 := Lib.hid (HZXa.out.keep ht5 (fun e => by omega))
      obtain ⟨w6, hw6⟩ : ∃ v, v = (w5.alloc xe.f.obj).alloc xe.obj := ⟨_, rfl⟩
      have hsa : (w5.alloc xe.f.obj).heap.size = s + 1 := by rw [hs]; simp
      have ht6 : Tch Non w5 w6 := by rw [hw6]; exact tch_new (bl_al (bl_al (Below.refl _ _) _) _)
      have HFL := Lib.hid (show FlAt w6 s xe.f by rw [hw6, hs]; exact flAt_below (flAt_new w5 xe.f) (bl_al (Below.refl _ _) _) (by simp))
      have HEB := Lib.hid (show BxE w6 (s + 1) xe by rw [hw6, ← hsa]; exact BxE.new _ xe)
      have HB6 := Lib.hid (show Below w.heap.size w w6 from HB5.out.trans (ht6.below (fun _ h => h.elim) HB5.out.size))
      have HO6 := Lib.hid (HO5.out.keep ht6 (fun h => h))
      have HZ6 := Lib.hid (HZ5.out.keep ht6 (fun h => h))
      have HR6 := Lib.hid (rng_tch hrg1 ht6 (fun h => h) (fun h => h))
      have HW6 := Lib.hid hw6
      clear hrg1 hlt hg1 hs1 hlk hv hat ht5 ht6 hw6 hsa hs hrg hkey
      go_upto_region 6 with fail
      rw [← HSS.out, ← HW6.out]
      clear hen
      obtain ⟨f0, f1, f2, f3, f4⟩ := HFL.out
      obtain ⟨e0, e1, e2, e3, e4, e5, e6, e7, e8, e9⟩ := HEB.out.cs
      obtain ⟨o0, o1, o2, o3, o4, o5, o6, o7, o8, o9⟩ := HO6.out.cs
      have of9 := HO6.out.free
      cases htr : xe.tr with
      | true =>
        have HTR := Lib.hid htr
        rw [htr] at e7
        clear htr
        go_wp2
        go_roundw
        case rel => exact ⟨fb, o, _, cnt1, rfl, HR6.out, HOL.out.skip HSR.out HIN.out HKY.out (.inl HTR.out), HO6.out, HZ6.out, HB6.out⟩
        case measure => rw [HR6.out.left_eq, HRG.out.left_eq]; exact HLT.out
      | false =>
        have HTR := Lib.hid htr
        rw [htr] at e7
        clear htr
        cases fb with
        | false =>
          obtain ⟨W3, hW3⟩ : ∃ v, v = stE w6 (q + 1) xe := ⟨_, rfl⟩
          have hx3 : BxE W3 (q + 1) xe := by rw [hW3]; exact HO6.out.set xe
          have ht3 : Tch (· = q + 1) w6 W3 := by rw [hW3]; exact stE_tch _ _ _
          have HX3 := Lib.hid hx3
          have HR3 := Lib.hid (rng_tch HR6.out ht3 (fun e => by omega) (fun e => by omega))
          have HZ3 := Lib.hid (HZ6.out.keep ht3 (fun e => by omega))
          have HB3 := Lib.hid (show Below w.heap.size w W3 from HB6.out.trans (ht3.below (fun k e => by rw [e, ← HQ.out]; omega) HB6.out.size))
          dsimp only [stE] at hW3
          rw [HTR.out] at hW3
          have HW3 := Lib.hid hW3
          clear hW3 hx3 ht3
          go_wp2
          rw [← HW3.out]
          go_roundw
          case rel => exact ⟨true, xe, _, cnt1, rfl, HR3.out, HOL.out.take HSR.out HIN.out HKY.out HTR.out (fun h => by cases h), HX3.out, HZ3.out, HB3.out⟩
          case measure => rw [HR3.out.left_eq, HRG.out.left_eq]; exact HLT.out
        | true =>
          by_cases h1 : o.la < xe.la
          · have hz : (o.la < xe.la) = True := by simp [h1]
            go_wp2
            go_roundw
            case rel => exact ⟨true, o, _, cnt1, rfl, HR6.out, HOL.out.skip HSR.out HIN.out HKY.out (.inr ⟨rfl, .inl h1⟩), HO6.out, HZ6.out, HB6.out⟩
            case measure => rw [HR6.out.left_eq, HRG.out.left_eq]; exact HLT.out
          · by_cases h2 : xe.la = o.la
            · have q2 : (xe.la == o.la) = true := by simp [h2]
              have HLS := less_g o.f xe.f w6
              by_cases h3 : ltF o.f xe.f
              · rw [decide_eq_true h3] at HLS
                have H23 := Lib.hid (And.intro h2 h3)
                clear h2 h3
                go_wp2_with fail
                refine HLS.mono ?_
                rintro e w7 ⟨rfl, hg7⟩
                have HR7 := Lib.hid (rng_tch HR6.out (tch_grw Non hg7) (fun h => h) (fun h => h))
                have HO7 := Lib.hid (HO6.out.keep (tch_grw Non hg7) (fun h => h))
                have HZ7 := Lib.hid (HZ6.out.keep (tch_grw Non hg7) (fun h => h))
                have HB7 := Lib.hid (show Below w.heap.size w w7 from HB6.out.trans ((tch_grw Non hg7).below (fun _ h => h.elim) HB6.out.size))
                clear hg7 HLS
                go_wp2
                go_roundw
                case rel => exact ⟨true, o, _, cnt1, rfl, HR7.out, HOL.out.skip HSR.out HIN.out HKY.out (.inr ⟨rfl, .inr ⟨H23.out.1.symm, .inr H23.out.2⟩⟩), HO7.out, HZ7.out, HB7.out⟩
                case measure => rw [HR7.out.left_eq, HRG.out.left_eq]; exact HLT.out
              · rw [decide_eq_false h3] at HLS
                have H23 := Lib.hid (And.intro h2 h3)
                clear h2 h3
                go_wp2_with fail
                refine HLS.mono ?_
                rintro e w7 ⟨rfl, hg7⟩
                have HR7 := Lib.hid (rng_tch HR6.out (tch_grw Non hg7) (fun h => h) (fun h => h))
                have HO7 := Lib.hid (HO6.out.keep (tch_grw Non hg7) (fun h => h))
                have HZ7 := Lib.hid (HZ6.out.keep (tch_grw Non hg7) (fun h => h))
                have HEB7 := Lib.hid (HEB.out.keep (tch_grw Non hg7) (fun h => h))
                have HB7 := Lib.hid (show Below w.heap.size w w7 from HB6.out.trans ((tch_grw Non hg7).below (fun _ h => h.elim) HB6.out.size))
                clear hg7 HLS o0 o1 o2 o3 o4 o5 o6 o7 o8 o9 of9 e0 e1 e2 e3 e4 e5 e6 e7 e8 e9 f0 f1 f2 f3 f4
                obtain ⟨e0, e1, e2, e3, e4, e5, e6, e7, e8, e9⟩ := HEB7.out.cs
                obtain ⟨o0, o1, o2, o3, o4, o5, o6, o7, o8, o9⟩ := HO7.out.cs
                have of9 := HO7.out.free
                obtain ⟨W3, hW3⟩ : ∃ v, v = stE w7 (q + 1) xe := ⟨_, rfl⟩
                have hx3 : BxE W3 (q + 1) xe := by rw [hW3]; exact HO7.out.set xe
                have ht3 : Tch (· = q + 1) w7 W3 := by rw [hW3]; exact stE_tch _ _ _
                have HX3 := Lib.hid hx3
                have HR3 := Lib.hid (rng_tch HR7.out ht3 (fun e => by omega) (fun e => by omega))
                have HZ3 := Lib.hid (HZ7.out.keep ht3 (fun e => by omega))
                have HB3 := Lib.hid (show Below w.heap.size w W3 from HB7.out.trans (ht3.below (fun k e => by rw [e, ← HQ.out]; omega) HB7.out.size))
                dsimp only [stE] at hW3
                have HW3 := Lib.hid hW3
                clear hW3 hx3 ht3
                go_wp2
                rw [← HW3.out]
                go_roundw
                case rel => exact ⟨true, xe, _, cnt1, rfl, HR3.out, HOL.out.take HSR.out HIN.out HKY.out HTR.out (fun _ => by rcases ltF_total H23.out.2 with e | e; exact .inr ⟨H23.out.1, .inl e.symm⟩; exact .inr ⟨H23.out.1, .inr e⟩), HX3.out, HZ3.out, HB3.out⟩
                case measure => rw [HR3.out.left_eq, HRG.out.left_eq]; exact HLT.out
            · have q2 : (xe.la == o.la) = false := by simp [h2]
              have H12 := Lib.hid (show xe.la < o.la by omega)
              clear h2
              obtain ⟨W3, hW3⟩ : ∃ v, v = stE w6 (q + 1) xe := ⟨_, rfl⟩
              have hx3 : BxE W3 (q + 1) xe := by rw [hW3]; exact HO6.out.set xe
              have ht3 : Tch (· = q + 1) w6 W3 := by rw [hW3]; exact stE_tch _ _ _
              have HX3 := Lib.hid hx3
              have HR3 := Lib.hid (rng_tch HR6.out ht3 (fun e => by omega) (fun e => by omega))
              have HZ3 := Lib.hid (HZ6.out.keep ht3 (fun e => by omega))
              have HB3 := Lib.hid (show Below w.heap.size w W3 from HB6.out.trans (ht3.below (fun k e => by rw [e, ← HQ.out]; omega) HB6.out.size))
              dsimp only [stE] at hW3
              rw [HTR.out] at hW3
              have HW3 := Lib.hid hW3
              clear hW3 hx3 ht3
              go_wp2
              rw [← HW3.out]
              go_roundw
              case rel => exact ⟨true, xe, _, cnt1, rfl, HR3.out, HOL.out.take HSR.out HIN.out HKY.out HTR.out (fun _ => .inl H12.out), HX3.out, HZ3.out, HB3.out⟩
              case measure => rw [HR3.out.left_eq, HRG.out.left_eq]; exact HLT.out
end Go.Proofs.Ytpbgccidhpfmgaa
namespace Go.Proofs.Ytpbgccidhpfmgaa
open Go Go.RowKit Go.Maps
set_option linter.unusedVariables false
set_option linter.unusedSimpArgs false

theorem res_box (w : World) : ∃ W, w.alloc (.cells zeroE tyE) = W ∧ BxE W w.heap.size en0 ∧ Below w.heap.size w W ∧ W.heap.size = w.heap.size + 1 := ⟨_, rfl, zero_new w, bl_al (Below.refl _ _) _, by simp⟩
theorem old_is_some {l : List En} (h : 0 < unE l) : ∃ o, oldE l = some o := by
  cases ho : oldE l with
  | some o => exact ⟨o, rfl⟩
  | none =>
    have h1 := (old_none ho).2
    have h2 : unE l = 0 := by
      unfold unE
      rw [List.countP_eq_zero]
      intro e he
      rw [h1 e he]
      simp
    omega
/-- What makeRoom leaves. -/
def Mkr (w : World) (B : Nat) (F : Nat → Prop) (p : Nat) (qt qu : Int) (l : List En) (e : Ending) (w' : World) : Prop :=
  ((unE l : Int) < qu ∧ e = .returned (.tuple #[en0.val, .bool false]) ∧ TTo TSt w B F p qt qu l w') ∨ (¬ (unE l : Int) < qu ∧ ∃ o, oldE l = some o ∧ e = .returned (.tuple #[o.val, .bool true]) ∧ TTo TSt w B F p qt qu (cutE o.f l) w')
set_option maxRecDepth 100000 in
set_option maxHeartbeats 4000000 in
theorem mk_c (B p : Nat) (F : Nat → Prop) (qt qu : Int) (l : List En) (w : World) (h : TSt w B F p qt qu l) (hB : B ≤ w.heap.size) (hn : l.length ≤ 1048576) (hq0 : 0 < qu) :
    Calls Try.prog 57 #[.pointer (some ⟨p, 0, none⟩)] w (Mkr w B F p qt qu l) := by
  obtain ⟨b, hF, hne, hc, hm⟩ := h.map
  obtain ⟨W, hW, hz, hb1, hsz⟩ := res_box w
  have hTW : TSt W B F p qt qu l := h.keep (tch_new hb1) (fun _ _ h => h)
  have CL := Lib.hid (tlen_b B p F qt qu l W hTW (by omega) hn)
  have hpl : p < w.heap.size := hc.lt
  have hbl : b < w.heap.size := hm.lt
  obtain ⟨q, hq⟩ : ∃ q, q = w.heap.size := ⟨_, rfl⟩
  rw [← hq] at hz hsz hpl hbl
  have HW := Lib.hid hW
  have HQ := Lib.hid hq
  have HT := Lib.hid h
  have HTW := Lib.hid hTW
  have HB := Lib.hid hb1
  have HZ := Lib.hid hz
  have HTB := Lib.hid (hc.tch (tch_new hb1) (fun h => h))
  have HMP := Lib.hid (hm.tch (tch_new hb1) (fun h => h))
  have HF := Lib.hid hF
  have HNE := Lib.hid hne
  clear hc hm h hTW hW hb1 hq hz hF hne
  go_enter Try.func57, Try.ntmps57
  go_upto_region 1 with fail
  rw [HW.out, ← HQ.out]
  go_wp2_with fail
  refine CL.out.mono ?_
  rintro e w1 ⟨rfl, hb2⟩
  have ht1 := tch_new hb2
  have HTB1 := Lib.hid (HTB.out.tch ht1 (fun h => h))
  have HMP1 := Lib.hid (HMP.out.tch ht1 (fun h => h))
  have HZ1 := Lib.hid (HZ.out.keep ht1 (fun h => h))
  have HB1 := Lib.hid (show Below w.heap.size w w1 from HB.out.trans (ht1.below (fun _ h => h.elim) HB.out.size))
  have HT1 := Lib.hid (HTW.out.keep ht1 (fun _ _ h => h))
  have hs1 : q < w1.heap.size := by have := ht1.size; omega
  clear hb2 ht1 CL
  have c1 := HTB1.out.cs.2.1
  by_cases hlt : (unE l : Int) < qu
  · obtain ⟨b0, b1, b2, b3, b4, b5, b6, b7, b8, b9⟩ := HZ1.out.cs
    have bf := HZ1.out.free
    obtain ⟨W3, hW3⟩ : ∃ v, v = stE w1 q en0 := ⟨_, rfl⟩
    have hx3 : BxE W3 q en0 := by rw [hW3]; exact HZ1.out.set en0
    have HB3 : Hid (Below w.heap.size w W3) := Lib.hid (by rw [hW3]; exact bl_st HB1.out (by rw [HQ.out]; exact Nat.le_refl _) en0)
    dsimp only [stE] at hW3
    have HW3 := Lib.hid hW3
    have HLT := Lib.hid hlt
    clear hW3
    go_wp2
    have hw3 := HW3.out
    simp only [en0, fl0] at hw3
    rw [← hw3]
    obtain ⟨a0, a1, a2, a3, a4, a5, a6, a7, a8, a9⟩ := hx3.cs
    refine bodyPost_ret (v := .tuple #[en0.val, .bool false]) (by simp [results, Try.results57, go_sem, a0, a1, a2, a3, a4, a5, a6, a7, a8, a9]) rfl ?_
    exact .inl ⟨HLT.out, rfl, HT.out.stay HB3.out⟩
  · obtain ⟨o, ho⟩ := old_is_some (l := l) (by omega)
    have CO := oldest_c B p F qt qu l w1 HT1.out hn
    rw [ho] at CO
    have HO := Lib.hid ho
    have HLT := Lib.hid hlt
    obtain ⟨hol, hotr⟩ := old_is ho
    have HOL := Lib.hid hol
    have HOT := Lib.hid hotr
    clear ho hol hotr
    go_wp2_with fail
    refine CO.mono ?_
    rintro e w2 ⟨rfl, hb2⟩
    clear c1 CO
    have ht2 := tch_new hb2
    obtain ⟨w3, hw3⟩ : ∃ v, v = w2.alloc o.obj := ⟨_, rfl⟩
    have ht3 : Tch Non w1 w3 := ht2.trans (by rw [hw3]; exact tch_new (bl_al (Below.refl _ _) _))
    obtain ⟨s, hs⟩ : ∃ s, s = w2.heap.size := ⟨_, rfl⟩
    have hss : q < s := by rw [hs]; have := ht2.size; omega
    have HX3 := Lib.hid (show BxE w3 s o by rw [hw3, hs]; exact BxE.new w2 o)
    have HTB3 := Lib.hid (HTB1.out.tch ht3 (fun h => h))
    have HMP3 := Lib.hid (HMP1.out.tch ht3 (fun h => h))
    have HZ3 := Lib.hid (HZ1.out.keep ht3 (fun h => h))
    have HB3 := Lib.hid (show Below w.heap.size w w3 from HB1.out.trans (ht3.below (fun _ h => h.elim) HB1.out.size))
    have HW3 := Lib.hid hw3
    have HSS := Lib.hid hs
    clear hb2 ht2 ht3 hw3 hs
    go_upto_region 5 with fail
    rw [← HSS.out, ← HW3.out]
    obtain ⟨e0, e1, e2, e3, e4, e5, e6, e7, e8, e9⟩ := HX3.out.cs
    have t2 := HTB3.out.cs.2.2.1
    have hfo : FitF o.f := (HT.out.fit o HOL.out).f
    obtain ⟨w4, hr4, hm4, ht4, hs4⟩ := (HMP3.out.block (w' := w3.drew) rfl).drop HT.out.srt hfo 0
    have ht4' : Tch (· = b) w3 w4 := ⟨ht4.os, ht4.tape, ht4.output, ht4.size, ht4.block⟩
    have hbs : ¬ s = b := by omega
    have hbq : ¬ q = b := by omega
    have HX4 := Lib.hid (HX3.out.keep ht4' hbs)
    have HZ4 := Lib.hid (HZ3.out.keep ht4' hbq)
    have HTB4 := Lib.hid (HTB3.out.tch ht4' (fun (e : p = b) => HNE.out e.symm))
    have HM4 := Lib.hid hm4
    have HT4 := Lib.hid (show Tch (fun k => k = b ∨ k = p) w w4 from ((tch_new HB3.out).mono (fun _ h => h.elim)).trans (ht4'.mono (fun k e => .inl e)))
    have HS4 := Lib.hid hs4
    have hS0 : w3.drew.cell? ⟨p, 2, none⟩ = some (.map (some b)) ∧ w3.drew.cell? ⟨s, 0, none⟩ = some (.int .i64 o.f.p) ∧ w3.drew.cell? ⟨s, 1, none⟩ = some (.int .u32 o.f.s) ∧ w3.drew.cell? ⟨s, 2, none⟩ = some (.int .i64 o.f.sp) ∧ w3.drew.cell? ⟨s, 3, none⟩ = some (.int .u32 o.f.d) ∧ w3.drew.cell? ⟨s, 4, none⟩ = some (.int .i64 o.f.dp) := ⟨t2, e0, e1, e2, e3, e4⟩
    have hS4 : w4.cell? ⟨p, 2, none⟩ = some (.map (some b)) ∧ w4.cell? ⟨s, 0, none⟩ = some (.int .i64 o.f.p) ∧ w4.cell? ⟨s, 1, none⟩ = some (.int .u32 o.f.s) ∧ w4.cell? ⟨s, 2, none⟩ = some (.int .i64 o.f.sp) ∧ w4.cell? ⟨s, 3, none⟩ = some (.int .u32 o.f.d) ∧ w4.cell? ⟨s, 4, none⟩ = some (.int .i64 o.f.dp) := ⟨ht4'.cell t2 (fun (e : p = b) => HNE.out e.symm), ht4'.cell e0 hbs, ht4'.cell e1 hbs, ht4'.cell e2 hbs, ht4'.cell e3 hbs, ht4'.cell e4 hbs⟩
    clear hm4 ht4 ht4' e0 e1 e2 e3 e4 e5 e6 e7 e8 e9 t2 hs4
    go_region_held3 (fun wx => wx.cell? ⟨p, 2, none⟩ = some (.map (some b)) ∧ wx.cell? ⟨s, 0, none⟩ = some (.int .i64 o.f.p) ∧ wx.cell? ⟨s, 1, none⟩ = some (.int .u32 o.f.s) ∧ wx.cell? ⟨s, 2, none⟩ = some (.int .i64 o.f.sp) ∧ wx.cell? ⟨s, 3, none⟩ = some (.int .u32 o.f.d) ∧ wx.cell? ⟨s, 4, none⟩ = some (.int .i64 o.f.dp)) (first | (with_reducible exact hS0) | (with_reducible exact hS4) | fail)
      (first | fail)
    clear hS0 hS4
    obtain ⟨e0, e1, e2, e3, e4, e5, e6, e7, e8, e9⟩ := HX4.out.cs
    obtain ⟨b0, b1, b2, b3, b4, b5, b6, b7, b8, b9⟩ := HZ4.out.cs
    have bf := HZ4.out.free
    obtain ⟨W5, hW5⟩ : ∃ v, v = stE w4 q o := ⟨_, rfl⟩
    have hx5 : BxE W5 q o := by rw [hW5]; exact HZ4.out.set o
    have ht5 : Tch (· = q) w4 W5 := by rw [hW5]; exact stE_tch _ _ _
    have HTO := Lib.hid (show TTo TSt w B F p qt qu (cutE o.f l) W5 from by
      have h9 : Tch (fun k => k = b ∨ k = p) w W5 := HT4.out.trans' ht5 (fun k hk e => by have := HQ.out; omega)
      have hcn : trE (cutE o.f l) = trE l := by
        have h1 := trE_perm (cut_perm HT.out.srt (findE_mem HT.out.srt HOL.out rfl))
        rw [trE_cons, HOT.out] at h1
        simpa [one] using h1.symm
      refine HT.out.set HF.out HNE.out h9 (HT.out.srt.cut o.f) (fun e he => HT.out.fit e (List.mem_filter.1 he).1) ?_ (HM4.out.tch ht5 (fun (e : b = q) => by omega))
      rw [hcn]
      exact HTB4.out.tch ht5 (fun (e : p = q) => by omega))
    dsimp only [stE] at hW5
    have HW5 := Lib.hid hW5
    clear hW5 ht5
    go_wp2
    rw [← HW5.out]
    obtain ⟨a0, a1, a2, a3, a4, a5, a6, a7, a8, a9⟩ := hx5.cs
    refine bodyPost_ret (v := .tuple #[o.val, .bool true]) (by simp [results, Try.results57, go_sem, a0, a1, a2, a3, a4, a5, a6, a7, a8, a9]) rfl ?_
    exact .inr ⟨Int.not_lt.2 HLT.out, o, HO.out, rfl, HTO.out⟩
end Go.Proofs.Ytpbgccidhpfmgaa
namespace Go.Proofs.Ytpbgccidhpfmgaa
open Go Go.RowKit Go.Maps
set_option linter.unusedVariables false
set_option linter.unusedSimpArgs false

theorem TTo.step {S : TbS} {w w1 w2 : World} {B p : Nat} {F F2 : Nat → Prop} {qt qu : Int} {m : List En} (h1 : ∀ k, F2 k → F k ∨ w.heap.size ≤ k) (h2 : Tch F w w1) (h : TTo S w1 B F2 p qt qu m w2) : TTo S w B F p qt qu m w2 := by
  obtain ⟨F3, h3, h4, h5⟩ := h
  refine ⟨F3, h3, fun k hk => ?_, ?_⟩
  · rcases h4 k hk with h | h
    · exact h1 k h
    · exact .inr (Nat.le_trans h2.size h)
  · exact h2.trans' h5 (fun k hk e => by
      rcases h1 k e with h | h
      · exact h
      · omega)
theorem put_boxes (w : World) (f : Fl) : ∃ W, (w.alloc f.obj).alloc (.cells zeroE tyE) = W ∧ FlAt W w.heap.size f ∧ BxE W (w.heap.size + 1) en0 ∧ Below w.heap.size w W ∧ W.heap.size = w.heap.size + 2 := get_boxes w f
/-- What stays while Put runs: its two boxes. -/
structure PuB (w W : World) (q : Nat) (f : Fl) : Prop where
  fl : FlAt W q f
  res : BxE W (q + 1) en0
  bel : Below w.heap.size w W
  size : q + 1 < W.heap.size
theorem PuB.new {w W W' : World} {q : Nat} {f : Fl} (h : PuB w W q f) (hb : Below W.heap.size W W') : PuB w W' q f :=
  ⟨flAt_below h.fl hb (by have := h.size; omega), h.res.keep (tch_new hb) (fun h => h), bl_tr h.bel hb, Nat.lt_of_lt_of_le h.size hb.size⟩
theorem PuB.tch {T : Nat → Prop} {w W W' : World} {q : Nat} {f : Fl} (h : PuB w W q f) (ht : Tch T W W') (h1 : ¬ T q) (h2 : ¬ T (q + 1)) : FlAt W' q f ∧ BxE W' (q + 1) en0 ∧ q + 1 < W'.heap.size := by
  obtain ⟨y0, y1, y2, y3, y4⟩ := h.fl
  exact ⟨⟨ht.cell y0 h1, ht.cell y1 h1, ht.cell y2 h1, ht.cell y3 h1, ht.cell y4 h1⟩, h.res.keep ht h2, Nat.lt_of_lt_of_le h.size ht.size⟩
theorem ret_box {w W : World} {q : Nat} {f : Fl} (h : PuB w W q f) (hq : q = w.heap.size) (e : En) : ∃ W3, W3 = stE W (q + 1) e ∧ BxE W3 (q + 1) e ∧ Below w.heap.size w W3 :=
  ⟨_, rfl, h.res.set e, bl_st h.bel (by omega) e⟩
set_option maxRecDepth 100000 in
set_option maxHeartbeats 4000000 in
theorem tput_t (B p : Nat) (F : Nat → Prop) (qt qu : Int) (l : List En) (f : Fl) (dip ep now : Int) (w : World) (h : TSt w B F p qt qu l) (hB : B ≤ w.heap.size) (hn : l.length ≤ 1048576) (hf : FitF f) (hd : In32 dip) (he : InN ep) (ho : InN now) :
    Calls Try.prog 14 #[.pointer (some ⟨p, 0, none⟩), f.val, .int .u32 dip, .int .i64 ep, .int .i64 now] w (TPut TSt w B F p qt qu (putE qu f dip ep now l)) := by
  obtain ⟨W, hW, ff, hz, hb1, hsz⟩ := put_boxes w f
  obtain ⟨q, hq⟩ : ∃ q, q = w.heap.size := ⟨_, rfl⟩
  rw [← hq] at ff hz hsz
  have hpu : PuB w W q f := ⟨ff, hz, hb1, by omega⟩
  have CK := Lib.hid (chk_c f W)
  obtain ⟨d0, d1, d2, d3, d4⟩ := ff
  have HW := Lib.hid hW
  have HQ := Lib.hid hq
  have HT := Lib.hid h
  have HPU := Lib.hid hpu
  clear hW hq hz hb1 hpu h
  go_enter Try.func14, Try.ntmps14
  go_upto_region 1 with fail
  rw [HW.out, ← HQ.out]
  go_wp2_with fail
  refine CK.out.mono ?_
  rintro e w1 ⟨rfl, hb2⟩
  have HPU1 := Lib.hid (HPU.out.new hb2)
  clear hb2 CK d0 d1 d2 d3 d4
  by_cases hg : GoodF f
  · rw [show chkF f = Value.nilIface from if_pos hg]
    have hti := isT_c now w1
    have HG := Lib.hid hg
    clear hg
    by_cases hok : OkN now
    · rw [decide_eq_true hok] at hti
      have HOK := Lib.hid hok
      clear hok
      go_wp2_with fail
      refine hti.mono ?_
      rintro e w2 ⟨rfl, rfl⟩
      clear hti
      have hO := orE_c p w1
      go_wp2_with fail
      refine hO.mono ?_
      rintro e w2 ⟨rfl, rfl⟩
      clear hO
      have HT1 := Lib.hid (show TSt w1 B F p qt qu l from HT.out.keep (tch_new HPU1.out.bel) (fun _ _ h => h))
      obtain ⟨b, hF, hne, hc, hm⟩ := HT1.out.map
      have c2 := hc.cs.2.2.1
      obtain ⟨d0, d1, d2, d3, d4⟩ := HPU1.out.fl
      obtain ⟨x, hx⟩ : ∃ x, x = (findE f l).getD en0 := ⟨_, rfl⟩
      obtain ⟨s, hs⟩ : ∃ s, s = (findE f l).isSome := ⟨_, rfl⟩
      obtain ⟨r, hr⟩ : ∃ r, r = w1.heap.size := ⟨_, rfl⟩
      have hqr : q + 1 < r := by rw [hr]; exact HPU1.out.size
      have hl1 : ∀ X : World, X.heap[b]? = w1.heap[b]? → (Instr.lookup tyM (.map (some b)) f.val true).run Try.prog X = .ok (.tuple #[x.val, .bool s]) X := fun X hX => by
        rw [(hm.block hX).look hf, hx, hs]
      have k1 := hl1 w1.drew rfl
      have k2 := hl1 (w1.alloc (.cells zeroE tyE)).drew ((MapKept.heap_alloc _ _).2 b hm.lt)
      have k3 := hl1 w1 rfl
      have k4 := hl1 (w1.alloc (.cells zeroE tyE)) ((MapKept.heap_alloc _ _).2 b hm.lt)
      have HX := Lib.hid hx
      have HS := Lib.hid hs
      have HR := Lib.hid hr
      have hr' := hr.symm
      have HTB := Lib.hid hc
      have HMP := Lib.hid hm
      have HF := Lib.hid hF
      have HNE := Lib.hid hne
      clear hl1 hc hm hx hs hF hne hr
      go_upto_region 7 with fail
      go_cut [14, 15] from 29 to 39 (fun u14 u15 wx => u14 = .pointer (some ⟨r, 0, none⟩) ∧ u15 = .bool s ∧ wx = (w1.alloc x.obj).drew)
      case first =>
        have hS0 : w1.drew.cell? ⟨p, 2, none⟩ = some (.map (some b)) ∧ w1.drew.cell? ⟨q, 0, none⟩ = some (.int .i64 f.p) ∧ w1.drew.cell? ⟨q, 1, none⟩ = some (.int .u32 f.s) ∧ w1.drew.cell? ⟨q, 2, none⟩ = some (.int .i64 f.sp) ∧ w1.drew.cell? ⟨q, 3, none⟩ = some (.int .u32 f.d) ∧ w1.drew.cell? ⟨q, 4, none⟩ = some (.int .i64 f.dp) := ⟨c2, d0, d1, d2, d3, d4⟩
        go_region_held3 (fun wx => wx.cell? ⟨p, 2, none⟩ = some (.map (some b)) ∧ wx.cell? ⟨q, 0, none⟩ = some (.int .i64 f.p) ∧ wx.cell? ⟨q, 1, none⟩ = some (.int .u32 f.s) ∧ wx.cell? ⟨q, 2, none⟩ = some (.int .i64 f.sp) ∧ wx.cell? ⟨q, 3, none⟩ = some (.int .u32 f.d) ∧ wx.cell? ⟨q, 4, none⟩ = some (.int .i64 f.dp)) (first | (with_reducible exact hS0) | go_keep | fail)
          (first | fail)
        all_goals (
          go_wp2
          go_meet
          exact ⟨rfl, rfl, rfl⟩)
      case rest =>
        obtain ⟨rfl, rfl, rfl⟩ := hcut
        obtain ⟨w2, hw2⟩ : ∃ v, v = ((w1.alloc x.obj).alloc (.cells zeroE tyE)).drew := ⟨_, rfl⟩
        have hs1 : (w1.alloc x.obj).heap.size = r + 1 := by rw [← hr']; simp
        have hbb : Below w1.heap.size w1 w2 := by rw [hw2]; exact bl_dr (bl_al (bl_al (Below.refl _ _) _) _)
        have HX2 := Lib.hid (show BxE w2 r x by rw [hw2, ← hr']; exact (BxE.new w1 x).keep (tch_new (bl_dr (bl_al (Below.refl _ _) _))) (fun h => h))
        have HOU := Lib.hid (show BxE w2 (r + 1) en0 by rw [hw2, ← hs1]; exact (zero_new _).keep (tch_new (bl_dr (Below.refl _ _))) (fun h => h))
        have HPU2 := Lib.hid (HPU1.out.new hbb)
        have HTB2 := Lib.hid (HTB.out.tch (tch_new hbb) (fun h => h))
        have HMP2 := Lib.hid (HMP.out.tch (tch_new hbb) (fun h => h))
        have HT2 := Lib.hid (HT1.out.keep (tch_new hbb) (fun _ _ h => h))
        have HR2 := Lib.hid (show r + 1 < w2.heap.size by rw [hw2]; simp only [World.drew, World.size_alloc]; omega)
        have HPR := Lib.hid (show p < w.heap.size ∧ b < w.heap.size from ⟨(HT.out.blocks p HT.out.here).2, (HT.out.blocks b HF.out).2⟩)
        have HW2 := Lib.hid hw2
        clear hbb hw2 k1 k2 k3 k4 d0 d1 d2 d3 d4 c2 hr'
        go_upto_region 9 with fail
        rw [← HW2.out]
        clear hs1
        cases hs : findE f l with
        | none =>
          have hsf : s = false := by rw [HS.out, hs]; rfl
          have hxe : x = en0 := by rw [HX.out, hs]; rfl
          subst hsf
          subst hxe
          have HE0 := Lib.hid hs
          clear hs
          have t1 := HTB2.out.cs.2.1
          by_cases hq0 : qu = 0
          · have HR := Lib.hid (put_no (dip := dip) (ep := ep) HG.out HOK.out HE0.out hq0)
            have qz : (qu == 0) = true := by simp [hq0]
            clear hq0
            obtain ⟨W3, hW3, hx3, hb3⟩ := ret_box HPU2.out HQ.out en0
            obtain ⟨b0, b1, b2, b3, b4, b5, b6, b7, b8, b9⟩ := HPU2.out.res.cs
            have bf := HPU2.out.res.free
            have HB3 := Lib.hid hb3
            have hw3 := hW3
            dsimp only [stE] at hw3
            have HW3 := Lib.hid hw3
            clear hW3 hw3 hb3
            go_wp2
            have hw3 := HW3.out
            simp only [en0, fl0] at hw3
            rw [← hw3]
            obtain ⟨a0, a1, a2, a3, a4, a5, a6, a7, a8, a9⟩ := hx3.cs
            refine bodyPost_ret (v := .tuple #[en0.val, .bool false, errnoF 5]) (by simp [results, Try.results14, go_sem, a0, a1, a2, a3, a4, a5, a6, a7, a8, a9]) rfl ?_
            unfold TPut
            rw [HR.out]
            exact ⟨rfl, HT.out.stay HB3.out⟩
          · have qz : (qu == 0) = false := by simp [hq0]
            have hqp : 0 < qu := by have := HT.out.quota.2.1; omega
            have CM := mk_c B p F qt qu l w2 HT2.out (Nat.le_trans hB HPU2.out.bel.size) hn hqp
            have HQ0 := Lib.hid hq0
            clear hq0
            go_wp2_with fail
            refine CM.mono ?_
            rintro e w3 (⟨hlt, rfl, F2, hT3, hF3, ht3⟩ | ⟨hlt, o, hoo, rfl, F2, hT3, hF3, ht3⟩)
            · have HLT := Lib.hid hlt
              clear CM hlt qz t1
              have hw23 : Tch F w2 w3 := ht3
              have hFq : ∀ k, F k → k < w.heap.size := fun k hk => (HT.out.blocks k hk).2
              have hqw0 : q = w.heap.size := HQ.out
              have hnF : ∀ k, w.heap.size ≤ k → ¬ F k := fun k hk hf9 => by have := hFq k hf9; omega
              have hr1 := HR2.out
              obtain ⟨hfl3, hres3, hsz3⟩ := HPU2.out.tch hw23 (hnF q (by omega)) (hnF (q + 1) (by omega))
              have hx3 := HX2.out.keep hw23 (hnF r (by omega))
              have hou3 := HOU.out.keep hw23 (hnF (r + 1) (by omega))
              obtain ⟨b3, hF3b, hne3, hc3, hm3⟩ := hT3.map
              have HT3 := Lib.hid hT3
              have hb3c : F b3 ∨ w2.heap.size ≤ b3 := hF3 b3 hF3b
              have hbo : ¬ r = b3 ∧ ¬ r + 1 = b3 ∧ ¬ q = b3 ∧ ¬ q + 1 = b3 := by
                rcases hb3c with h | h
                · have := hFq b3 h
                  omega
                · have := hr1
                  omega
              obtain ⟨w4, hw4⟩ : ∃ v, v = stE w3 (r + 1) en0 := ⟨_, rfl⟩
              have ht4 : Tch (· = r + 1) w3 w4 := by rw [hw4]; exact stE_tch _ _ _
              have HOUF := Lib.hid (show BxE w3 (r + 1) en0 from hou3)
              have HOU4 := Lib.hid (show BxE w4 (r + 1) en0 by rw [hw4]; exact hou3.set en0)
              have hFl4 : FlAt w4 q f := by
                obtain ⟨y0, y1, y2, y3, y4⟩ := hfl3
                have hnq : ¬ q = r + 1 := by omega
                exact ⟨ht4.cell y0 hnq, ht4.cell y1 hnq, ht4.cell y2 hnq, ht4.cell y3 hnq, ht4.cell y4 hnq⟩
              have hX4 : BxE w4 r en0 := hx3.keep ht4 (fun (e : r = r + 1) => by omega)
              have hRS4 : BxE w4 (q + 1) en0 := hres3.keep ht4 (fun (e : q + 1 = r + 1) => by omega)
              have hp3 : F2 p := hT3.here
              have hpo : ¬ p = r + 1 := by have := HPR.out.1; omega
              have hpq1 : ¬ p = q + 1 := by have := HPR.out.1; omega
              have hTB4 : TbAt w4 p qt qu b3 (trE l) := hc3.tch ht4 hpo
              have hMP4 : MapS w4 b3 l := hm3.tch ht4 (fun (e : b3 = r + 1) => hbo.2.1 e.symm)
              obtain ⟨y, hy⟩ : ∃ y : En, y = ⟨f, dip, ep, false, false, now⟩ := ⟨_, rfl⟩
              have hfy : findE y.f l = none := by
                rw [hy]
                exact HE0.out
              have hln : l.length ≤ 1048576 := hn
              obtain ⟨w7, hr7, hm7, ht7, hs7⟩ := (hMP4.block (w' := w4.drew) rfl).store (m := insE y l) hln (x := y) (by rw [hy]; exact hf) (fun g => findE_ins HT3.out.srt hfy) (by rw [insE_len, hfy]; rfl)
              have hpnb : ¬ p = b3 := fun e => hne3 e.symm
              have hbw := hbo
              have HW4 := Lib.hid hw4
              dsimp only [stE] at hw4
              have HW4s := Lib.hid hw4
              have bo := HOUF.out.free
              obtain ⟨o0', o1', o2', o3', o4', o5', o6', o7', o8', o9'⟩ := HOUF.out.cs
              have HH := Lib.hid (And.intro hnF (And.intro hbo (And.intro hbw hqw0)))
              clear hw4 hqw0 hnF hbo hbw hr1
              go_upto_region 14 with fail
              have hw4 := HW4s.out
              first
                | rw [← hw4]
                | (simp only [en0, fl0] at hw4; rw [← hw4])
              clear hw4 bo o0' o1' o2' o3' o4' o5' o6' o7' o8' o9'
              obtain ⟨hnF, hbo, hbw, hqw0⟩ := HH.out
              have hr1 := HR2.out
              have hyf : y.f = f := by rw [hy] <;> rfl
              rw [hyf] at hr7
              have ht7' : Tch (· = b3) w4 w7 := ⟨ht7.os, ht7.tape, ht7.output, ht7.size, ht7.block⟩
              have hrb : ¬ r = b3 := by have := hbw; omega
              have hob : ¬ r + 1 = b3 := by have := hbw; omega
              have hqb : ¬ q = b3 := by have := hbw; omega
              have hq1b : ¬ q + 1 = b3 := by have := hbw; omega
              have hpb : ¬ p = b3 := hpnb
              obtain ⟨g0, g1, g2, g3, g4⟩ := hFl4
              obtain ⟨x0, x1, x2, x3, x4, x5, x6, x7, x8, x9⟩ := hX4.cs
              have t2 := hTB4.cs.2.2.1
              have HOU7 := Lib.hid (HOU4.out.keep ht7' hob)
              have HRS7 := Lib.hid (hRS4.keep ht7' hq1b)
              have hS0 : w4.drew.cell? ⟨p, 2, none⟩ = some (.map (some b3)) ∧ w4.drew.cell? ⟨q, 0, none⟩ = some (.int .i64 f.p) ∧ w4.drew.cell? ⟨q, 1, none⟩ = some (.int .u32 f.s) ∧ w4.drew.cell? ⟨q, 2, none⟩ = some (.int .i64 f.sp) ∧ w4.drew.cell? ⟨q, 3, none⟩ = some (.int .u32 f.d) ∧ w4.drew.cell? ⟨q, 4, none⟩ = some (.int .i64 f.dp) ∧ w4.drew.cell? ⟨r, 7, none⟩ = some (.bool false) := ⟨t2, g0, g1, g2, g3, g4, x7⟩
              have hS7 : w7.cell? ⟨p, 2, none⟩ = some (.map (some b3)) ∧ w7.cell? ⟨q, 0, none⟩ = some (.int .i64 f.p) ∧ w7.cell? ⟨q, 1, none⟩ = some (.int .u32 f.s) ∧ w7.cell? ⟨q, 2, none⟩ = some (.int .i64 f.sp) ∧ w7.cell? ⟨q, 3, none⟩ = some (.int .u32 f.d) ∧ w7.cell? ⟨q, 4, none⟩ = some (.int .i64 f.dp) ∧ w7.cell? ⟨r, 7, none⟩ = some (.bool false) := ⟨ht7'.cell t2 hpb, ht7'.cell g0 hqb, ht7'.cell g1 hqb, ht7'.cell g2 hqb, ht7'.cell g3 hqb, ht7'.cell g4 hqb, ht7'.cell x7 hrb⟩
              obtain ⟨W9, hW9⟩ : ∃ v, v = stE w7 (q + 1) en0 := ⟨_, rfl⟩
              have hx9 : BxE W9 (q + 1) en0 := by rw [hW9]; exact HRS7.out.set en0
              have ht9 : Tch (· = q + 1) w7 W9 := by rw [hW9]; exact stE_tch _ _ _
              have hqw : q = w.heap.size := HQ.out
              have HTO := Lib.hid (show TTo TSt w B F p qt qu (insE y l) W9 from by
                have hcn : trE (insE y l) = trE l := by
                  have h1 := (ins_cnt y l).1
                  rw [h1, hy]
                  simp [one]
                have h1 : Tch (fun k => k = r + 1 ∨ k = b3 ∨ k = q + 1) w3 W9 := ((ht4.mono (fun k e => .inl e)).trans (ht7'.mono (fun k e => .inr (.inl e)))).trans (ht9.mono (fun k e => .inr (.inr e)))
                have hbs := HPU2.out.bel.size
                have h2 : Tch F w W9 := (((tch_new HPU2.out.bel).mono (fun _ h => h.elim)).trans hw23).trans' h1 (fun k hk e => by
                  rcases e with e | e | e
                  · exfalso; omega
                  · rcases hb3c with h | h
                    · rw [e]; exact h
                    · exfalso; omega
                  · exfalso; omega)
                refine ⟨F2, ⟨HT3.out.srt.ins hfy, fun e hee => ?_, HT3.out.quota, HT3.out.here, fun k hk => ⟨(HT3.out.blocks k hk).1, Nat.lt_of_lt_of_le (HT3.out.blocks k hk).2 h1.size⟩, b3, hF3b, hne3, ?_, hm7.tch ht9 (fun (e : b3 = q + 1) => hbo.2.2.2 e.symm)⟩, fun k hk => (hF3 k hk).imp id (fun h => by omega), h2⟩
                · rcases insE_mem.1 hee with h | h
                  · rw [h, hy]; exact ⟨hf, hd, he, HOK.out⟩
                  · exact HT3.out.fit e h
                · rw [hcn]
                  exact ((show TbAt w4.drew p qt qu b3 (trE l) from hTB4).tch ht7 hpnb).tch ht9 (fun (e : p = q + 1) => hpq1 e))
              dsimp only [stE] at hW9
              have HW9 := Lib.hid hW9
              have HR9 := Lib.hid (show putE qu f dip ep now l = (none, 0, insE y l) by rw [hy]; exact put_room HG.out HOK.out HE0.out HQ0.out HLT.out)
              rw [hy] at hr7
              clear hqw0 hnF hbo hr1 hsz3
              clear hW9 ht9 ht7 ht7' hm7 hs7 hy g0 g1 g2 g3 g4 x0 x1 x2 x3 x4 x5 x6 x7 x8 x9 t2 hrb hob hqb hq1b hpb hpnb hbw hqw hyf
              go_region_held3 (fun wx => wx.cell? ⟨p, 2, none⟩ = some (.map (some b3)) ∧ wx.cell? ⟨q, 0, none⟩ = some (.int .i64 f.p) ∧ wx.cell? ⟨q, 1, none⟩ = some (.int .u32 f.s) ∧ wx.cell? ⟨q, 2, none⟩ = some (.int .i64 f.sp) ∧ wx.cell? ⟨q, 3, none⟩ = some (.int .u32 f.d) ∧ wx.cell? ⟨q, 4, none⟩ = some (.int .i64 f.dp) ∧ wx.cell? ⟨r, 7, none⟩ = some (.bool false)) (first | (with_reducible exact hS0) | (with_reducible exact hS7) | fail)
                (first | fail)
              clear hS0 hS7
              obtain ⟨o0, o1, o2, o3, o4, o5, o6, o7, o8, o9⟩ := HOU7.out.cs
              obtain ⟨z0, z1, z2, z3, z4, z5, z6, z7, z8, z9⟩ := HRS7.out.cs
              have bf := HRS7.out.free
              go_wp2
              have hw9 := HW9.out
              first
                | rw [← hw9]
                | (simp only [en0, fl0] at hw9; rw [← hw9])
              obtain ⟨a0, a1, a2, a3, a4, a5, a6, a7, a8, a9⟩ := hx9.cs
              refine bodyPost_ret (v := .tuple #[en0.val, .bool false, .nilIface]) (by simp [results, Try.results14, go_sem, a0, a1, a2, a3, a4, a5, a6, a7, a8, a9]) rfl ?_
              unfold TPut
              rw [HR9.out]
              exact ⟨rfl, HTO.out⟩
            · have HLT := Lib.hid hlt
              clear CM hlt qz t1
              obtain ⟨hol, hotr⟩ := old_is hoo
              have hfof := (HT.out.fit o hol).f
              clear hotr
              have hw23 : Tch F w2 w3 := ht3
              have hFq : ∀ k, F k → k < w.heap.size := fun k hk => (HT.out.blocks k hk).2
              have hqw0 : q = w.heap.size := HQ.out
              have hnF : ∀ k, w.heap.size ≤ k → ¬ F k := fun k hk hf9 => by have := hFq k hf9; omega
              have hr1 := HR2.out
              obtain ⟨hfl3, hres3, hsz3⟩ := HPU2.out.tch hw23 (hnF q (by omega)) (hnF (q + 1) (by omega))
              have hx3 := HX2.out.keep hw23 (hnF r (by omega))
              have hou3 := HOU.out.keep hw23 (hnF (r + 1) (by omega))
              obtain ⟨b3, hF3b, hne3, hc3, hm3⟩ := hT3.map
              have HT3 := Lib.hid hT3
              have hb3c : F b3 ∨ w2.heap.size ≤ b3 := hF3 b3 hF3b
              have hbo : ¬ r = b3 ∧ ¬ r + 1 = b3 ∧ ¬ q = b3 ∧ ¬ q + 1 = b3 := by
                rcases hb3c with h | h
                · have := hFq b3 h
                  omega
                · have := hr1
                  omega
              have HOUF := Lib.hid (show BxE w3 (r + 1) en0 from hou3)
              obtain ⟨w4, hw4⟩ : ∃ v, v = stE w3 (r + 1) o := ⟨_, rfl⟩
              have ht4 : Tch (· = r + 1) w3 w4 := by rw [hw4]; exact stE_tch _ _ _
              have HOU4 := Lib.hid (show BxE w4 (r + 1) o by rw [hw4]; exact hou3.set o)
              have hFl4 : FlAt w4 q f := by
                obtain ⟨y0, y1, y2, y3, y4⟩ := hfl3
                have hnq : ¬ q = r + 1 := by omega
                exact ⟨ht4.cell y0 hnq, ht4.cell y1 hnq, ht4.cell y2 hnq, ht4.cell y3 hnq, ht4.cell y4 hnq⟩
              have hX4 : BxE w4 r en0 := hx3.keep ht4 (fun (e : r = r + 1) => by omega)
              have hRS4 : BxE w4 (q + 1) en0 := hres3.keep ht4 (fun (e : q + 1 = r + 1) => by omega)
              have hp3 : F2 p := hT3.here
              have hpo : ¬ p = r + 1 := by have := HPR.out.1; omega
              have hpq1 : ¬ p = q + 1 := by have := HPR.out.1; omega
              have hTB4 : TbAt w4 p qt qu b3 (trE (cutE o.f l)) := hc3.tch ht4 hpo
              have hMP4 : MapS w4 b3 (cutE o.f l) := hm3.tch ht4 (fun (e : b3 = r + 1) => hbo.2.1 e.symm)
              obtain ⟨y, hy⟩ : ∃ y : En, y = ⟨f, dip, ep, false, false, now⟩ := ⟨_, rfl⟩
              have hfy : findE y.f (cutE o.f l) = none := by
                rw [hy]
                rw [findE_cut]; split; rfl; exact HE0.out
              have hln : (cutE o.f l).length ≤ 1048576 := Nat.le_trans (cutE_len _ _) hn
              obtain ⟨w7, hr7, hm7, ht7, hs7⟩ := (hMP4.block (w' := w4.drew) rfl).store (m := insE y (cutE o.f l)) hln (x := y) (by rw [hy]; exact hf) (fun g => findE_ins HT3.out.srt hfy) (by rw [insE_len, hfy]; rfl)
              have hpnb : ¬ p = b3 := fun e => hne3 e.symm
              have hbw := hbo
              have HW4 := Lib.hid hw4
              dsimp only [stE] at hw4
              have HW4s := Lib.hid hw4
              have bo := HOUF.out.free
              obtain ⟨o0', o1', o2', o3', o4', o5', o6', o7', o8', o9'⟩ := HOUF.out.cs
              have HH := Lib.hid (And.intro hnF (And.intro hbo (And.intro hbw hqw0)))
              clear hw4 hqw0 hnF hbo hbw hr1
              go_upto_region 14 with fail
              have hw4 := HW4s.out
              first
                | rw [← hw4]
                | (simp only [en0, fl0] at hw4; rw [← hw4])
              clear hw4 bo o0' o1' o2' o3' o4' o5' o6' o7' o8' o9'
              obtain ⟨hnF, hbo, hbw, hqw0⟩ := HH.out
              have hr1 := HR2.out
              have hyf : y.f = f := by rw [hy] <;> rfl
              rw [hyf] at hr7
              have ht7' : Tch (· = b3) w4 w7 := ⟨ht7.os, ht7.tape, ht7.output, ht7.size, ht7.block⟩
              have hrb : ¬ r = b3 := by have := hbw; omega
              have hob : ¬ r + 1 = b3 := by have := hbw; omega
              have hqb : ¬ q = b3 := by have := hbw; omega
              have hq1b : ¬ q + 1 = b3 := by have := hbw; omega
              have hpb : ¬ p = b3 := hpnb
              obtain ⟨g0, g1, g2, g3, g4⟩ := hFl4
              obtain ⟨x0, x1, x2, x3, x4, x5, x6, x7, x8, x9⟩ := hX4.cs
              have t2 := hTB4.cs.2.2.1
              have HOU7 := Lib.hid (HOU4.out.keep ht7' hob)
              have HRS7 := Lib.hid (hRS4.keep ht7' hq1b)
              have hS0 : w4.drew.cell? ⟨p, 2, none⟩ = some (.map (some b3)) ∧ w4.drew.cell? ⟨q, 0, none⟩ = some (.int .i64 f.p) ∧ w4.drew.cell? ⟨q, 1, none⟩ = some (.int .u32 f.s) ∧ w4.drew.cell? ⟨q, 2, none⟩ = some (.int .i64 f.sp) ∧ w4.drew.cell? ⟨q, 3, none⟩ = some (.int .u32 f.d) ∧ w4.drew.cell? ⟨q, 4, none⟩ = some (.int .i64 f.dp) ∧ w4.drew.cell? ⟨r, 7, none⟩ = some (.bool false) := ⟨t2, g0, g1, g2, g3, g4, x7⟩
              have hS7 : w7.cell? ⟨p, 2, none⟩ = some (.map (some b3)) ∧ w7.cell? ⟨q, 0, none⟩ = some (.int .i64 f.p) ∧ w7.cell? ⟨q, 1, none⟩ = some (.int .u32 f.s) ∧ w7.cell? ⟨q, 2, none⟩ = some (.int .i64 f.sp) ∧ w7.cell? ⟨q, 3, none⟩ = some (.int .u32 f.d) ∧ w7.cell? ⟨q, 4, none⟩ = some (.int .i64 f.dp) ∧ w7.cell? ⟨r, 7, none⟩ = some (.bool false) := ⟨ht7'.cell t2 hpb, ht7'.cell g0 hqb, ht7'.cell g1 hqb, ht7'.cell g2 hqb, ht7'.cell g3 hqb, ht7'.cell g4 hqb, ht7'.cell x7 hrb⟩
              obtain ⟨W9, hW9⟩ : ∃ v, v = stE w7 (q + 1) o := ⟨_, rfl⟩
              have hx9 : BxE W9 (q + 1) o := by rw [hW9]; exact HRS7.out.set o
              have ht9 : Tch (· = q + 1) w7 W9 := by rw [hW9]; exact stE_tch _ _ _
              have hqw : q = w.heap.size := HQ.out
              have HTO := Lib.hid (show TTo TSt w B F p qt qu (insE y (cutE o.f l)) W9 from by
                have hcn : trE (insE y (cutE o.f l)) = trE (cutE o.f l) := by
                  have h1 := (ins_cnt y (cutE o.f l)).1
                  rw [h1, hy]
                  simp [one]
                have h1 : Tch (fun k => k = r + 1 ∨ k = b3 ∨ k = q + 1) w3 W9 := ((ht4.mono (fun k e => .inl e)).trans (ht7'.mono (fun k e => .inr (.inl e)))).trans (ht9.mono (fun k e => .inr (.inr e)))
                have hbs := HPU2.out.bel.size
                have h2 : Tch F w W9 := (((tch_new HPU2.out.bel).mono (fun _ h => h.elim)).trans hw23).trans' h1 (fun k hk e => by
                  rcases e with e | e | e
                  · exfalso; omega
                  · rcases hb3c with h | h
                    · rw [e]; exact h
                    · exfalso; omega
                  · exfalso; omega)
                refine ⟨F2, ⟨HT3.out.srt.ins hfy, fun e hee => ?_, HT3.out.quota, HT3.out.here, fun k hk => ⟨(HT3.out.blocks k hk).1, Nat.lt_of_lt_of_le (HT3.out.blocks k hk).2 h1.size⟩, b3, hF3b, hne3, ?_, hm7.tch ht9 (fun (e : b3 = q + 1) => hbo.2.2.2 e.symm)⟩, fun k hk => (hF3 k hk).imp id (fun h => by omega), h2⟩
                · rcases insE_mem.1 hee with h | h
                  · rw [h, hy]; exact ⟨hf, hd, he, HOK.out⟩
                  · exact HT3.out.fit e h
                · rw [hcn]
                  exact ((show TbAt w4.drew p qt qu b3 (trE (cutE o.f l)) from hTB4).tch ht7 hpnb).tch ht9 (fun (e : p = q + 1) => hpq1 e))
              dsimp only [stE] at hW9
              have HW9 := Lib.hid hW9
              have HR9 := Lib.hid (show putE qu f dip ep now l = (some o, 0, insE y (cutE o.f l)) by rw [hy]; exact put_full HG.out HOK.out HE0.out HQ0.out (by have := HLT.out; omega) hoo)
              rw [hy] at hr7
              clear hqw0 hnF hbo hr1 hsz3
              clear hW9 ht9 ht7 ht7' hm7 hs7 hy g0 g1 g2 g3 g4 x0 x1 x2 x3 x4 x5 x6 x7 x8 x9 t2 hrb hob hqb hq1b hpb hpnb hbw hqw hyf
              go_region_held3 (fun wx => wx.cell? ⟨p, 2, none⟩ = some (.map (some b3)) ∧ wx.cell? ⟨q, 0, none⟩ = some (.int .i64 f.p) ∧ wx.cell? ⟨q, 1, none⟩ = some (.int .u32 f.s) ∧ wx.cell? ⟨q, 2, none⟩ = some (.int .i64 f.sp) ∧ wx.cell? ⟨q, 3, none⟩ = some (.int .u32 f.d) ∧ wx.cell? ⟨q, 4, none⟩ = some (.int .i64 f.dp) ∧ wx.cell? ⟨r, 7, none⟩ = some (.bool false)) (first | (with_reducible exact hS0) | (with_reducible exact hS7) | fail)
                (first | fail)
              clear hS0 hS7
              obtain ⟨o0, o1, o2, o3, o4, o5, o6, o7, o8, o9⟩ := HOU7.out.cs
              obtain ⟨z0, z1, z2, z3, z4, z5, z6, z7, z8, z9⟩ := HRS7.out.cs
              have bf := HRS7.out.free
              go_wp2
              have hw9 := HW9.out
              first
                | rw [← hw9]
                | (simp only [en0, fl0] at hw9; rw [← hw9])
              obtain ⟨a0, a1, a2, a3, a4, a5, a6, a7, a8, a9⟩ := hx9.cs
              refine bodyPost_ret (v := .tuple #[o.val, .bool true, .nilIface]) (by simp [results, Try.results14, go_sem, a0, a1, a2, a3, a4, a5, a6, a7, a8, a9]) rfl ?_
              unfold TPut
              rw [HR9.out]
              exact ⟨rfl, HTO.out⟩
        | some e0 =>
          have hst : s = true := by rw [HS.out, hs]; rfl
          have hxe : x = e0 := by rw [HX.out, hs]; rfl
          subst hst
          subst hxe
          have HE0 := Lib.hid hs
          clear hs
          obtain ⟨y, hy⟩ : ∃ y : En, y = ⟨f, dip, ep, x.tr, false, now⟩ := ⟨_, rfl⟩
          have hxm := (findE_some HE0.out).1
          have hfy : findE y.f l = some x := by rw [hy]; exact HE0.out
          obtain ⟨w7, hr7, hm7, ht7, hs7⟩ := (HMP2.out.block (w' := w2.drew) rfl).store (m := setE y l) hn (x := y) (by rw [hy]; exact hf) (fun g => findE_set HT.out.srt hfy) (by rw [setE_len, hfy]; rfl)
          have hbw : b < q := by rw [HQ.out]; exact HPR.out.2
          have hpw : p < q := by rw [HQ.out]; exact HPR.out.1
          have hpnb : ¬ p = b := fun e => HNE.out e.symm
          have hyf : y.f = f := by rw [hy] <;> rfl
          rw [hyf] at hr7
          have ht7' : Tch (· = b) w2 w7 := ⟨ht7.os, ht7.tape, ht7.output, ht7.size, ht7.block⟩
          have hrb : ¬ r = b := by have := hbw; omega
          have hob : ¬ r + 1 = b := by have := hbw; omega
          have hqb : ¬ q = b := by have := hbw; omega
          have hq1b : ¬ q + 1 = b := by have := hbw; omega
          have hpb : ¬ p = b := hpnb
          obtain ⟨g0, g1, g2, g3, g4⟩ := HPU2.out.fl
          obtain ⟨x0, x1, x2, x3, x4, x5, x6, x7, x8, x9⟩ := HX2.out.cs
          have t2 := HTB2.out.cs.2.2.1
          have HOU7 := Lib.hid (HOU.out.keep ht7' hob)
          have HRS7 := Lib.hid (HPU2.out.res.keep ht7' hq1b)
          have hS0 : w2.drew.cell? ⟨p, 2, none⟩ = some (.map (some b)) ∧ w2.drew.cell? ⟨q, 0, none⟩ = some (.int .i64 f.p) ∧ w2.drew.cell? ⟨q, 1, none⟩ = some (.int .u32 f.s) ∧ w2.drew.cell? ⟨q, 2, none⟩ = some (.int .i64 f.sp) ∧ w2.drew.cell? ⟨q, 3, none⟩ = some (.int .u32 f.d) ∧ w2.drew.cell? ⟨q, 4, none⟩ = some (.int .i64 f.dp) ∧ w2.drew.cell? ⟨r, 7, none⟩ = some (.bool x.tr) := ⟨t2, g0, g1, g2, g3, g4, x7⟩
          have hS7 : w7.cell? ⟨p, 2, none⟩ = some (.map (some b)) ∧ w7.cell? ⟨q, 0, none⟩ = some (.int .i64 f.p) ∧ w7.cell? ⟨q, 1, none⟩ = some (.int .u32 f.s) ∧ w7.cell? ⟨q, 2, none⟩ = some (.int .i64 f.sp) ∧ w7.cell? ⟨q, 3, none⟩ = some (.int .u32 f.d) ∧ w7.cell? ⟨q, 4, none⟩ = some (.int .i64 f.dp) ∧ w7.cell? ⟨r, 7, none⟩ = some (.bool x.tr) := ⟨ht7'.cell t2 hpb, ht7'.cell g0 hqb, ht7'.cell g1 hqb, ht7'.cell g2 hqb, ht7'.cell g3 hqb, ht7'.cell g4 hqb, ht7'.cell x7 hrb⟩
          obtain ⟨W9, hW9⟩ : ∃ v, v = stE w7 (q + 1) en0 := ⟨_, rfl⟩
          have hx9 : BxE W9 (q + 1) en0 := by rw [hW9]; exact HRS7.out.set en0
          have ht9 : Tch (· = q + 1) w7 W9 := by rw [hW9]; exact stE_tch _ _ _
          have hqw : q = w.heap.size := HQ.out
          have HTO := Lib.hid (show TTo TSt w B F p qt qu (setE y l) W9 from by
            have h9 : Tch (fun k => k = b ∨ k = p) w W9 := (((tch_new HPU2.out.bel).mono (fun _ h => h.elim)).trans (ht7'.mono (fun k e => .inl e))).trans' ht9 (fun k hk e => by omega)
            have hcn : trE (setE y l) = trE l := by
              have h1 := (set_cnt HT.out.srt hfy).1
              have h2 : y.tr = x.tr := by rw [hy]
              rw [h2] at h1
              omega
            refine HT.out.set HF.out HNE.out h9 (HT.out.srt.set y) (fun e hee => ?_) ?_ (hm7.tch ht9 (fun (e : b = q + 1) => by omega))
            · obtain ⟨a, ha, rfl⟩ := List.mem_map.1 hee
              split
              · rw [hy]; exact ⟨hf, hd, he, HOK.out⟩
              · exact HT.out.fit a ha
            · rw [hcn]
              exact ((show TbAt w2.drew p qt qu b (trE l) from HTB2.out).tch ht7 hpnb).tch ht9 (fun (e : p = q + 1) => by omega))
          dsimp only [stE] at hW9
          have HW9 := Lib.hid hW9
          have HR9 := Lib.hid (show putE qu f dip ep now l = (none, 0, setE y l) by rw [hy]; exact put_old HG.out HOK.out HE0.out)
          rw [hy] at hr7
          clear hW9 ht9 ht7 ht7' hm7 hs7 hy g0 g1 g2 g3 g4 x0 x1 x2 x3 x4 x5 x6 x7 x8 x9 t2 hrb hob hqb hq1b hpb hpnb hbw hqw hyf
          go_upto_region 14 with fail
          go_region_held3 (fun wx => wx.cell? ⟨p, 2, none⟩ = some (.map (some b)) ∧ wx.cell? ⟨q, 0, none⟩ = some (.int .i64 f.p) ∧ wx.cell? ⟨q, 1, none⟩ = some (.int .u32 f.s) ∧ wx.cell? ⟨q, 2, none⟩ = some (.int .i64 f.sp) ∧ wx.cell? ⟨q, 3, none⟩ = some (.int .u32 f.d) ∧ wx.cell? ⟨q, 4, none⟩ = some (.int .i64 f.dp) ∧ wx.cell? ⟨r, 7, none⟩ = some (.bool x.tr)) (first | (with_reducible exact hS0) | (with_reducible exact hS7) | fail)
            (first | fail)
          clear hS0 hS7
          obtain ⟨o0, o1, o2, o3, o4, o5, o6, o7, o8, o9⟩ := HOU7.out.cs
          obtain ⟨z0, z1, z2, z3, z4, z5, z6, z7, z8, z9⟩ := HRS7.out.cs
          have bf := HRS7.out.free
          go_wp2
          have hw9 := HW9.out
          first
            | rw [← hw9]
            | (simp only [en0, fl0] at hw9; rw [← hw9])
          obtain ⟨a0, a1, a2, a3, a4, a5, a6, a7, a8, a9⟩ := hx9.cs
          refine bodyPost_ret (v := .tuple #[en0.val, .bool false, .nilIface]) (by simp [results, Try.results14, go_sem, a0, a1, a2, a3, a4, a5, a6, a7, a8, a9]) rfl ?_
          unfold TPut
          rw [HR9.out]
          exact ⟨rfl, HTO.out⟩
    · rw [decide_eq_false hok] at hti
      have HR := Lib.hid (put_late (qu := qu) (dip := dip) (ep := ep) (l := l) HG.out hok)
      clear hok
      go_wp2_with fail
      refine hti.mono ?_
      rintro e w2 ⟨rfl, rfl⟩
      clear hti
      obtain ⟨W3, hW3, hx3, hb3⟩ := ret_box HPU1.out HQ.out en0
      obtain ⟨b0, b1, b2, b3, b4, b5, b6, b7, b8, b9⟩ := HPU1.out.res.cs
      have bf := HPU1.out.res.free
      have HB3 := Lib.hid hb3
      have hw3 := hW3
      dsimp only [stE] at hw3
      have HW3 := Lib.hid hw3
      clear hW3 hw3 hb3
      go_wp2
      have hw3 := HW3.out
      simp only [en0, fl0] at hw3
      rw [← hw3]
      obtain ⟨a0, a1, a2, a3, a4, a5, a6, a7, a8, a9⟩ := hx3.cs
      refine bodyPost_ret (v := .tuple #[en0.val, .bool false, errnoF 4]) (by simp [results, Try.results14, go_sem, a0, a1, a2, a3, a4, a5, a6, a7, a8, a9]) rfl ?_
      unfold TPut
      rw [HR.out]
      exact ⟨rfl, HT.out.stay HB3.out⟩
  · rw [show chkF f = errnoF 9 from if_neg hg]
    have HR := Lib.hid (put_form (qu := qu) (dip := dip) (ep := ep) (now := now) (l := l) hg)
    clear hg
    obtain ⟨W3, hW3, hx3, hb3⟩ := ret_box HPU1.out HQ.out en0
    obtain ⟨b0, b1, b2, b3, b4, b5, b6, b7, b8, b9⟩ := HPU1.out.res.cs
    have bf := HPU1.out.res.free
    have HB3 := Lib.hid hb3
    have hw3 := hW3
    dsimp only [stE] at hw3
    have HW3 := Lib.hid hw3
    clear hW3 hw3 hb3
    go_wp2
    have hw3 := HW3.out
    simp only [en0, fl0] at hw3
    rw [← hw3]
    obtain ⟨a0, a1, a2, a3, a4, a5, a6, a7, a8, a9⟩ := hx3.cs
    refine bodyPost_ret (v := .tuple #[en0.val, .bool false, errnoF 9]) (by simp [results, Try.results14, go_sem, a0, a1, a2, a3, a4, a5, a6, a7, a8, a9]) rfl ?_
    unfold TPut
    rw [HR.out]
    exact ⟨rfl, HT.out.stay HB3.out⟩
end Go.Proofs.Ytpbgccidhpfmgaa
