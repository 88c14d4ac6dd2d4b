/- The document's wheel: Set refused, At, Next, Due. Conditions: each key once; few timers. -/
import Derived.Test.YthoegmcdohppoaaWrC
import Derived.Deep.LoopGhost
import Derived.Maps.AppendAt
namespace Go.Proofs.Ythoegmcdohppoaa
open Go Go.RowKit
set_option linter.unusedVariables false
set_option linter.unusedSimpArgs false

theorem infoNT : (Try.prog.info? 3).map (fun i => (i.zero, i.size, i.bytes)) = some (some (.int .i64 0), 1, 8) := by kernel_rfl
/-- A time that there may be, as answered. -/
def atR (o : Option Int) : Value := .tuple #[.int .i64 (o.getD 0), .bool o.isSome]
set_option maxRecDepth 100000 in
theorem refSetNo_c (m : Nat) (at' : Int) (a : Option Addr) (k0 c : Nat) (w : World) (ha : ¬ (0 ≤ at' ∧ at' ≤ 1099511627776)) :
    Calls Try.prog 14 #[.pointer (some ⟨m, 0, none⟩), .int .i64 at', .slice a k0 c] w fun e w' => e = .returned (.int .i64 4) ∧ w = w' := by
  by_cases q : at' < 0
  · clear ha
    go_enter Try.func14, Try.ntmps14
    go_wp2
    go_ret
    exact ⟨rfl, rfl⟩
  · have q2 : (1099511627776 : Int) < at' := by omega
    clear ha
    go_enter Try.func14, Try.ntmps14
    go_wp2
    go_ret
    exact ⟨rfl, rfl⟩
theorem atT_at {ts : List Wy} (hk : KeyT ts) {i : Nat} (hi : i < ts.length) {k : Int} (e : (ts.getD i tm0).2 = k) : atT k ts = some (ts.getD i tm0).1 := by
  refine (atT_some hk).2 ?_
  have h : ts.getD i tm0 ∈ ts := by rw [List.getD_eq_getElem?_getD, List.getElem?_eq_getElem hi]; exact List.getElem_mem hi
  rw [← e]
  exact h
theorem atT_take {ts : List Wy} {i : Nat} (hi : i < ts.length) {k : Int} (h : ∀ t ∈ ts.take i, t.2 ≠ k) (e : ¬ (ts.getD i tm0).2 = k) : ∀ t ∈ ts.take (i + 1), t.2 ≠ k := by
  intro t ht
  rw [take_more ts tm0 hi, List.mem_append, List.mem_singleton] at ht
  rcases ht with ht | ht
  · exact h t ht
  · rw [ht]; exact e
set_option maxRecDepth 100000 in
set_option maxHeartbeats 4000000 in
theorem refAt_c (B m : Nat) (F : Nat → Prop) (ts : List Wy) (key : Int) (w : World) (hR : RwS w B F m ts) (hk : KeyT ts) (hn : ts.length ≤ 1048576) :
    Calls Try.prog 18 #[.pointer (some ⟨m, 0, none⟩), .int .i64 key] w fun e w' => e = .returned (atR (atT key ts)) ∧ Below w.heap.size w w' := by
  obtain ⟨ao, n, c, hM, _⟩ := hR.here
  have hnl := ownT_len hM.row
  have HM := Lib.hid hM
  have HK := Lib.hid hk
  have H0 : Hid (∀ t ∈ ts.take 0, t.2 ≠ key) := Lib.hid (fun t ht => by simp at ht)
  have HB0 := Lib.hid (Below.refl w.heap.size w)
  clear hR hM hk
  go_enter Try.func18, Try.ntmps18
  go_wp2
  go_loopw [6] (fun iv wr => ∃ i : Nat, i ≤ n ∧ iv = .int .i64 i ∧ Hid (∀ t ∈ ts.take i, t.2 ≠ key) ∧ Hid (Below w.heap.size w wr)) (fun iv _ => n - (intOf iv).toNat)
  case atStart => exact ⟨0, by omega, rfl, H0, HB0⟩
  case round =>
    obtain ⟨i, hi, rfl, HI, HB⟩ := hrel
    obtain ⟨w2, rfl⟩ : ∃ v, v = wr := ⟨_, rfl⟩
    clear H0 HB0
    have hM2 := HM.out.keep (tch_new HB.out) (fun h => h) (fun _ _ h => h)
    have q0 := hM2.c0
    by_cases hlt : i < n
    · have ii : (i : Int) < (n : Int) := by omega
      have i0 : (0 : Int) ≤ (i : Int) := by omega
      obtain ⟨g, rfl, _, c0, c1⟩ := ownT_cell hM2.row hlt
      have HAt := Lib.hid (fun (k : Int) => atT_at HK.out (i := i) (by omega) (k := k))
      have HTk := Lib.hid (fun e => atT_take (i := i) (by omega) HI.out e)
      obtain ⟨tk, htk⟩ : ∃ x, x = (ts.getD i tm0).2 := ⟨_, rfl⟩
      obtain ⟨ta, hta⟩ : ∃ x, x = (ts.getD i tm0).1 := ⟨_, rfl⟩
      rw [← htk] at c0 HAt HTk
      rw [← hta] at c1 HAt
      clear hM2 htk hta HI
      by_cases e : tk = key
      · have HA := Lib.hid (HAt.out key e)
        have qe : (tk == key) = true := by simpa using e
        clear e HAt HTk
        go_wp2
        go_ret2
        exact ⟨by rw [HA.out]; rfl, HB.out⟩
      · have qe : (tk == key) = false := by simpa using e
        have HT2 := Lib.hid (HTk.out e)
        clear e HAt HTk
        go_wp2
        go_roundw
        case rel => exact ⟨i + 1, by omega, by go_num, HT2, HB⟩
        case measure => simp [intOf]; omega
    · obtain rfl : i = n := by omega
      have ii : ¬ (i : Int) < (i : Int) := by omega
      have HA : Hid (atT key ts = none) := Lib.hid (atT_none.2 (by
        have := HI.out
        rwa [List.take_of_length_le (by omega)] at this))
      go_wp2
      go_ret2
      exact ⟨by rw [HA.out]; rfl, HB.out⟩
theorem fst_mem {ts : List Wy} {n : Nat} {b : Nat} (h : FstT ts n b) (hn : ts.length = n) : b < n ∧ ts.getD b tm0 ∈ ts ∧ ∀ u ∈ ts, leW (ts.getD b tm0) u := by
  rcases h with ⟨_, h1⟩ | ⟨b', hb, e, hl⟩
  · omega
  · obtain rfl : b = b' := by omega
    have hm : ∀ j, j < ts.length → ts.getD j tm0 ∈ ts := fun j hj => by rw [List.getD_eq_getElem?_getD, List.getElem?_eq_getElem hj]; exact List.getElem_mem hj
    refine ⟨hb, hm b (by omega), fun u hu => ?_⟩
    obtain ⟨j, hj, rfl⟩ := List.mem_iff_getElem.1 hu
    have := hl j (by omega)
    rwa [List.getD_eq_getElem?_getD (l := ts) (i := j), List.getElem?_eq_getElem hj] at this
theorem fst_none {ts : List Wy} {n : Nat} {k : Int} (h : FstT ts n k) (hn : ts.length = n) (hk : k < 0) : ts = [] := by
  rcases h with ⟨h0, _⟩ | ⟨b', hb, e, hl⟩
  · exact List.eq_nil_of_length_eq_zero (by omega)
  · omega
set_option maxRecDepth 100000 in
theorem refNext_c (B m : Nat) (F : Nat → Prop) (ts : List Wy) (w : World) (hR : RwS w B F m ts) (hn : ts.length ≤ 1048576) :
    Calls Try.prog 23 #[.pointer (some ⟨m, 0, none⟩)] w fun e w' => e = .returned (atR (nextT ts)) ∧ Below w.heap.size w w' := by
  obtain ⟨ao, n, c, hM, _⟩ := hR.here
  have hnl := ownT_len hM.row
  have CF := Lib.hid (refFirst_c B m n c ts ao w hM (by omega))
  have HM := Lib.hid hM
  clear hR hM
  go_enter Try.func23, Try.ntmps23
  go_wp2_with fail
  refine CF.out.mono ?_
  rintro e w1 ⟨⟨k, rfl, hF⟩, hb⟩
  have HB := Lib.hid hb
  have hM1 := HM.out.keep (tch_new hb) (fun h => h) (fun _ _ h => h)
  have q0 := hM1.c0
  clear hb CF
  by_cases q : k < 0
  · have HE : Hid (nextT ts = none) := Lib.hid (nextT_none.2 (fst_none hF hnl q))
    clear hF hM1
    go_wp2
    go_ret2
    exact ⟨by rw [HE.out]; rfl, HB.out⟩
  · obtain ⟨b, rfl⟩ : ∃ b : Nat, k = b := ⟨k.toNat, by omega⟩
    obtain ⟨hb, hm, hl⟩ := fst_mem hF hnl
    have HE := Lib.hid (next_is hm hl)
    obtain ⟨g, rfl, _, c0, c1⟩ := ownT_cell hM1.row hb
    obtain ⟨ta, hta⟩ : ∃ x, x = (ts.getD b tm0).1 := ⟨_, rfl⟩
    rw [← hta] at c1 HE
    have bb : (b : Int) < (n : Int) := by omega
    have b0 : (0 : Int) ≤ (b : Int) := by omega
    clear hF hM1 hm hl hta c0
    go_wp2
    go_ret2
    exact ⟨by rw [HE.out]; rfl, HB.out⟩
/-- What Due leaves. -/
def RwDue (w : World) (B : Nat) (F : Nat → Prop) (m : Nat) (now : Int) (ts : List Wy) (e : Ending) (w' : World) : Prop :=
  ∃ F2 a c, e = .returned (.slice a (dueT now ts).length c) ∧ w'.ownsRow w.heap.size 3 1 (.slice a (dueT now ts).length c) (dueT now ts).length (i64s (dueT now ts)) ∧ RwTo w B F m (leftT now ts) F2 w'
/-- What Due's rounds keep. -/
structure DuS (w : World) (B : Nat) (F : Nat → Prop) (m : Nat) (now : Int) (ts : List Wy) (wr : World) (us : List Wy) (o : List Int) (ov : Value) (N : Nat) (F2 : Nat → Prop) : Prop where
  st : RwTo w B F m us F2 wr
  key : KeyT us
  len : us.length ≤ ts.length
  out : wr.ownsRow w.heap.size 3 1 ov N (i64s o)
  due : o ++ dueT now us = dueT now ts
  left : leftT now us = leftT now ts
  sum : N + us.length = ts.length
  away : ∀ k, ov.ownBlock = some k → ¬ F2 k
  sub : ∀ u ∈ us, u ∈ ts
theorem DuS.start {w : World} {B m : Nat} {F : Nat → Prop} {now : Int} {ts : List Wy} (hR : RwS w B F m ts) (hk : KeyT ts) : DuS w B F m now ts w ts [] (.slice none 0 0) 0 F :=
  ⟨RwTo.same hR (Tch.refl _ _), hk, Nat.le_refl _, ⟨rfl, .inl ⟨rfl, rfl⟩⟩, rfl, rfl, by simp, (fun k hk => by cases hk), fun u hu => hu⟩
theorem cut_len {ts : List Wy} (hk : KeyT ts) {t : Wy} (ht : t ∈ ts) : (cutT t.2 ts).length + 1 = ts.length := by
  have := (cut_one hk ht).length_eq
  rw [List.length_cons] at this
  omega
theorem RwTo.far {T : Nat → Prop} {w w1 w2 : World} {B m : Nat} {F F2 : Nat → Prop} {us : List Wy} (h : RwTo w B F m us F2 w1) (ht : Tch T w1 w2) (h1 : ∀ k, T k → ¬ F2 k) (h2 : ∀ k, T k → w.heap.size ≤ k) : RwTo w B F m us F2 w2 :=
  ⟨h.1.keep ht (fun k hk hT => h1 k hT hk), h.2.1, h.2.2.trans' ht (fun k hk hT => absurd (h2 k hT) (by omega))⟩
theorem DuS.new {w w1 w2 : World} {B m N : Nat} {F F2 : Nat → Prop} {now : Int} {ts us : List Wy} {o : List Int} {ov : Value} (h : DuS w B F m now ts w1 us o ov N F2) (hb : Below w1.heap.size w1 w2) : DuS w B F m now ts w2 us o ov N F2 :=
  ⟨h.st.far (tch_new hb) (fun _ h => h.elim) (fun _ h => h.elim), h.key, h.len, owns_bel h.out hb, h.due, h.left, h.sum, h.away, h.sub⟩
theorem DuS.got {w wr : World} {B m N c : Nat} {F F2 : Nat → Prop} {now : Int} {ts us : List Wy} {o : List Int} {a : Option Addr} (h : DuS w B F m now ts wr us o (.slice a N c) N F2) (h1 : dueT now us = [] ∧ leftT now us = us) : RwDue w B F m now ts (.returned (.slice a N c)) wr := by
  have ho : o = dueT now ts := by rw [← h.due, h1.1, List.append_nil]
  have hl : (dueT now ts).length = N := by rw [← ho]; have := h.out.1; unfold i64s at this; simpa using this
  refine ⟨F2, a, c, by rw [hl], by rw [hl, ← ho]; exact h.out, ?_⟩
  rw [← h.left, h1.2]
  exact h.st
theorem DuS.step {w w1 w2 w3 w4 : World} {B m N : Nat} {F F2 F3 : Nat → Prop} {now : Int} {ts us : List Wy} {o : List Int} {ov v6 : Value} {t : Wy} (h : DuS w B F m now ts w1 us o ov N F2)
    (hT : Tch (fun k => ov.ownBlock = some k) w1 w2) (ho : w2.ownsRow w.heap.size 3 1 v6 (N + 1) (i64s o ++ [.int .i64 t.2])) (hv : v6.ownBlock = ov.ownBlock ∨ ∃ x, v6.ownBlock = some x ∧ w1.heap.size ≤ x)
    (hb : Below w2.heap.size w2 w3) (hC : RwTo w3 B F2 m (cutT t.2 us) F3 w4) (ht : t ∈ us) (hl : ∀ u ∈ us, leW t u) (hn : t.1 ≤ now) : DuS w B F m now ts w4 (cutT t.2 us) (o ++ [t.2]) v6 (N + 1) F3 := by
  have hF2 := h.st.1.blocks
  have h6 : ∀ k, v6.ownBlock = some k → ¬ F2 k ∧ k < w3.heap.size := fun k hk => by
    refine ⟨?_, Nat.lt_of_lt_of_le (ho.lt k hk).2 hb.size⟩
    rcases hv with hv | ⟨x, hx, hxs⟩
    · rw [hv] at hk; exact h.away k hk
    · rw [hx] at hk
      cases hk
      exact fun hf => by have := (hF2 k hf).2; omega
  have s2 := h.st.far hT (fun k hk => h.away k hk) (fun k hk => (h.out.lt k hk).1)
  have s3 := s2.far (tch_new hb) (fun _ h => h.elim) (fun _ h => h.elim)
  obtain ⟨d1, d2⟩ := due_step h.key ht hl hn
  have hcl := cut_len h.key ht
  refine ⟨s3.trans hC, h.key.cut _, by have := h.len; omega, ?_, ?_, by rw [d2]; exact h.left, by have := h.sum; omega, fun k hk hf => ?_, fun u hu => h.sub u (List.mem_filter.1 hu).1⟩
  · have h3 := hC.2.2.own (owns_bel ho hb) (fun g hg => (h6 g hg).1)
    rw [← i64s_app]
    exact h3
  · rw [← h.due, d1]
    simp
  · rcases hC.2.1 k hf with h7 | h7
    · exact (h6 k hk).1 h7
    · have := (h6 k hk).2; omega
theorem in_oneT (w : World) (x : Int) (hx : -9223372036854775808 ≤ x ∧ x < 9223372036854775808) : InI (w.alloc (.cells #[.int .i64 x] 3)) (some ⟨w.heap.size, 0, none⟩) 1 1 [x] :=
  own_inI (own_litI w [x] _ rfl 1 _ rfl (Nat.le_refl _) (by decide)) rfl (fun y hy => by rw [List.mem_singleton] at hy; rw [hy]; exact hx)
set_option maxRecDepth 100000 in
set_option maxHeartbeats 4000000 in
theorem refDue_c (B m : Nat) (F : Nat → Prop) (now : Int) (ts : List Wy) (w : World) (hR : RwS w B F m ts) (hB : B ≤ w.heap.size) (hk : KeyT ts) (hn : ts.length ≤ 1048576) (hf : fitI (ts.map (·.2))) :
    Calls Try.prog 21 #[.pointer (some ⟨m, 0, none⟩), .int .i64 now] w (RwDue w B F m now ts) := by
  obtain ⟨i0, hi0, hz0, hz1, hz2⟩ := info_parts infoNT
  have HB := Lib.hid hB
  have HN := Lib.hid hn
  have HF := Lib.hid hf
  have S0 : Hid (∃ (us : List Wy) (o : List Int) (F2 : Nat → Prop), us.length = ts.length ∧ DuS w B F m now ts w us o (.slice none 0 0) 0 F2) := Lib.hid ⟨ts, [], F, rfl, DuS.start hR hk⟩
  clear hR hB hk hn hf
  go_enter Try.func21, Try.ntmps21
  go_wp2
  go_loopg [5] ts.length (fun g ov wr => ∃ N : Nat, N ≤ 1048576 ∧ Hid (∃ (us : List Wy) (o : List Int) (F2 : Nat → Prop), us.length = g ∧ DuS w B F m now ts wr us o ov N F2))
  case atStart => exact ⟨0, by omega, S0⟩
  case round =>
    obtain ⟨N, hN, HS⟩ := hrel
    clear S0
    obtain ⟨us, o, F2, hg, hS⟩ := HS.out
    obtain ⟨ao, n, c, hM, hF2⟩ := hS.st.1.here
    have hnl := ownT_len hM.row
    have hn20 : n ≤ 1048576 := by
      have := hS.len
      have := HN.out
      omega
    have CF := Lib.hid (refFirst_c B m n c us ao wr hM (by omega))
    have HS2 := Lib.hid hS
    have HM := Lib.hid (And.intro hM hF2)
    clear hS hM hF2 HS
    go_wp2_with fail
    refine CF.out.mono ?_
    rintro e w1 ⟨⟨k, rfl, hF⟩, hb⟩
    have HB1 := Lib.hid hb
    have hM1 := HM.out.1.keep (tch_new hb) (fun h => h) (fun _ _ h => h)
    have q0 := hM1.c0
    clear hb CF
    have hS1 := HS2.out.new HB1.out
    obtain ⟨a5, c5, hv5⟩ := own_form hS1.out
    subst hv5
    have HS1 := Lib.hid hS1
    clear hS1 HS2
    by_cases q : k < 0
    · have hus := fst_none hF hnl q
      have HG := Lib.hid (HS1.out.got (by rw [hus]; exact ⟨rfl, rfl⟩))
      clear hF hM1 hus
      go_wp2
      go_ret
      exact HG.out
    · obtain ⟨b, rfl⟩ : ∃ b : Nat, k = b := ⟨k.toNat, by omega⟩
      obtain ⟨hbn, hm, hl⟩ := fst_mem hF hnl
      have HL := Lib.hid (And.intro hm hl)
      obtain ⟨g, rfl, _, c0, c1⟩ := ownT_cell hM1.row hbn
      have bb : (b : Int) < (n : Int) := by omega
      have b0 : (0 : Int) ≤ (b : Int) := by omega
      have hkf := HF.out (us.getD b tm0).2
      obtain ⟨t, ht⟩ : ∃ t, t = us.getD b tm0 := ⟨_, rfl⟩
      rw [← ht] at c0 c1 HL
      obtain ⟨ta, tk⟩ := t
      by_cases q2 : now < ta
      · have HG := Lib.hid (HS1.out.got (due_end (fun u hu => by
          have := HL.out.2 u hu
          unfold leW at this
          simp only at this
          omega)))
        clear hF hM1 hm hl ht c0 hkf
        go_wp2
        go_ret
        exact HG.out
      · have hx : -9223372036854775808 ≤ tk ∧ tk < 9223372036854775808 := HF.out tk (List.mem_map.2 ⟨(ta, tk), HS1.out.sub _ HL.out.1, rfl⟩)
        have hs1 := HS1.out.st.2.2.size
        have HO := Lib.hid HS1.out.out
        have HM1 := Lib.hid hM1
        have HX := Lib.hid hx
        clear hF hM1 hm hl ht hkf hx
        go_wp2_with (at_builtin; refine wpList_append_own_at _ rfl _ _ 35 rfl w.heap.size 3 i0 (.int .i64 0) 1 8 Try.underlying35 hi0 hz0 hz1 hz2 rfl (by decide) _ _ _ rfl (HO.out.alloc _) ⟨w1.heap.size, 0, none⟩ 1 1 [.int .i64 tk] rfl rfl (one_new w1 _ _) ?c1 ?c2 ?c3 ?c4 ?_)
        case c1 => intro u hu; simp at hu; subst hu; rfl
        case c2 => unfold maxLen; omega
        case c3 => omega
        case c4 => simp; omega
        intro v6 w2 ho2 hg2 _ hlie
        have hT2 : Tch (fun k => (Value.slice a5 N c5).ownBlock = some k) w1 w2 := ((tch_new (bl_al (Below.refl w1.heap.size w1) (.cells #[.int .i64 tk] 3))).mono (fun _ h => h.elim)).trans ((tch_grown hg2).mono (fun k hk => hk.symm))
        have hv : v6.ownBlock = (Value.slice a5 N c5).ownBlock ∨ ∃ x, v6.ownBlock = some x ∧ w1.heap.size ≤ x := hlie.imp (fun h => h) (fun h => ⟨_, h, by omega⟩)
        have hs2 := HS1.out.st.far hT2 (fun k hk => HS1.out.away k hk) (fun k hk => (HS1.out.out.lt k hk).1)
        have hgF : F2 g := (HM.out.2 g).2 (.inr rfl)
        have hmF : F2 m := (HM.out.2 m).2 (.inl rfl)
        have q2 := hT2.cell q0 (fun h => HS1.out.away _ h hmF)
        have d0 := hT2.cell c0 (fun h => HS1.out.away _ h hgF)
        obtain ⟨w3, hw3⟩ : ∃ w3, w3 = w2.alloc (.cells #[.int .i64 tk] 3) := ⟨_, rfl⟩
        have hb3 : Below w2.heap.size w2 w3 := by rw [hw3]; exact bl_al (Below.refl _ _) _
        have hI3 : InI w3 (some ⟨w2.heap.size, 0, none⟩) 1 1 [tk] := by rw [hw3]; exact in_oneT w2 tk HX.out
        have hs3 := hs2.far (tch_new hb3) (fun _ h => h.elim) (fun _ h => h.elim)
        have CC := Lib.hid (refCancel_c B m F2 us [tk] (some ⟨w2.heap.size, 0, none⟩) 1 1 w3 hs3.1 (by have := HB.out; have := hs3.2.2.size; omega) hI3 (fun b off e _ hb => by
          cases e
          have := (hs2.1.blocks _ hb).2
          omega) (by omega) (by omega))
        have HST := Lib.hid (fun (F3 : Nat → Prop) (w4 : World) (hC : RwTo w3 B F2 m (cutsT [tk] us) F3 w4) => DuS.step (t := (ta, tk)) (F3 := F3) (w4 := w4) HS1.out hT2 ho2 hv hb3 hC HL.out.1 HL.out.2 (by simp only; omega))
        have HW3 := Lib.hid hw3
        have hcl := cut_len HS1.out.key HL.out.1
        have HCL := Lib.hid hcl
        clear hT2 hv hs2 hgF hmF hb3 hI3 hs3 hw3 hcl ho2 hg2 hlie q0 c0 c1 HO HM1 HM HB1
        go_wp2_with fail
        rw [← HW3.out]
        refine CC.out.mono ?_
        rintro e w4 ⟨rfl, F3, hC⟩
        have HS4 := Lib.hid (HST.out F3 w4 hC)
        clear hC CC HST HW3
        go_wp2
        go_roundg (us.length - 1)
        case measure => have := HCL.out; omega
        case rel => exact ⟨N + 1, by have := HS4.out.sum; have := HN.out; omega, Lib.hid ⟨_, _, F3, by have := HCL.out; omega, HS4.out⟩⟩
end Go.Proofs.Ythoegmcdohppoaa
