/- Contract of rewrite's with: a packet's bytes with another flow of its protocol; nil and 9, if the flow isn't in form. Conditions: the bytes are a packet's and came in. -/
import Derived.Test.YtfbmeoiaedlgoaaRwQ
import Derived.Deep.CutRange
namespace Go.Proofs.Ytfbmeoiaedlgoaa
open Go Go.RowKit
set_option linter.unusedVariables false
set_option linter.unusedSimpArgs false

theorem in_addr {w : World} {a : Option Addr} {n c : Nat} {l : List Int} (h : In w a n c l) (hn : 0 < n) : ∃ b off, a = some ⟨b, off, none⟩ := by
  obtain ⟨a', cap', e, hA⟩ := h.here
  simp only [Value.slice.injEq] at e
  obtain ⟨rfl, _, rfl⟩ := e
  rcases hA with h0 | ⟨b, off, e, _⟩
  · have := h.len; rw [h0] at this; simp at this; omega
  · exact ⟨b, off, e⟩
theorem inner_any (n K : Int) (h : (n = 17 ∧ K = 26) ∨ (n ≠ 17 ∧ K = 36)) (w : World) : Calls Try.prog 58 #[.int .i64 n] w fun e w' => e = .returned (.int .i64 K) ∧ w = w' := by
  rcases h with ⟨rfl, rfl⟩ | ⟨h, rfl⟩
  · go_enter Try.func58, Try.ntmps58
    go_wp2
    go_ret
    exact ⟨rfl, rfl⟩
  · have q : (n == 17) = false := by simp [h]
    clear h
    go_enter Try.func58, Try.ntmps58
    go_wp2
    go_ret
    exact ⟨rfl, rfl⟩
theorem FlAt.far {w w' : World} {q g : Nat} {f : Pk} (h : FlAt w q f) (hg : w.grownBy w' (some g)) (hne : q ≠ g) : FlAt w' q f := by
  have hn : ∀ o, some (⟨q, o, none⟩ : Addr).block ≠ some g := fun o e => hne (by simpa using e)
  exact ⟨hg.cell h.c0 (hn _), hg.cell h.c1 (hn _), hg.cell h.c2 (hn _), hg.cell h.c3 (hn _), hg.cell h.c4 (hn _)⟩
/-- What with holds: the flow's box, the row that is rewritten. -/
structure Rw (w : World) (B g cap N : Nat) (f : Pk) (L : List Int) (wx : World) : Prop where
  box : FlAt wx w.heap.size f
  own : Own wx B g cap N L
  below : Below w.heap.size w wx
  lt : w.heap.size < B
theorem Rw.step {w : World} {B g cap N : Nat} {f : Pk} {L L' : List Int} {wx wy : World} (h : Rw w B g cap N f L wx) (ho : Own wy B g cap N L') (hg : wx.grownBy wy (some g)) : Rw w B g cap N f L' wy :=
  have hB := h.own.2.2
  have hl := h.lt
  ⟨h.box.far hg (by omega), ho, h.below.grown hg h.below.size (fun k hk => by cases hk; omega), h.lt⟩
theorem Rw.alloc {w : World} {B g cap N : Nat} {f : Pk} {L : List Int} {wx : World} (h : Rw w B g cap N f L wx) (o : Obj) : Rw w B g cap N f L (wx.alloc o) :=
  h.step (h.own.alloc o) (World.grownBy_alloc _ _ _)
theorem Rw.glt {w : World} {B g cap N : Nat} {f : Pk} {L : List Int} {wx : World} (h : Rw w B g cap N f L wx) : g < wx.heap.size := (h.own.1.lt g rfl).2
theorem sums2 (X : World) (m : Nat) (K : Int) (hK : K = ((2 * (12 + m) : Nat) : Int)) (x : Nat) (hx : x = X.heap.size) : ∀ j J, [5, 12 + m][j]? = some J → (X.alloc (.cells #[.int .i64 10, .int .i64 K] 3)).cell? ⟨x, 0 + j, none⟩ = some (.int .i64 ((2 * J : Nat) : Int)) := by
  subst hK hx
  intro j J hj
  match j, hj with
  | 0, hj =>
    cases hj
    exact cells_new X [.int .i64 10, .int .i64 _] 3 (0, 0) 0 _ rfl
  | 1, hj =>
    cases hj
    exact cells_new X [.int .i64 10, .int .i64 _] 3 (0, 0) 1 _ rfl
theorem sums1 (X : World) (m : Nat) (K : Int) (hK : K = ((2 * (12 + m) : Nat) : Int)) (x : Nat) (hx : x = X.heap.size) : ∀ j J, [12 + m][j]? = some J → (X.alloc (.cells #[.int .i64 K] 3)).cell? ⟨x, 0 + j, none⟩ = some (.int .i64 ((2 * J : Nat) : Int)) := by
  subst hK hx
  intro j J hj
  match j, hj with
  | 0, hj =>
    cases hj
    exact cells_new X [.int .i64 _] 3 (0, 0) 0 _ rfl
theorem re_ok {p f : Pk} (h : Ok p) (hf : FlowOk f) : Ok (p.re f) := ⟨h.tos, h.id, h.ttl, h.proto, hf.2.1, hf.2.2, h.flags, h.win, h.udp, h.len⟩
theorem re_typed {p f : Pk} (t : Typed p) (h1 : 0 ≤ f.src ∧ f.src < 4294967296) (h2 : 0 ≤ f.dst ∧ f.dst < 4294967296) : Typed (p.re f) := ⟨h1, h2, t.seq, t.ack, t.data⟩

set_option maxRecDepth 100000 in
theorem rwith_no (f : Pk) (h : ¬ FlowOk f) (a : Option Addr) (n c : Nat) (w : World) :
    Calls Try.prog 43 #[.slice a n c, f.flow] w fun e w' => e = .returned (.tuple #[.slice none 0 0, errno 9]) ∧ Below w.heap.size w w' := by
  obtain ⟨W, hW⟩ : ∃ W, w.alloc f.fobj = W := ⟨_, rfl⟩
  have HF := Lib.hid (show FlAt W w.heap.size f by rw [← hW]; exact FlAt.new _ _)
  have HB := Lib.hid (show Below w.heap.size w W by rw [← hW]; exact bl_al (Below.refl _ _) _)
  have HW := Lib.hid hW
  have C := Lib.hid (fun W => flow_no f h W)
  clear hW h
  go_enter Try.func43, Try.ntmps43
  go_upto_region 1 with fail
  rw [HW.out]
  obtain ⟨f0, f1, f2, f3, f4⟩ := HF.out
  go_wp2_with fail
  refine (C.out W).mono ?_
  rintro e w1 ⟨rfl, hb⟩
  have HB1 := Lib.hid (bl_tr HB.out hb)
  clear hb
  go_wp2
  go_ret2
  exact ⟨rfl, HB1.out⟩

set_option maxRecDepth 100000 in
set_option maxHeartbeats 2000000 in
theorem rwith_A (p f : Pk) (h : Ok p) (t : Typed p) (hf : FlowOk f) (hp : f.proto = p.proto) (h1 : 0 ≤ f.src ∧ f.src < 4294967296) (h2 : 0 ≤ f.dst ∧ f.dst < 4294967296) (h17 : p.proto = 17) (hz : wordAt (rew (bts p) f (12 + mid p.proto)) (12 + mid p.proto) = 0) (a : Option Addr) (n c : Nat) (w : World) (hI : In w a n c (bts p)) :
    Calls Try.prog 43 #[.slice a n c, f.flow] w fun e w' => ∃ g cap, e = .returned (.tuple #[.slice (some ⟨g, 0, none⟩) n cap, .nilIface]) ∧ Own w' w.heap.size g cap n (bts (p.re f)) ∧ Below w.heap.size w w' := by
  have hnl : n = 20 + segLen p := by rw [← hI.len, bts_len]
  have hsl := h.len
  have hn0 : 28 ≤ n ∧ n ≤ 1500 := by
    have := (Is.of h t (b := bts p) rfl).1.size
    rw [hI.len] at this
    omega
  have hnm : 2 * (12 + mid p.proto) + 1 < n := by
    unfold mid
    split
    · omega
    · rename_i hne
      unfold segLen at hnl
      rw [if_neg hne] at hnl
      omega
  obtain ⟨K, hK, hK2⟩ : ∃ K : Int, K = ((2 * (12 + mid p.proto) : Nat) : Int) ∧ ((f.proto = 17 ∧ K = 26) ∨ (f.proto ≠ 17 ∧ K = 36)) := by
    refine ⟨_, rfl, ?_⟩
    unfold mid
    by_cases e : p.proto = 17
    · rw [if_pos e]; exact .inl ⟨by omega, rfl⟩
    · rw [if_neg e]; exact .inr ⟨by omega, rfl⟩
  obtain ⟨m, hm⟩ : ∃ m, m = mid p.proto := ⟨_, rfl⟩
  have hfb := fit_bts t.data
  have HRE : Hid (fin (rew (bts p) f (12 + m)) p.proto (12 + m) = bts (p.re f)) := Lib.hid (by rw [hm]; exact rew_is h t (re_ok h hf) (re_typed t h1 h2))
  rw [← hm] at hK hnm hz
  obtain ⟨l, hl⟩ : ∃ l, l = bts p := ⟨_, rfl⟩
  rw [← hl] at hfb HRE hI hz
  obtain ⟨W, hW⟩ : ∃ W, w.alloc f.fobj = W := ⟨_, rfl⟩
  have HF := Lib.hid (show FlAt W w.heap.size f by rw [← hW]; exact FlAt.new _ _)
  have HB := Lib.hid (show Below w.heap.size w W by rw [← hW]; exact bl_al (Below.refl _ _) _)
  have HW := Lib.hid hW
  have HI := Lib.hid hI
  have HFB := Lib.hid hfb
  have HK := Lib.hid hK
  have HNM := Lib.hid hnm
  have H1 := Lib.hid h1
  have H2 := Lib.hid h2
  have HS := Lib.hid hf.2.1
  have HD := Lib.hid hf.2.2
  have C := Lib.hid (fun W => flow_ok f hf W)
  have CI := Lib.hid (fun W => inner_any f.proto K hK2 W)
  have ks : IntKind.u16.wrap f.sp = f.sp := by rw [IntKind.wrap_u16]; have := hf.2.1; omega
  have kd : IntKind.u16.wrap f.dp = f.dp := by rw [IntKind.wrap_u16]; have := hf.2.2; omega
  have q17 : (f.proto == 17) = true := by simp [hp, h17]
  have HPP := Lib.hid hp
  obtain ⟨n0, n1⟩ := hn0
  have HAD : Hid (∃ ad, a = some ad) := Lib.hid (by
    obtain ⟨b, off, e⟩ := in_addr hI (by omega)
    exact ⟨_, e⟩)
  obtain ⟨ad, rfl⟩ := HAD.out
  have HZ := Lib.hid hz
  have HP17 := Lib.hid h17
  clear hz h17
  clear hI hW h t hf hp h1 h2 hnl hsl hnm hK hK2 hm hfb hl HAD
  go_enter Try.func43, Try.ntmps43
  go_upto_region 1 with fail
  rw [HW.out]
  obtain ⟨f0, f1, f2, f3, f4⟩ := HF.out
  go_wp2_with fail
  refine (C.out W).mono ?_
  rintro e w1 ⟨rfl, hb⟩
  have HB1 := Lib.hid (bl_tr HB.out hb)
  have HF1 := Lib.hid (HF.out.below hb (World.block_lt_of_cell? _ _ HF.out.c0))
  clear hb HB HF HW f0 f1 f2 f3 f4
  go_wp2_with fail
  refine (clone_any l ad n c w1 (HI.out.below HB1.out) (by omega)).mono ?_
  rintro e w2 ⟨ao, c2, rfl, hown, hb⟩
  obtain ⟨g, cap, hv, hgB⟩ := own_shape hown (by omega)
  rw [hv] at hown
  rw [hv]
  have HR2 : Hid (Rw w w1.heap.size g cap n f l w2) := Lib.hid ⟨HF1.out.below hb (World.block_lt_of_cell? _ _ HF1.out.c0), ⟨hown, HI.out.len, hgB⟩, bl_tr HB1.out hb, World.block_lt_of_cell? _ _ HF1.out.c0⟩
  clear hown hb hv hgB HB1 HF1 C
  obtain ⟨f0, f1, f2, f3, f4⟩ := HR2.out.box
  go_wp2_with fail
  refine (CI.out w2).mono ?_
  rintro e _ ⟨rfl, rfl⟩
  -- the source
  have CA := Lib.hid (changeAddr_any w1.heap.size g cap n 6 w2.heap.size 2 l 12 f.src [5, 12 + m] rfl H1.out (w2.alloc (.cells #[.int .i64 10, .int .i64 K] 3)) (HR2.out.alloc _).own HFB.out (by omega) (by omega) rfl (by omega) (by intro J hJ; have := HNM.out; simp at hJ; omega) (sums2 w2 m K HK.out _ rfl) (by have := HR2.out.glt; omega))
  go_wp2_with fail
  refine CA.out.mono ?_
  rintro e w3 ⟨rfl, ho, hg⟩
  have HR3 := Lib.hid ((HR2.out.alloc _).step ho hg)
  clear ho hg CA CI HR2 f0 f1 f2 f3 f4
  obtain ⟨f0, f1, f2, f3, f4⟩ := HR3.out.box
  have CA := Lib.hid (changeAddr_any w1.heap.size g cap n 8 w3.heap.size 2 _ 16 f.dst [5, 12 + m] rfl H2.out (w3.alloc (.cells #[.int .i64 10, .int .i64 K] 3)) (HR3.out.alloc _).own (fit_chg (fit_chg HFB.out _ _ _) _ _ _) (by omega) (by omega) rfl (by omega) (by intro J hJ; have := HNM.out; simp at hJ; omega) (sums2 w3 m K HK.out _ rfl) (by have := HR3.out.glt; omega))
  go_wp2_with fail
  refine CA.out.mono ?_
  rintro e w4 ⟨rfl, ho, hg⟩
  have HR4 := Lib.hid ((HR3.out.alloc _).step ho hg)
  clear ho hg CA HR3 f0 f1 f2 f3 f4
  obtain ⟨f0, f1, f2, f3, f4⟩ := HR4.out.box
  have CA := Lib.hid (change_any w1.heap.size g cap n 10 w4.heap.size 1 _ 20 f.sp [12 + m] rfl (by have := HS.out; unfold w16; omega) (w4.alloc (.cells #[.int .i64 K] 3)) (HR4.out.alloc _).own (fit_chg (fit_chg (fit_chg (fit_chg HFB.out _ _ _) _ _ _) _ _ _) _ _ _) (by omega) (by omega) rfl (by omega) (by intro J hJ; have := HNM.out; simp at hJ; omega) (sums1 w4 m K HK.out _ rfl) (by have := HR4.out.glt; omega))
  go_wp2_with fail
  refine CA.out.mono ?_
  rintro e w5 ⟨rfl, ho, hg⟩
  have HR5 := Lib.hid ((HR4.out.alloc _).step ho hg)
  clear ho hg CA HR4 f0 f1 f2 f3 f4
  obtain ⟨f0, f1, f2, f3, f4⟩ := HR5.out.box
  have CA := Lib.hid (change_any w1.heap.size g cap n 11 w5.heap.size 1 _ 22 f.dp [12 + m] rfl (by have := HD.out; unfold w16; omega) (w5.alloc (.cells #[.int .i64 K] 3)) (HR5.out.alloc _).own (fit_chg (fit_chg (fit_chg (fit_chg (fit_chg HFB.out _ _ _) _ _ _) _ _ _) _ _ _) _ _ _) (by omega) (by omega) rfl (by omega) (by intro J hJ; have := HNM.out; simp at hJ; omega) (sums1 w5 m K HK.out _ rfl) (by have := HR5.out.glt; omega))
  go_wp2_with fail
  refine CA.out.mono ?_
  rintro e w6 ⟨rfl, ho, hg⟩
  have HR6 : Hid (Rw w w1.heap.size g cap n f (rew l f (12 + m)) w6) := Lib.hid ((HR5.out.alloc _).step ho hg)
  have HFR : Hid (fit (rew l f (12 + m))) := Lib.hid (fit_chg (fit_chg (fit_chg (fit_chg (fit_chg (fit_chg HFB.out _ _ _) _ _ _) _ _ _) _ _ _) _ _ _) _ _ _)
  clear ho hg CA HR5 f0 f1 f2 f3 f4
  obtain ⟨f0, f1, f2, f3, f4⟩ := HR6.out.box
  obtain ⟨L, hL⟩ : ∃ L, L = rew l f (12 + m) := ⟨_, rfl⟩
  rw [← hL] at HR6 HFR HRE HZ
  clear hL
  have CW := Lib.hid (word_any w1.heap.size g cap n (12 + m) L K HK.out w6 HR6.out.own HFR.out HNM.out (by omega))
  rw [HZ.out] at CW
  go_wp2_with fail
  refine CW.out.mono ?_
  rintro e w7 ⟨rfl, k7, rfl⟩
  have HR7 := Lib.hid (HR6.out.step (HR6.out.own.drewN k7) (grown_drewN w6 k7 _))
  have CP := Lib.hid (rput_any w1.heap.size g cap n (12 + m) L K 65535 HK.out (by unfold w16; omega) (w6.drewN k7) HR7.out.own HNM.out (by omega))
  clear f0 f1 f2 f3 f4 CW
  go_wp2_with fail
  refine CP.out.mono ?_
  rintro e w8 ⟨rfl, ho, hg⟩
  have HR8 := Lib.hid (HR7.out.step ho hg)
  clear ho hg CP
  have HE : Hid (Own w8 w.heap.size g cap n (bts (p.re f))) := Lib.hid (by
    rw [← HRE.out]
    unfold fin
    rw [if_pos ⟨HP17.out, HZ.out⟩]
    exact ⟨own_base HR8.out.own.1 (Nat.le_of_lt HR6.out.lt), HR8.out.own.2.1, Nat.le_trans (Nat.le_of_lt HR6.out.lt) HR8.out.own.2.2⟩)
  go_wp2
  go_ret2
  exact ⟨g, cap, rfl, HE.out, HR8.out.below⟩

set_option maxRecDepth 100000 in
set_option maxHeartbeats 2000000 in
theorem rwith_B (p f : Pk) (h : Ok p) (t : Typed p) (hf : FlowOk f) (hp : f.proto = p.proto) (h1 : 0 ≤ f.src ∧ f.src < 4294967296) (h2 : 0 ≤ f.dst ∧ f.dst < 4294967296) (h17 : p.proto = 17) (hz : wordAt (rew (bts p) f (12 + mid p.proto)) (12 + mid p.proto) ≠ 0) (a : Option Addr) (n c : Nat) (w : World) (hI : In w a n c (bts p)) :
    Calls Try.prog 43 #[.slice a n c, f.flow] w fun e w' => ∃ g cap, e = .returned (.tuple #[.slice (some ⟨g, 0, none⟩) n cap, .nilIface]) ∧ Own w' w.heap.size g cap n (bts (p.re f)) ∧ Below w.heap.size w w' := by
  have hnl : n = 20 + segLen p := by rw [← hI.len, bts_len]
  have hsl := h.len
  have hn0 : 28 ≤ n ∧ n ≤ 1500 := by
    have := (Is.of h t (b := bts p) rfl).1.size
    rw [hI.len] at this
    omega
  have hnm : 2 * (12 + mid p.proto) + 1 < n := by
    unfold mid
    split
    · omega
    · rename_i hne
      unfold segLen at hnl
      rw [if_neg hne] at hnl
      omega
  obtain ⟨K, hK, hK2⟩ : ∃ K : Int, K = ((2 * (12 + mid p.proto) : Nat) : Int) ∧ ((f.proto = 17 ∧ K = 26) ∨ (f.proto ≠ 17 ∧ K = 36)) := by
    refine ⟨_, rfl, ?_⟩
    unfold mid
    by_cases e : p.proto = 17
    · rw [if_pos e]; exact .inl ⟨by omega, rfl⟩
    · rw [if_neg e]; exact .inr ⟨by omega, rfl⟩
  obtain ⟨m, hm⟩ : ∃ m, m = mid p.proto := ⟨_, rfl⟩
  have hfb := fit_bts t.data
  have HRE : Hid (fin (rew (bts p) f (12 + m)) p.proto (12 + m) = bts (p.re f)) := Lib.hid (by rw [hm]; exact rew_is h t (re_ok h hf) (re_typed t h1 h2))
  rw [← hm] at hK hnm hz
  obtain ⟨l, hl⟩ : ∃ l, l = bts p := ⟨_, rfl⟩
  rw [← hl] at hfb HRE hI hz
  obtain ⟨W, hW⟩ : ∃ W, w.alloc f.fobj = W := ⟨_, rfl⟩
  have HF := Lib.hid (show FlAt W w.heap.size f by rw [← hW]; exact FlAt.new _ _)
  have HB := Lib.hid (show Below w.heap.size w W by rw [← hW]; exact bl_al (Below.refl _ _) _)
  have HW := Lib.hid hW
  have HI := Lib.hid hI
  have HFB := Lib.hid hfb
  have HK := Lib.hid hK
  have HNM := Lib.hid hnm
  have H1 := Lib.hid h1
  have H2 := Lib.hid h2
  have HS := Lib.hid hf.2.1
  have HD := Lib.hid hf.2.2
  have C := Lib.hid (fun W => flow_ok f hf W)
  have CI := Lib.hid (fun W => inner_any f.proto K hK2 W)
  have ks : IntKind.u16.wrap f.sp = f.sp := by rw [IntKind.wrap_u16]; have := hf.2.1; omega
  have kd : IntKind.u16.wrap f.dp = f.dp := by rw [IntKind.wrap_u16]; have := hf.2.2; omega
  have q17 : (f.proto == 17) = true := by simp [hp, h17]
  have HPP := Lib.hid hp
  obtain ⟨n0, n1⟩ := hn0
  have HAD : Hid (∃ ad, a = some ad) := Lib.hid (by
    obtain ⟨b, off, e⟩ := in_addr hI (by omega)
    exact ⟨_, e⟩)
  obtain ⟨ad, rfl⟩ := HAD.out
  have HZ := Lib.hid hz
  have HP17 := Lib.hid h17
  clear hz h17
  clear hI hW h t hf hp h1 h2 hnl hsl hnm hK hK2 hm hfb hl HAD
  go_enter Try.func43, Try.ntmps43
  go_upto_region 1 with fail
  rw [HW.out]
  obtain ⟨f0, f1, f2, f3, f4⟩ := HF.out
  go_wp2_with fail
  refine (C.out W).mono ?_
  rintro e w1 ⟨rfl, hb⟩
  have HB1 := Lib.hid (bl_tr HB.out hb)
  have HF1 := Lib.hid (HF.out.below hb (World.block_lt_of_cell? _ _ HF.out.c0))
  clear hb HB HF HW f0 f1 f2 f3 f4
  go_wp2_with fail
  refine (clone_any l ad n c w1 (HI.out.below HB1.out) (by omega)).mono ?_
  rintro e w2 ⟨ao, c2, rfl, hown, hb⟩
  obtain ⟨g, cap, hv, hgB⟩ := own_shape hown (by omega)
  rw [hv] at hown
  rw [hv]
  have HR2 : Hid (Rw w w1.heap.size g cap n f l w2) := Lib.hid ⟨HF1.out.below hb (World.block_lt_of_cell? _ _ HF1.out.c0), ⟨hown, HI.out.len, hgB⟩, bl_tr HB1.out hb, World.block_lt_of_cell? _ _ HF1.out.c0⟩
  clear hown hb hv hgB HB1 HF1 C
  obtain ⟨f0, f1, f2, f3, f4⟩ := HR2.out.box
  go_wp2_with fail
  refine (CI.out w2).mono ?_
  rintro e _ ⟨rfl, rfl⟩
  -- the source
  have CA := Lib.hid (changeAddr_any w1.heap.size g cap n 6 w2.heap.size 2 l 12 f.src [5, 12 + m] rfl H1.out (w2.alloc (.cells #[.int .i64 10, .int .i64 K] 3)) (HR2.out.alloc _).own HFB.out (by omega) (by omega) rfl (by omega) (by intro J hJ; have := HNM.out; simp at hJ; omega) (sums2 w2 m K HK.out _ rfl) (by have := HR2.out.glt; omega))
  go_wp2_with fail
  refine CA.out.mono ?_
  rintro e w3 ⟨rfl, ho, hg⟩
  have HR3 := Lib.hid ((HR2.out.alloc _).step ho hg)
  clear ho hg CA CI HR2 f0 f1 f2 f3 f4
  obtain ⟨f0, f1, f2, f3, f4⟩ := HR3.out.box
  have CA := Lib.hid (changeAddr_any w1.heap.size g cap n 8 w3.heap.size 2 _ 16 f.dst [5, 12 + m] rfl H2.out (w3.alloc (.cells #[.int .i64 10, .int .i64 K] 3)) (HR3.out.alloc _).own (fit_chg (fit_chg HFB.out _ _ _) _ _ _) (by omega) (by omega) rfl (by omega) (by intro J hJ; have := HNM.out; simp at hJ; omega) (sums2 w3 m K HK.out _ rfl) (by have := HR3.out.glt; omega))
  go_wp2_with fail
  refine CA.out.mono ?_
  rintro e w4 ⟨rfl, ho, hg⟩
  have HR4 := Lib.hid ((HR3.out.alloc _).step ho hg)
  clear ho hg CA HR3 f0 f1 f2 f3 f4
  obtain ⟨f0, f1, f2, f3, f4⟩ := HR4.out.box
  have CA := Lib.hid (change_any w1.heap.size g cap n 10 w4.heap.size 1 _ 20 f.sp [12 + m] rfl (by have := HS.out; unfold w16; omega) (w4.alloc (.cells #[.int .i64 K] 3)) (HR4.out.alloc _).own (fit_chg (fit_chg (fit_chg (fit_chg HFB.out _ _ _) _ _ _) _ _ _) _ _ _) (by omega) (by omega) rfl (by omega) (by intro J hJ; have := HNM.out; simp at hJ; omega) (sums1 w4 m K HK.out _ rfl) (by have := HR4.out.glt; omega))
  go_wp2_with fail
  refine CA.out.mono ?_
  rintro e w5 ⟨rfl, ho, hg⟩
  have HR5 := Lib.hid ((HR4.out.alloc _).step ho hg)
  clear ho hg CA HR4 f0 f1 f2 f3 f4
  obtain ⟨f0, f1, f2, f3, f4⟩ := HR5.out.box
  have CA := Lib.hid (change_any w1.heap.size g cap n 11 w5.heap.size 1 _ 22 f.dp [12 + m] rfl (by have := HD.out; unfold w16; omega) (w5.alloc (.cells #[.int .i64 K] 3)) (HR5.out.alloc _).own (fit_chg (fit_chg (fit_chg (fit_chg (fit_chg HFB.out _ _ _) _ _ _) _ _ _) _ _ _) _ _ _) (by omega) (by omega) rfl (by omega) (by intro J hJ; have := HNM.out; simp at hJ; omega) (sums1 w5 m K HK.out _ rfl) (by have := HR5.out.glt; omega))
  go_wp2_with fail
  refine CA.out.mono ?_
  rintro e w6 ⟨rfl, ho, hg⟩
  have HR6 : Hid (Rw w w1.heap.size g cap n f (rew l f (12 + m)) w6) := Lib.hid ((HR5.out.alloc _).step ho hg)
  have HFR : Hid (fit (rew l f (12 + m))) := Lib.hid (fit_chg (fit_chg (fit_chg (fit_chg (fit_chg (fit_chg HFB.out _ _ _) _ _ _) _ _ _) _ _ _) _ _ _) _ _ _)
  clear ho hg CA HR5 f0 f1 f2 f3 f4
  obtain ⟨f0, f1, f2, f3, f4⟩ := HR6.out.box
  obtain ⟨L, hL⟩ : ∃ L, L = rew l f (12 + m) := ⟨_, rfl⟩
  rw [← hL] at HR6 HFR HRE HZ
  clear hL
  have CW := Lib.hid (word_any w1.heap.size g cap n (12 + m) L K HK.out w6 HR6.out.own HFR.out HNM.out (by omega))
  obtain ⟨z, hz⟩ : ∃ z, z = wordAt L (12 + m) := ⟨_, rfl⟩
  have qz : (z == 0) = false := by rw [hz]; simp [HZ.out]
  rw [← hz] at CW
  clear hz
  go_wp2_with fail
  refine CW.out.mono ?_
  rintro e w7 ⟨rfl, k7, rfl⟩
  have HR7 := Lib.hid (HR6.out.step (HR6.out.own.drewN k7) (grown_drewN w6 k7 _))
  clear f0 f1 f2 f3 f4 CW
  have HE : Hid (Own (w6.drewN k7) w.heap.size g cap n (bts (p.re f))) := Lib.hid (by
    rw [← HRE.out]
    unfold fin
    rw [if_neg (fun e => HZ.out e.2)]
    exact ⟨own_base HR7.out.own.1 (Nat.le_of_lt HR6.out.lt), HR7.out.own.2.1, Nat.le_trans (Nat.le_of_lt HR6.out.lt) HR7.out.own.2.2⟩)
  go_wp2
  go_ret2
  exact ⟨g, cap, rfl, HE.out, HR7.out.below⟩

set_option maxRecDepth 100000 in
set_option maxHeartbeats 2000000 in
theorem rwith_C (p f : Pk) (h : Ok p) (t : Typed p) (hf : FlowOk f) (hp : f.proto = p.proto) (h1 : 0 ≤ f.src ∧ f.src < 4294967296) (h2 : 0 ≤ f.dst ∧ f.dst < 4294967296) (h17 : p.proto ≠ 17) (a : Option Addr) (n c : Nat) (w : World) (hI : In w a n c (bts p)) :
    Calls Try.prog 43 #[.slice a n c, f.flow] w fun e w' => ∃ g cap, e = .returned (.tuple #[.slice (some ⟨g, 0, none⟩) n cap, .nilIface]) ∧ Own w' w.heap.size g cap n (bts (p.re f)) ∧ Below w.heap.size w w' := by
  have hnl : n = 20 + segLen p := by rw [← hI.len, bts_len]
  have hsl := h.len
  have hn0 : 28 ≤ n ∧ n ≤ 1500 := by
    have := (Is.of h t (b := bts p) rfl).1.size
    rw [hI.len] at this
    omega
  have hnm : 2 * (12 + mid p.proto) + 1 < n := by
    unfold mid
    split
    · omega
    · rename_i hne
      unfold segLen at hnl
      rw [if_neg hne] at hnl
      omega
  obtain ⟨K, hK, hK2⟩ : ∃ K : Int, K = ((2 * (12 + mid p.proto) : Nat) : Int) ∧ ((f.proto = 17 ∧ K = 26) ∨ (f.proto ≠ 17 ∧ K = 36)) := by
    refine ⟨_, rfl, ?_⟩
    unfold mid
    by_cases e : p.proto = 17
    · rw [if_pos e]; exact .inl ⟨by omega, rfl⟩
    · rw [if_neg e]; exact .inr ⟨by omega, rfl⟩
  obtain ⟨m, hm⟩ : ∃ m, m = mid p.proto := ⟨_, rfl⟩
  have hfb := fit_bts t.data
  have HRE : Hid (fin (rew (bts p) f (12 + m)) p.proto (12 + m) = bts (p.re f)) := Lib.hid (by rw [hm]; exact rew_is h t (re_ok h hf) (re_typed t h1 h2))
  rw [← hm] at hK hnm
  obtain ⟨l, hl⟩ : ∃ l, l = bts p := ⟨_, rfl⟩
  rw [← hl] at hfb HRE hI
  obtain ⟨W, hW⟩ : ∃ W, w.alloc f.fobj = W := ⟨_, rfl⟩
  have HF := Lib.hid (show FlAt W w.heap.size f by rw [← hW]; exact FlAt.new _ _)
  have HB := Lib.hid (show Below w.heap.size w W by rw [← hW]; exact bl_al (Below.refl _ _) _)
  have HW := Lib.hid hW
  have HI := Lib.hid hI
  have HFB := Lib.hid hfb
  have HK := Lib.hid hK
  have HNM := Lib.hid hnm
  have H1 := Lib.hid h1
  have H2 := Lib.hid h2
  have HS := Lib.hid hf.2.1
  have HD := Lib.hid hf.2.2
  have C := Lib.hid (fun W => flow_ok f hf W)
  have CI := Lib.hid (fun W => inner_any f.proto K hK2 W)
  have ks : IntKind.u16.wrap f.sp = f.sp := by rw [IntKind.wrap_u16]; have := hf.2.1; omega
  have kd : IntKind.u16.wrap f.dp = f.dp := by rw [IntKind.wrap_u16]; have := hf.2.2; omega
  have q17 : (f.proto == 17) = false := by simp [hp, h17]
  have HPP := Lib.hid hp
  obtain ⟨n0, n1⟩ := hn0
  have HAD : Hid (∃ ad, a = some ad) := Lib.hid (by
    obtain ⟨b, off, e⟩ := in_addr hI (by omega)
    exact ⟨_, e⟩)
  obtain ⟨ad, rfl⟩ := HAD.out
  have HP17 := Lib.hid h17
  clear h17
  clear hI hW h t hf hp h1 h2 hnl hsl hnm hK hK2 hm hfb hl HAD
  go_enter Try.func43, Try.ntmps43
  go_upto_region 1 with fail
  rw [HW.out]
  obtain ⟨f0, f1, f2, f3, f4⟩ := HF.out
  go_wp2_with fail
  refine (C.out W).mono ?_
  rintro e w1 ⟨rfl, hb⟩
  have HB1 := Lib.hid (bl_tr HB.out hb)
  have HF1 := Lib.hid (HF.out.below hb (World.block_lt_of_cell? _ _ HF.out.c0))
  clear hb HB HF HW f0 f1 f2 f3 f4
  go_wp2_with fail
  refine (clone_any l ad n c w1 (HI.out.below HB1.out) (by omega)).mono ?_
  rintro e w2 ⟨ao, c2, rfl, hown, hb⟩
  obtain ⟨g, cap, hv, hgB⟩ := own_shape hown (by omega)
  rw [hv] at hown
  rw [hv]
  have HR2 : Hid (Rw w w1.heap.size g cap n f l w2) := Lib.hid ⟨HF1.out.below hb (World.block_lt_of_cell? _ _ HF1.out.c0), ⟨hown, HI.out.len, hgB⟩, bl_tr HB1.out hb, World.block_lt_of_cell? _ _ HF1.out.c0⟩
  clear hown hb hv hgB HB1 HF1 C
  obtain ⟨f0, f1, f2, f3, f4⟩ := HR2.out.box
  go_wp2_with fail
  refine (CI.out w2).mono ?_
  rintro e _ ⟨rfl, rfl⟩
  -- the source
  have CA := Lib.hid (changeAddr_any w1.heap.size g cap n 6 w2.heap.size 2 l 12 f.src [5, 12 + m] rfl H1.out (w2.alloc (.cells #[.int .i64 10, .int .i64 K] 3)) (HR2.out.alloc _).own HFB.out (by omega) (by omega) rfl (by omega) (by intro J hJ; have := HNM.out; simp at hJ; omega) (sums2 w2 m K HK.out _ rfl) (by have := HR2.out.glt; omega))
  go_wp2_with fail
  refine CA.out.mono ?_
  rintro e w3 ⟨rfl, ho, hg⟩
  have HR3 := Lib.hid ((HR2.out.alloc _).step ho hg)
  clear ho hg CA CI HR2 f0 f1 f2 f3 f4
  obtain ⟨f0, f1, f2, f3, f4⟩ := HR3.out.box
  have CA := Lib.hid (changeAddr_any w1.heap.size g cap n 8 w3.heap.size 2 _ 16 f.dst [5, 12 + m] rfl H2.out (w3.alloc (.cells #[.int .i64 10, .int .i64 K] 3)) (HR3.out.alloc _).own (fit_chg (fit_chg HFB.out _ _ _) _ _ _) (by omega) (by omega) rfl (by omega) (by intro J hJ; have := HNM.out; simp at hJ; omega) (sums2 w3 m K HK.out _ rfl) (by have := HR3.out.glt; omega))
  go_wp2_with fail
  refine CA.out.mono ?_
  rintro e w4 ⟨rfl, ho, hg⟩
  have HR4 := Lib.hid ((HR3.out.alloc _).step ho hg)
  clear ho hg CA HR3 f0 f1 f2 f3 f4
  obtain ⟨f0, f1, f2, f3, f4⟩ := HR4.out.box
  have CA := Lib.hid (change_any w1.heap.size g cap n 10 w4.heap.size 1 _ 20 f.sp [12 + m] rfl (by have := HS.out; unfold w16; omega) (w4.alloc (.cells #[.int .i64 K] 3)) (HR4.out.alloc _).own (fit_chg (fit_chg (fit_chg (fit_chg HFB.out _ _ _) _ _ _) _ _ _) _ _ _) (by omega) (by omega) rfl (by omega) (by intro J hJ; have := HNM.out; simp at hJ; omega) (sums1 w4 m K HK.out _ rfl) (by have := HR4.out.glt; omega))
  go_wp2_with fail
  refine CA.out.mono ?_
  rintro e w5 ⟨rfl, ho, hg⟩
  have HR5 := Lib.hid ((HR4.out.alloc _).step ho hg)
  clear ho hg CA HR4 f0 f1 f2 f3 f4
  obtain ⟨f0, f1, f2, f3, f4⟩ := HR5.out.box
  have CA := Lib.hid (change_any w1.heap.size g cap n 11 w5.heap.size 1 _ 22 f.dp [12 + m] rfl (by have := HD.out; unfold w16; omega) (w5.alloc (.cells #[.int .i64 K] 3)) (HR5.out.alloc _).own (fit_chg (fit_chg (fit_chg (fit_chg (fit_chg HFB.out _ _ _) _ _ _) _ _ _) _ _ _) _ _ _) (by omega) (by omega) rfl (by omega) (by intro J hJ; have := HNM.out; simp at hJ; omega) (sums1 w5 m K HK.out _ rfl) (by have := HR5.out.glt; omega))
  go_wp2_with fail
  refine CA.out.mono ?_
  rintro e w6 ⟨rfl, ho, hg⟩
  have HR6 : Hid (Rw w w1.heap.size g cap n f (rew l f (12 + m)) w6) := Lib.hid ((HR5.out.alloc _).step ho hg)
  have HFR : Hid (fit (rew l f (12 + m))) := Lib.hid (fit_chg (fit_chg (fit_chg (fit_chg (fit_chg (fit_chg HFB.out _ _ _) _ _ _) _ _ _) _ _ _) _ _ _) _ _ _)
  clear ho hg CA HR5 f0 f1 f2 f3 f4
  obtain ⟨f0, f1, f2, f3, f4⟩ := HR6.out.box
  obtain ⟨L, hL⟩ : ∃ L, L = rew l f (12 + m) := ⟨_, rfl⟩
  rw [← hL] at HR6 HFR HRE
  clear hL
  have HE : Hid (Own w6 w.heap.size g cap n (bts (p.re f))) := Lib.hid (by
    rw [← HRE.out]
    unfold fin
    rw [if_neg (fun e => HP17.out e.1)]
    exact ⟨own_base HR6.out.own.1 (Nat.le_of_lt HR6.out.lt), HR6.out.own.2.1, Nat.le_trans (Nat.le_of_lt HR6.out.lt) HR6.out.own.2.2⟩)
  go_wp2
  go_ret2
  exact ⟨g, cap, rfl, HE.out, HR6.out.below⟩

theorem rwith_yes (p f : Pk) (h : Ok p) (t : Typed p) (hf : FlowOk f) (hp : f.proto = p.proto) (h1 : 0 ≤ f.src ∧ f.src < 4294967296) (h2 : 0 ≤ f.dst ∧ f.dst < 4294967296) (a : Option Addr) (n c : Nat) (w : World) (hI : In w a n c (bts p)) :
    Calls Try.prog 43 #[.slice a n c, f.flow] w fun e w' => ∃ g cap, e = .returned (.tuple #[.slice (some ⟨g, 0, none⟩) n cap, .nilIface]) ∧ Own w' w.heap.size g cap n (bts (p.re f)) ∧ Below w.heap.size w w' := by
  by_cases h17 : p.proto = 17
  · by_cases hz : wordAt (rew (bts p) f (12 + mid p.proto)) (12 + mid p.proto) = 0
    · exact rwith_A p f h t hf hp h1 h2 h17 hz a n c w hI
    · exact rwith_B p f h t hf hp h1 h2 h17 hz a n c w hI
  · exact rwith_C p f h t hf hp h1 h2 h17 a n c w hI
end Go.Proofs.Ytfbmeoiaedlgoaa
