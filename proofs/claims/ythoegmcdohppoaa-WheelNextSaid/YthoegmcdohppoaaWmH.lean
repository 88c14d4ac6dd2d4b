/- The program's wheel: Due. Conditions: as each states. -/
import Derived.Test.YthoegmcdohppoaaWmG
namespace Go.Proofs.Ythoegmcdohppoaa
open Go Go.RowKit Go.Maps Go.Shelf
set_option linter.unusedVariables false
set_option linter.unusedSimpArgs false

/-- No map: nothing is due. -/
theorem untilN_c (now : Int) (w : World) : Calls Try.prog 27 #[.int .i64 now, .map none] w fun e w' => e = .returned (.slice none 0 0) ∧ Below w.heap.size w w' := by
  have hrg := run_range_nilMap (P := Try.prog) w tyM tyI tyI Try.underlying59
  have hnx : ∀ ty, (Instr.next (.pointer (some ⟨w.heap.size, 0, none⟩)) false ty).run Try.prog (w.alloc (.mapIter none 0 #[] 0)) = _ := fun ty => run_next_nilMap w ty 0 0 #[]
  have HB := Lib.hid ((Below.refl w.heap.size w).alloc (Nat.le_refl _) (.mapIter none 0 #[] 0))
  have CS := Lib.hid (AnyF.slices_SortFunc_none { Try.sortP with } none 0 (.func (.func 30) #[] #[]) (w.alloc (.mapIter none 0 #[] 0)))
  go_enter Try.func27, Try.ntmps27
  go_wp2
  refine wp_loop_rounds 1 ?_
  rw [rounds_succ]
  go_wp2_with fail
  refine CS.out.mono ?_
  rintro e w4 ⟨rfl, rfl⟩
  go_wp2
  go_ret
  exact ⟨rfl, HB.out⟩
theorem cutsT_is : ∀ (ks : List Int) (ts : List Wy), cutsT ks ts = ts.filter (fun t => !ks.contains t.2)
  | [], ts => by
    show ts = _
    rw [List.filter_eq_self.2]
    intro t _
    rfl
  | k :: ks, ts => by
    have h1 := cutsT_is ks (cutT k ts)
    have h2 : cutsT (k :: ks) ts = cutsT ks (cutT k ts) := rfl
    rw [h2, h1]
    unfold cutT
    rw [List.filter_filter]
    apply List.filter_congr
    intro t _
    rw [List.contains_cons]
    simp only [bne, Bool.not_or, Bool.and_comm]
theorem due_is {now : Int} {ts S : List Wy} (hp : S.Perm (ts.filter (fun t => decide (t.1 ≤ now)))) (hs : S.Pairwise leW) : dueT now ts = S.map (·.2) := by
  unfold dueT
  congr 1
  exact sorted_one ((srtW_sorted ts).sublist List.filter_sublist) hs (((srtW_perm ts).filter _).trans hp.symm)
theorem left_is {now : Int} {ts S : List Wy} (hk : KeyT ts) (hp : S.Perm (ts.filter (fun t => decide (t.1 ≤ now)))) : cutsT (S.map (·.2)) ts = leftT now ts := by
  rw [cutsT_is]
  unfold leftT
  apply List.filter_congr
  intro t ht
  congr 1
  by_cases h : t.1 ≤ now
  · rw [decide_eq_true h]
    have : t ∈ S := hp.mem_iff.2 (List.mem_filter.2 ⟨ht, by simpa using h⟩)
    rw [List.contains_iff_mem]
    exact List.mem_map.2 ⟨t, this, rfl⟩
  · rw [decide_eq_false h]
    cases hc : (S.map (·.2)).contains t.2 with
    | false => rfl
    | true =>
      rw [List.contains_iff_mem] at hc
      obtain ⟨s, h1, h2⟩ := List.mem_map.1 hc
      have h3 := List.mem_filter.1 (hp.mem_iff.1 h1)
      rw [key_one hk h3.1 ht h2] at h3
      exact absurd (by simpa using h3.2) h
theorem infoN : (Try.prog.info? tyI).map (fun i => (i.zero, i.size, i.bytes)) = some (some (.int .i64 0), 1, 8) := by kernel_rfl
/-- A row of timers stays where a map is written. -/
theorem inP_map {w w' : World} {b : Nat} {a : Option Addr} {n : Nat} {S : List Wy} (h : InP w a n S) (hm : ∃ es clock, w.heap[b]? = some (.map es clock)) (ht : Tch (fun k => k = b ∨ w.heap.size ≤ k) w w') : InP w' a n S := by
  obtain ⟨es, clock, hm⟩ := hm
  have aw : ∀ (p : Addr) (v : Value), w.cell? p = some v → w'.cell? p = some v := by
    intro p v hc
    refine ht.cell hc ?_
    rintro (e | e)
    · rw [World.cell?, e, hm] at hc
      cases hc
    · have := block_lt_of_cell hc
      omega
  refine ⟨h.len, ?_⟩
  rcases h.here with h0 | ⟨g, off, ha, hc⟩
  · exact .inl h0
  · exact .inr ⟨g, off, ha, fun j hj => ⟨aw _ _ (hc j hj).1, aw _ _ (hc j hj).2⟩⟩
theorem take_snd (S : List Wy) {i : Nat} (h : i < S.length) : (S.take (i + 1)).map (·.2) = (S.take i).map (·.2) ++ [(S.getD i (0, 0)).2] := by
  rw [take_more S (0, 0) h, List.map_append]
  rfl
theorem cuts_snd (S : List Wy) (ts : List Wy) {i : Nat} (h : i < S.length) : cutsT ((S.take (i + 1)).map (·.2)) ts = cutT (S.getD i (0, 0)).2 (cutsT ((S.take i).map (·.2)) ts) := by
  rw [take_snd S h]
  unfold cutsT
  rw [List.foldl_append]
  rfl
theorem mem_getD {S : List Wy} {i : Nat} (h : i < S.length) : S.getD i (0, 0) ∈ S := by
  rw [List.getD_eq_getElem?_getD, List.getElem?_eq_getElem h]
  exact List.getElem_mem h
theorem timer_new (w : World) (y x : Int) : (w.alloc (.cells #[.int .i64 y, .int .i64 x] tyP)).cell? ⟨w.heap.size, 1, none⟩ = some (.int .i64 x) := by simp [go_sem]
set_option maxRecDepth 100000 in
set_option maxHeartbeats 1000000 in
theorem wdue_t (B p : Nat) (F : Nat → Prop) (ts : List Wy) (now : Int) (w : World) (h : WSt w B F p ts) (hB : B ≤ w.heap.size) (hn : ts.length ≤ 1048576) (hk : I64 now) :
    Calls Try.prog 20 #[.pointer (some ⟨p, 0, none⟩), .int .i64 now] w (WDue WSt w B F p now ts) := by
  obtain ⟨i0, hi0, hz0, hz1, hz2⟩ := info_parts infoN
  obtain ⟨b, hF, hc, hm⟩ := h.map
  have HH := Lib.hid (held_c p b w hc)
  have HC := Lib.hid (And.intro hc h)
  have HM := Lib.hid hm
  have CU := Lib.hid (until_c b now ts w hm h.key hn)
  have HFB := Lib.hid hF
  clear hm h hc hF hk
  go_enter Try.func20, Try.ntmps20
  go_wp2_with fail
  refine HH.out.mono ?_
  rintro e w1 ⟨rfl, rfl⟩
  clear HH
  go_wp2_with fail
  refine CU.out.mono ?_
  rintro e w2 ⟨a2, n, c2, S, rfl, hnc, hpl, hI, hP, hs, hb⟩
  have hlen := hI.len
  have HI := Lib.hid hI
  have HP := Lib.hid (And.intro hP hs)
  have HB := Lib.hid hb
  have hn2 : n ≤ 1048576 := by
    have := hP.length_eq
    have := List.length_filter_le (fun t : Wy => decide (t.1 ≤ now)) ts
    omega
  have HM2 : Hid (MapS w2 b (cutsT ((S.take 0).map (·.2)) ts)) := Lib.hid ((HM.out).block (hb.block b HM.out.lt))
  have HMB : Hid (∃ es clock, w2.heap[b]? = some (.map es clock)) := Lib.hid (by
    obtain ⟨D, ⟨es, clock, h1, _⟩, _⟩ := HM2.out
    exact ⟨es, clock, h1⟩)
  have HBL : Hid (b < w1.heap.size) := Lib.hid HM.out.lt
  have HSN : Hid (∀ i, i < n → I64 (S.getD i (0, 0)).2) := Lib.hid (fun i hi => by
    have h1 := (List.mem_filter.1 (hP.mem_iff.1 (mem_getD (S := S) (i := i) (by omega)))).1
    exact (HC.out.2.fit _ h1).2)
  have HKT : Hid (∀ i, KeyT (cutsT ((S.take i).map (·.2)) ts)) := Lib.hid (fun i => HC.out.2.key.cuts)
  have HO0 : Hid (w2.ownsRow w2.heap.size tyI 1 (.slice none 0 0) 0 (i64s ((S.take 0).map (·.2)))) := Lib.hid ⟨by simp [i64s], .inl ⟨rfl, rfl⟩⟩
  have HT0 : Hid (Tch (fun k => k = b ∨ w2.heap.size ≤ k) w2 w2) := Lib.hid (Tch.refl _ _)
  clear hI hP hs hb CU hpl
  go_wp2
  go_loopw [6, 15] (fun kv iv wr => ∃ i : Nat, i ≤ n ∧ iv = .int .i64 i ∧ Hid (wr.ownsRow w2.heap.size tyI 1 kv i (i64s ((S.take i).map (·.2)))) ∧ Hid (MapS wr b (cutsT ((S.take i).map (·.2)) ts)) ∧ Hid (Tch (fun k => k = b ∨ w2.heap.size ≤ k) w2 wr)) (fun _ iv _ => n - (intOf iv).toNat)
  case atStart => exact ⟨0, by omega, rfl, HO0, HM2, HT0⟩
  case round =>
    obtain ⟨i, hi, rfl, HO, HMi, HT⟩ := hrel
    obtain ⟨w3, rfl⟩ : ∃ v, v = wr := ⟨_, rfl⟩
    clear HO0 HM2 HT0
    by_cases hlt : i < n
    · have hI3 := inP_map HI.out HMB.out HT.out
      obtain ⟨g, off, rfl⟩ := hI3.block (by omega)
      have ii : (i : Int) < (n : Int) := by omega
      have i0' : (0 : Int) ≤ (i : Int) := by omega
      have hc3 := hI3.cell hlt
      have c0 := hc3.1
      have c1 := hc3.2
      have hx := HSN.out i hlt
      have HS1 := Lib.hid (take_snd S (i := i) (by omega))
      have HS2 := Lib.hid (cuts_snd S ts (i := i) (by omega))
      obtain ⟨D, hown, hmr⟩ := HMi.out
      have HMR := Lib.hid (hmr.cut (HKT.out i) (hown.tidy lawI) (S.getD i (0, 0)).2)
      obtain ⟨⟨y, x⟩, hyx⟩ : ∃ t, t = S.getD i (0, 0) := ⟨_, rfl⟩
      rw [← hyx] at c0 c1 hx HS1 HS2 HMR
      simp only at c0 c1 hx HS1 HS2 HMR
      have HKY := Lib.hid (keyI hx)
      have HSZ : Hid (w2.heap.size ≤ w3.heap.size) := Lib.hid HT.out.size
      have CT := Lib.hid (timer_new w3 y x)
      have hbl3 : b < w3.heap.size := hown.lt
      have HOB : Hid (∀ k, u6.ownBlock = some k → w2.heap.size ≤ k ∧ k ≠ b) := Lib.hid (fun k hk => by
        have h1 := own_block HO.out hk
        have h2 := HB.out.size
        have h3 := HBL.out
        exact ⟨h1, by omega⟩)
      have HO4 := Lib.hid (HO.out.alloc (.cells #[.int .i64 y, .int .i64 x] tyP))
      have HT4 : Hid (Tch (fun k => k = b ∨ w2.heap.size ≤ k) w2 (w3.alloc (.cells #[.int .i64 y, .int .i64 x] tyP))) := Lib.hid (HT.out.trans ((tch_new (bl_al (Below.refl w3.heap.size w3) _)).mono (fun _ h => h.elim)))
      have hown4 := hown.alloc (.cells #[.int .i64 y, .int .i64 x] tyP)
      clear hyx hmr hc3 hI3 hown HMi HO HT
      go_wp2_with (first
        | (at_delete; refine wpList_delete_own _ rfl _ _ tyM tyI rfl tyI lawI Try.underlying59 _ b _ D rfl hown4 _ _ rfl HKY.out ?_; intro w5 hown5 hturn5; have ct5 := (tch_turned hturn5).cell CT.out (by simp only; omega); have HO5 := Lib.hid ((tch_turned hturn5).own HO4.out (fun k hk e => (HOB.out k hk).2 e)); have HZ5 := Lib.hid (show w2.heap.size ≤ w5.heap.size by have h1 := (tch_turned hturn5).size; have h2 := HSZ.out; simp at h1; omega))
        | (at_builtin; refine wpList_append_own _ rfl _ _ 35 rfl w2.heap.size tyI i0 (.int .i64 0) 1 8 Try.underlying35 hi0 hz0 hz1 hz2 rfl (by decide) _ _ _ rfl (HO5.out.alloc _) ⟨w5.heap.size, 0, none⟩ 1 1 [.int .i64 x] rfl rfl (one_new w5 _ _) ?c1 ?c2 ?c3 ?c4 ?_)
        | go_in)
      case c1 => intro u hu; simp at hu; subst hu; rfl
      case c2 => unfold maxLen; omega
      case c3 => omega
      case c4 => have := HZ5.out; simp; omega
      intro v6 w6 ho6 hg6 _
      have hT5 := tch_turned hturn5
      have hT6 : Tch (fun k => k = b ∨ w2.heap.size ≤ k) w5 w6 := ((tch_new (bl_al (Below.refl w5.heap.size w5) (.cells #[.int .i64 x] 3))).mono (fun _ h => h.elim)).trans ((tch_grown hg6).mono (fun k hk => .inr (HOB.out k hk.symm).1))
      have HT6 : Hid (Tch (fun k => k = b ∨ w2.heap.size ≤ k) w2 w6) := Lib.hid ((HT4.out.trans (hT5.mono (fun k hk => .inl hk))).trans hT6)
      have hm5 : MapS w5 b (cutT x (cutsT ((S.take i).map (·.2)) ts)) := MapS.of hown5 HMR.out
      have hm6 : MapS w6 b (cutT x (cutsT ((S.take i).map (·.2)) ts)) := hm5.block (by
        have h1 : b < w5.heap.size := hown5.lt
        exact (hg6.block b (by simp; omega) (fun e => (HOB.out b e.symm).2 rfl)).trans ((MapKept.heap_alloc _ _).2 b h1))
      rw [← HS2.out] at hm6
      have HM6 := Lib.hid hm6
      have HO6 : Hid (w6.ownsRow w2.heap.size tyI 1 v6 (i + 1) (i64s ((S.take (i + 1)).map (·.2)))) := Lib.hid (by
        rw [HS1.out, ← i64s_app, List.map_take]
        exact ho6)
      clear hm6 hm5 hT6 hT5 ho6 hg6 hown5 hturn5 ct5 HO5 HO4 HT4 hown4 HMR HS1 HS2 c0 c1
      go_wp2
      go_roundw
      case rel => exact ⟨i + 1, by omega, by go_num, HO6, HM6, HT6⟩
      case measure => simp [intOf]; omega
    · have ii : ¬ (i : Int) < (n : Int) := by omega
      obtain rfl : i = n := by omega
      have he : S.take i = S := List.take_of_length_le (by omega)
      have hdu := due_is HP.out.1 HP.out.2
      have hle := left_is HC.out.2.key HP.out.1
      have hm3 := HMi.out
      have hkt := HKT.out i
      have ho3 := HO.out
      rw [he, hle] at hm3 hkt
      rw [he, ← hdu] at ho3
      have hdl : (dueT now ts).length = i := by rw [hdu, List.length_map, hlen]
      obtain ⟨ao, co, rfl⟩ := own_form ho3
      have HG : Hid (WDue WSt w1 B F p now ts (.returned (.slice ao i co)) w3) := Lib.hid (by
        have hFb : ∀ k, F k → B ≤ k ∧ k < w1.heap.size := HC.out.2.blocks
        have htw : Tch (· = b) w1 w3 := by
          refine ⟨HT.out.os.trans HB.out.os, HT.out.tape.trans HB.out.tape, HT.out.output.trans HB.out.output, Nat.le_trans HB.out.size HT.out.size, fun k hk hn => ?_⟩
          have h2 := HB.out.size
          exact (HT.out.block k (by omega) (fun e => by rcases e with e | e; exact hn e; omega)).trans (HB.out.block k hk)
        have hwt := HC.out.2.set HFB.out HC.out.1 HM.out htw hkt (fun t ht => HC.out.2.fit t (List.mem_filter.1 ht).1) hm3
        have hw3 : WSt w3 B F p (leftT now ts) := by
          refine ⟨hkt, fun t ht => HC.out.2.fit t (List.mem_filter.1 ht).1, HC.out.2.here, fun k hk => ⟨(hFb k hk).1, Nat.lt_of_lt_of_le (hFb k hk).2 htw.size⟩, b, HFB.out, htw.cell HC.out.1 (fun e => ?_), hm3⟩
          simp only at e
          have hcc := HC.out.1
          obtain ⟨D, ⟨es, clock, h1, _⟩, _⟩ := HM.out
          rw [e] at hcc
          simp [World.cell?, h1] at hcc
        refine ⟨F, ao, co, by rw [hdl], ?_, fun k hk hf => ?_, hw3, fun k hk => .inl hk, htw.mono (fun k hk => by subst hk; exact HFB.out)⟩
        · rw [hdl]
          exact own_base ho3 HB.out.size
        · rw [hdl] at hk
          have h1 := own_block ho3 hk
          have h2 := (hFb k hf).2
          have h3 := HB.out.size
          omega)
      clear he hdu hle hm3 hkt ho3 hdl HO HMi HT HKT HSN HMB HM HP HI HC
      go_wp2
      go_ret
      exact HG.out
theorem wdueN_t (now : Int) (w : World) : Calls Try.prog 20 #[.pointer none, .int .i64 now] w fun e w' => ∃ a c, e = .returned (.slice a 0 c) ∧ Below w.heap.size w w' := by
  have HH := Lib.hid (held_n w)
  have CU := Lib.hid (untilN_c now w)
  go_enter Try.func20, Try.ntmps20
  go_wp2_with fail
  refine HH.out.mono ?_
  rintro e w1 ⟨rfl, rfl⟩
  go_wp2_with fail
  refine CU.out.mono ?_
  rintro e w2 ⟨rfl, hb⟩
  have HB := Lib.hid hb
  clear hb
  go_wp2
  refine wp_loop_rounds 1 ?_
  rw [rounds_succ]
  go_wp2
  go_ret
  exact ⟨_, _, rfl, HB.out⟩
end Go.Proofs.Ythoegmcdohppoaa
