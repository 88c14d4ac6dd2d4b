/- The document's without, unlike. Conditions: at most 2^26 pairs. -/
import Derived.Test.YtpbgccidhpfmgaaSnS
namespace Go.Proofs.Ytpbgccidhpfmgaa
open Go Go.RowKit Go.Maps
set_option linter.unusedVariables false
set_option linter.unusedSimpArgs false

/-- A row of pairs of the call's own, its bytes shared. -/
structure PsN (w : World) (N : Nat) (F : Nat → Prop) (B : Nat) (v : Value) (ps : List Pv) : Prop where
  row : w.ownsRow N tyP 2 v ps.length (cellsP ps)
  rows : ∀ x ∈ ps, RowF w F B x.2 x.1.b
theorem PsN.no {w : World} {N B : Nat} {F : Nat → Prop} {v : Value} {ps : List Pv} (h : PsN w N F B v ps) : ∀ g, v.ownBlock = some g → NoRow w g := fun g hg cs fr e => by
  rcases h.row.2 with ⟨rfl, _⟩ | ⟨g', cap, cur, rfl, _, h2, _⟩
  · cases hg
  · cases hg
    rw [h2] at e
    simp only [Option.some.injEq, Obj.cells.injEq] at e
    exact absurd e.2.1 (by decide)
theorem PsN.tch {T : Nat → Prop} {w w' : World} {N B : Nat} {F : Nat → Prop} {v : Value} {ps : List Pv} (h : PsN w N F B v ps) (ht : Tch T w w') (hn : ∀ g, v.ownBlock = some g → ¬ T g) (hr : ∀ k, T k → F k → NoRow w k) : PsN w' N F B v ps :=
  ⟨ht.own h.row hn, fun x hx => (h.rows x hx).tch ht hr⟩
theorem PsN.nil (w : World) {N B : Nat} {F : Nat → Prop} : PsN w N F B (.slice none 0 0) [] := ⟨⟨rfl, .inl ⟨rfl, rfl⟩⟩, by simp⟩
theorem PsN.app {w w' : World} {N B : Nat} {F : Nat → Prop} {v v' : Value} {ps : List Pv} (h : PsN w N F B v ps) {x : Pv} (hx : RowF w F B x.2 x.1.b) (ho : w'.ownsRow N tyP 2 v' (ps.length + 1) (cellsP ps ++ [sv x.1.k, x.2])) (hg : w.grownBy w' v.ownBlock) : PsN w' N F B v' (ps ++ [x]) := by
  have ht := tch_grown hg
  have hno : ∀ k, some k = v.ownBlock → F k → NoRow w k := fun k hk _ => h.no k hk.symm
  refine ⟨by rw [cellsP_app, List.length_append]; exact ho, fun y hy => ?_⟩
  rcases List.mem_append.1 hy with hy | hy
  · exact (h.rows y hy).tch ht hno
  · rw [List.mem_singleton] at hy
    subst hy
    exact hx.tch ht hno
theorem PsN.toV {w : World} {N B : Nat} {F : Nat → Prop} {v : Value} {ps : List Pv} (h : PsN w N F B v ps) (hB : B ≤ N) : PsV w (fun k => F k ∨ (N ≤ k ∧ k < w.heap.size)) B v ps :=
  ⟨own_base h.row hB, fun x hx => (h.rows x hx).mono (fun k hk => .inl hk), fun g hg => .inr (h.row.lt g hg)⟩
theorem take_snocV {ps : List Pv} {j : Nat} (hj : j < ps.length) : ps.take (j + 1) = ps.take j ++ [ps.getD j pv0] := by
  rw [List.take_succ_eq_append_getElem hj, List.getD_eq_getElem?_getD, List.getElem?_eq_getElem hj]
  rfl
def cutV (k : Ky) (ps : List Pv) : List Pv := ps.filter (fun x => !decide (x.1.k = k))
theorem cutV_map (k : Ky) (ps : List Pv) : (cutV k ps).map (·.1) = cutP k (ps.map (·.1)) := by
  unfold cutV cutP
  rw [List.filter_map]
  rfl
theorem cutV_sub (k : Ky) (ps : List Pv) : ∀ x ∈ cutV k ps, x ∈ ps := fun x hx => (List.mem_filter.1 hx).1
/-- What without answers. -/
def GotW (w : World) (F : Nat → Prop) (B : Nat) (l : List Pr) (e : Ending) (w' : World) : Prop :=
  ∃ ao c ps, e = .returned (.slice ao ps.length c) ∧ ps.map (·.1) = l ∧ PsN w' w.heap.size F B (.slice ao ps.length c) ps ∧ Below w.heap.size w w'
set_option maxRecDepth 100000 in
set_option maxHeartbeats 2000000 in
theorem rwithout_c (F : Nat → Prop) (B : Nat) (ao : Option Addr) (n c : Nat) (ps : List Pv) (k : Ky) (w : World) (h : PsV w F B (.slice ao n c) ps) (hn : ps.length ≤ 67108864) (hln : n = ps.length) :
    Calls Try.prog 73 #[.slice ao n c, sv k] w (GotW w F B (cutP k (ps.map (·.1)))) := by
  subst hln
  have H := Lib.hid h
  clear h
  obtain ⟨i0, hi0, hy0, hy1, hy2⟩ := info_parts infoP
  go_enter Try.func73, Try.ntmps73
  go_wp2
  go_loopw [5, 6] (fun v i wr => ∃ (j : Nat) (qs : List Pv), j ≤ ps.length ∧ i = .int .i64 j ∧ Hid (qs = cutV k (ps.take j)) ∧ Hid (PsN wr w.heap.size F B v qs) ∧ Hid (Below w.heap.size w wr)) (fun _ i _ => ps.length - (intOf i).toNat)
  case atStart => exact ⟨0, [], by omega, rfl, Lib.hid rfl, Lib.hid (PsN.nil w), Lib.hid (Below.refl _ _)⟩
  case round =>
    obtain ⟨j, qs, hj, rfl, HQ, HN, HB⟩ := hrel
    by_cases hlj : j < ps.length
    · have hP := H.out.tch (tch_new HB.out) (fun _ _ h => h) (fun _ h => h.elim)
      obtain ⟨g, a2, c2, e0, hcap, _, hc0, hc1, ev, hrow⟩ := hP.at hlj
      subst e0
      have hTS := take_snocV hlj
      obtain ⟨x, hx⟩ : ∃ x, x = ps.getD j pv0 := ⟨_, rfl⟩
      rw [← hx] at hc0 hc1 hrow ev hTS
      have ilj : (j : Int) < (ps.length : Int) := by omega
      have j0 : (0 : Int) ≤ (j : Int) := by omega
      have ilc : (ps.length : Int) ≤ (c : Int) := by omega
      have HX := Lib.hid (show x = (x.1, .slice a2 x.1.b.length c2) by rw [← ev])
      by_cases hk : x.1.k = k
      · have hq : (x.1.k == k) = true := by rw [hk]; exact beq_self_eq_true k
        have HQ2 : Hid (qs = cutV k (ps.take (j + 1))) := Lib.hid (by
          rw [hTS, HQ.out]
          unfold cutV
          rw [List.filter_append, List.filter_cons_of_neg (by simp [hk]), List.filter_nil, List.append_nil])
        clear hP hrow ev hTS hx hk
        go_wp2
        go_roundw
        case rel => exact ⟨j + 1, qs, by omega, by go_num, HQ2, HN, HB⟩
        case measure => simp [intOf]; omega
      · have hq : (x.1.k == k) = false := beq_eq_false_iff_ne.2 hk
        have HQ2 : Hid (qs ++ [x] = cutV k (ps.take (j + 1))) := Lib.hid (by
          rw [hTS, HQ.out]
          unfold cutV
          rw [List.filter_append, List.filter_cons_of_pos (by simp [hk]), List.filter_nil])
        have hql : qs.length ≤ ps.length := by rw [HQ.out]; exact Nat.le_trans (List.length_filter_le _ _) (by rw [List.length_take]; omega)
        have hal : Below wr.heap.size wr (wr.alloc (.cells #[sv x.1.k, .slice a2 x.1.b.length c2] tyP)) := bl_al (Below.refl _ _) _
        have HNA := Lib.hid (HN.out.tch (tch_new hal) (fun _ _ h => h) (fun _ h => h.elim))
        have HRA := Lib.hid (hrow.tch (tch_new hal) (fun _ h => h.elim))
        have HBA := Lib.hid (bl_tr HB.out hal)
        have HBS := Lib.hid (show w.heap.size ≤ (wr.alloc (.cells #[sv x.1.k, .slice a2 x.1.b.length c2] tyP)).heap.size from HBA.out.size)
        have HCP := Lib.hid (cells_pair wr (sv x.1.k) (.slice a2 x.1.b.length c2))
        clear hP hrow ev hTS hx hk hal HN HB
        go_wp2_with (at_builtin; refine append_any rfl _ _ 70 rfl w.heap.size tyP i0 (.agg #[.string ⟨#[]⟩, .slice none 0 0]) 2 40 Try.underlying70 hi0 hy0 hy1 hy2 rfl (by decide) _ qs.length (cellsP qs) rfl HNA.out.row (some ⟨wr.heap.size, 0, none⟩) 1 1 [sv x.1.k, .slice a2 x.1.b.length c2] rfl (fun e => by cases e) rfl HCP.out ?c1 ?c2 ?c3 HBS.out ?_)
        case c1 => first | exact ⟨rfl, rfl⟩ | (intro u hu; simp at hu; rcases hu with rfl | rfl <;> rfl)
        case c2 => unfold maxLen; omega
        case c3 => omega
        intro v' w2 ho hg
        have HN2 : Hid (PsN w2 w.heap.size F B v' (qs ++ [x])) := Lib.hid (by
          rw [HX.out]
          exact HNA.out.app (x := (x.1, .slice a2 x.1.b.length c2)) HRA.out ho hg)
        have HB2 := Lib.hid (HBA.out.grown hg HBA.out.size (fun k hk => (HNA.out.row.lt k hk).1))
        clear ho hg HNA HRA HBA HBS HCP HX
        go_wp2
        go_roundw
        case rel => exact ⟨j + 1, _, by omega, by go_num, HQ2, HN2, HB2⟩
        case measure => simp [intOf]; omega
    · have hjn : j = ps.length := by omega
      have HE : Hid (qs.map (·.1) = cutP k (ps.map (·.1))) := Lib.hid (by rw [HQ.out, List.take_of_length_le (by omega), cutV_map])
      have ilj : ¬ ((j : Int) < (ps.length : Int)) := by omega
      obtain ⟨av, cv, hav⟩ := own_form HN.out.row
      subst hav
      go_wp2
      go_ret
      exact ⟨av, cv, qs, rfl, HE.out, HN.out, HB.out⟩
theorem filter_step {α : Type} (f : α → Bool) (l : List α) (d : α) {j : Nat} (hj : j < l.length) : ((l.take (j + 1)).filter f).length = ((l.take j).filter f).length + (if f (l.getD j d) then 1 else 0) := by
  rw [List.take_succ_eq_append_getElem hj, List.filter_append, List.length_append, List.getD_eq_getElem?_getD, List.getElem?_eq_getElem hj]
  simp only [Option.getD_some]
  by_cases h : f l[j] = true
  · rw [if_pos h, List.filter_cons_of_pos h]; rfl
  · rw [if_neg h, List.filter_cons_of_neg h]; rfl
/-- What a place says. -/
theorem PlaceP.none' {k : Ky} {ps : List Pv} {z : Int} (h : PlaceP k ps z) (hz : z < 0) : findP k (ps.map (·.1)) = none := by
  rcases h with ⟨_, h⟩ | ⟨i, _, e, _⟩
  · exact findP_none.2 (fun e he => by obtain ⟨x, hx, rfl⟩ := List.mem_map.1 he; exact h x hx)
  · omega
theorem PlaceP.some' {k : Ky} {ps : List Pv} {z : Int} (h : PlaceP k ps z) (hs : SrtP (ps.map (·.1))) (hz : ¬ z < 0) : ∃ i : Nat, i < ps.length ∧ z = (i : Int) ∧ findP k (ps.map (·.1)) = some (ps.getD i pv0).1.b := by
  rcases h with ⟨e, _⟩ | ⟨i, hi, e, hk⟩
  · omega
  · refine ⟨i, hi, e, ?_⟩
    have hm : (ps.getD i pv0).1 ∈ ps.map (·.1) := List.mem_map.2 ⟨_, by rw [List.getD_eq_getElem?_getD, List.getElem?_eq_getElem hi]; exact List.getElem_mem hi, rfl⟩
    have := findP_of_mem hs hm
    rwa [hk] at this
set_option maxRecDepth 100000 in
set_option maxHeartbeats 4000000 in
theorem runlike_c (F : Nat → Prop) (B : Nat) (a1 a2 : Option Addr) (n1 c1 n2 c2 : Nat) (ps qs : List Pv) (w : World) (h1 : PsV w F B (.slice a1 n1 c1) ps) (h2 : PsV w F B (.slice a2 n2 c2) qs) (hn1 : ps.length ≤ 67108864) (hn2 : qs.length ≤ 67108864) (hl1 : n1 = ps.length) (hl2 : n2 = qs.length) (hs1 : SrtP (ps.map (·.1))) (hs2 : SrtP (qs.map (·.1))) :
    Calls Try.prog 78 #[.slice a1 n1 c1, .slice a2 n2 c2] w fun e w' => e = .returned (.int .i64 (unlikeP (ps.map (·.1)) (qs.map (·.1)) : Nat)) ∧ Tch Non w w' := by
  subst hl1
  subst hl2
  obtain ⟨l, hl⟩ : ∃ l, l = ps.map (·.1) := ⟨_, rfl⟩
  obtain ⟨m, hm⟩ : ∃ m, m = qs.map (·.1) := ⟨_, rfl⟩
  have hll : l.length = ps.length := by rw [hl, List.length_map]
  have hml : m.length = qs.length := by rw [hm, List.length_map]
  have H1 := Lib.hid h1
  have H2 := Lib.hid h2
  have HL := Lib.hid hl
  have HM := Lib.hid hm
  rw [← hl] at hs1 ⊢
  rw [← hm] at hs2 ⊢
  have HS := Lib.hid (And.intro hs1 hs2)
  obtain ⟨fA, hfA⟩ : ∃ f : Pr → Bool, f = fun e => decide (findP e.k m ≠ some e.b) := ⟨_, rfl⟩
  obtain ⟨fB, hfB⟩ : ∃ f : Pr → Bool, f = fun e => decide (findP e.k l = none) := ⟨_, rfl⟩
  have HFA := Lib.hid hfA
  have HFB := Lib.hid hfB
  clear h1 h2 hl hm hs1 hs2 hfA hfB
  go_enter Try.func78, Try.ntmps78
  go_wp2
  go_loopw [5, 6, 7] (fun t i _ wr => ∃ j t0 : Nat, j ≤ ps.length ∧ i = .int .i64 j ∧ t = .int .i64 t0 ∧ t0 ≤ j ∧ Hid (t0 = ((l.take j).filter fA).length) ∧ Hid (Tch Non w wr)) (fun _ i _ _ => ps.length - (intOf i).toNat)
  case atStart => exact ⟨0, 0, by omega, rfl, rfl, by omega, Lib.hid rfl, Lib.hid (Tch.refl _ _)⟩
  case round =>
    obtain ⟨j, t0, hj, rfl, rfl, htj, HT, HW⟩ := hrel
    by_cases hlj : j < ps.length
    · have hP := H1.out.tch HW.out (fun _ _ h => h) (fun _ h => h.elim)
      have hQ := H2.out.tch HW.out (fun _ _ h => h) (fun _ h => h.elim)
      obtain ⟨g, b2, d2, e0, hcap, _, hc0, hc1, _, hrow⟩ := hP.at hlj
      subst e0
      have hst := filter_step fA l pr0 (j := j) (by omega)
      rw [show l.getD j pr0 = (ps.getD j pv0).1 by rw [HL.out]; exact map_getD ps hlj] at hst
      obtain ⟨e, he⟩ : ∃ e, e = (ps.getD j pv0).1 := ⟨_, rfl⟩
      rw [← he] at hc0 hc1 hrow hst
      have CF := Lib.hid (rfind_c F B a2 qs.length c2 qs e.k wr hQ (by omega) rfl)
      have HQr := Lib.hid hQ
      have HRr := Lib.hid hrow
      have HST := Lib.hid hst
      have ilj : (j : Int) < (ps.length : Int) := by omega
      have j0 : (0 : Int) ≤ (j : Int) := by omega
      have ilc : (ps.length : Int) ≤ (c1 : Int) := by omega
      clear hP hQ hrow hst he
      go_wp2_with fail
      refine CF.out.mono ?_
      rintro e1 w2 ⟨⟨z, rfl, hz⟩, rfl⟩
      have hWn : ∀ n, Tch Non w (wr.drewN n) := fun n => HW.out.trans (tch_new (bl_dn (Below.refl wr.heap.size wr) n))
      by_cases hz0 : z < 0
      · have hfa : fA e = true := by rw [HFA.out]; have := hz.none' hz0; rw [← HM.out] at this; simp [this]
        have HT2 : Hid (t0 + 1 = ((l.take (j + 1)).filter fA).length) := Lib.hid (by rw [HST.out, if_pos hfa, HT.out])
        have HWN := Lib.hid hWn
        clear hz CF hWn hfa HST
        go_wp2_with fail
        go_quiet (fail)
        go_wp2
        go_roundw
        case rel => exact ⟨j + 1, t0 + 1, by omega, by go_num, by go_num, by omega, HT2, Lib.hid (HWN.out _)⟩
        case measure => simp [intOf]; omega
      · obtain ⟨i, hi, rfl, hf⟩ := hz.some' (by rw [← HM.out]; exact HS.out.2) hz0
        rw [← HM.out] at hf
        obtain ⟨g2, b3, d3, e3, hcap2, _, hd0, hd1, _, hrow2⟩ := HQr.out.at hi
        subst e3
        obtain ⟨x, hx⟩ : ∃ x, x = (qs.getD i pv0).1 := ⟨_, rfl⟩
        rw [← hx] at hd1 hrow2 hf
        have s1 : ∀ n, (convert 74 9 (.slice b2 e.b.length d2)).run Try.prog (wr.drewN n) = .ok (.string (strOfNums e.b)) (wr.drewN n) := fun n => str_of (w := wr.drewN n) (At.own (w := wr.drewN n) (B := B) HRr.out.1) rfl
        have s2 : ∀ n, (convert 74 9 (.slice b3 x.b.length d3)).run Try.prog (wr.drewN n) = .ok (.string (strOfNums x.b)) (wr.drewN n) := fun n => str_of (w := wr.drewN n) (At.own (w := wr.drewN n) (B := B) hrow2.1) rfl
        have hbb := bytes_beq hrow2.2.1 HRr.out.2.1
        have ii : (i : Int) < (qs.length : Int) := by omega
        have i0 : (0 : Int) ≤ (i : Int) := by omega
        have iic : (qs.length : Int) ≤ (c2 : Int) := by omega
        have HWN := Lib.hid hWn
        obtain ⟨S1, hS1⟩ : ∃ S, S = strOfNums e.b := ⟨_, rfl⟩
        obtain ⟨S2, hS2⟩ : ∃ S, S = strOfNums x.b := ⟨_, rfl⟩
        rw [← hS1] at s1 hbb
        rw [← hS2] at s2 hbb
        by_cases hxe : x.b = e.b
        · have hfa : fA e = false := by rw [HFA.out]; simp [hf, hxe]
          have HT2 : Hid (t0 = ((l.take (j + 1)).filter fA).length) := Lib.hid (by rw [HST.out, if_neg (by rw [hfa]; decide), HT.out]; rfl)
          rw [decide_eq_true hxe] at hbb
          clear hz CF hWn hfa HST hf hx hrow2 hxe hS1 hS2
          go_wp2_with fail
          go_quiet (fail)
          go_wp2
          go_roundw
          case rel => exact ⟨j + 1, t0, by omega, by go_num, rfl, by omega, HT2, Lib.hid (HWN.out _)⟩
          case measure => simp [intOf]; omega
        · have hfa : fA e = true := by rw [HFA.out]; simp [hf, hxe]
          have HT2 : Hid (t0 + 1 = ((l.take (j + 1)).filter fA).length) := Lib.hid (by rw [HST.out, if_pos hfa, HT.out])
          rw [decide_eq_false hxe] at hbb
          clear hz CF hWn hfa HST hf hx hrow2 hxe hS1 hS2
          go_wp2_with fail
          go_quiet (fail)
          go_wp2
          go_roundw
          case rel => exact ⟨j + 1, t0 + 1, by omega, by go_num, by go_num, by omega, HT2, Lib.hid (HWN.out _)⟩
          case measure => simp [intOf]; omega
    · have hjn : j = ps.length := by omega
      have HE : Hid (t0 = unA l m) := Lib.hid (by rw [HT.out, List.take_of_length_le (by omega), HFA.out]; rfl)
      have ht0 : t0 ≤ ps.length := by omega
      have ilj : ¬ ((j : Int) < (ps.length : Int)) := by omega
      clear HT
      go_wp2
      go_loopw [5, 8] (fun t i wx => ∃ j2 t2 : Nat, j2 ≤ qs.length ∧ i = .int .i64 j2 ∧ t = .int .i64 t2 ∧ t2 ≤ ps.length + j2 ∧ Hid (t2 = unA l m + ((m.take j2).filter fB).length) ∧ Hid (Tch Non w wx)) (fun _ i _ => qs.length - (intOf i).toNat)
      case atStart => exact ⟨0, t0, by omega, rfl, rfl, by omega, Lib.hid (by rw [HE.out]; rfl), HW⟩
      case round =>
        obtain ⟨j2, t2, hj2, rfl, rfl, htj2, HT, HW2⟩ := hrel
        by_cases hlj2 : j2 < qs.length
        · have hP := H1.out.tch HW2.out (fun _ _ h => h) (fun _ h => h.elim)
          have hQ := H2.out.tch HW2.out (fun _ _ h => h) (fun _ h => h.elim)
          obtain ⟨g, b2, d2, e0, hcap, _, hc0, _⟩ := hQ.at hlj2
          subst e0
          have hst := filter_step fB m pr0 (j := j2) (by omega)
          rw [show m.getD j2 pr0 = (qs.getD j2 pv0).1 by rw [HM.out]; exact map_getD qs hlj2] at hst
          obtain ⟨e, he⟩ : ∃ e, e = (qs.getD j2 pv0).1 := ⟨_, rfl⟩
          rw [← he] at hc0 hst
          have CF := Lib.hid (rfind_c F B a1 ps.length c1 ps e.k wr hP (by omega) rfl)
          have HST := Lib.hid hst
          have ilj2 : (j2 : Int) < (qs.length : Int) := by omega
          have j20 : (0 : Int) ≤ (j2 : Int) := by omega
          have ilc : (qs.length : Int) ≤ (c2 : Int) := by omega
          clear hP hQ hst he
          go_wp2_with fail
          refine CF.out.mono ?_
          rintro e1 w2 ⟨⟨z, rfl, hz⟩, rfl⟩
          by_cases hz0 : z < 0
          · have hfb : fB e = true := by rw [HFB.out]; have := hz.none' hz0; rw [← HL.out] at this; simp [this]
            have HT2 : Hid (t2 + 1 = unA l m + ((m.take (j2 + 1)).filter fB).length) := Lib.hid (by rw [HST.out, if_pos hfb, HT.out]; omega)
            clear hz CF hfb HST
            go_wp2
            go_roundw
            case rel => exact ⟨j2 + 1, t2 + 1, by omega, by go_num, by go_num, by omega, HT2, HW2⟩
            case measure => simp [intOf]; omega
          · have hfb : fB e = false := by
              rw [HFB.out]
              obtain ⟨i, hi, rfl, hf⟩ := hz.some' (by rw [← HL.out]; exact HS.out.1) hz0
              rw [← HL.out] at hf
              simp [hf]
            have HT2 : Hid (t2 = unA l m + ((m.take (j2 + 1)).filter fB).length) := Lib.hid (by rw [HST.out, if_neg (by rw [hfb]; decide), HT.out]; rfl)
            clear hz CF hfb HST
            go_wp2
            go_roundw
            case rel => exact ⟨j2 + 1, t2, by omega, by go_num, rfl, by omega, HT2, HW2⟩
            case measure => simp [intOf]; omega
        · have HE2 : Hid (t2 = unlikeP l m) := Lib.hid (by rw [HT.out, List.take_of_length_le (by omega), HFB.out]; rfl)
          have ilj2 : ¬ ((j2 : Int) < (qs.length : Int)) := by omega
          go_wp2
          go_ret
          exact ⟨by rw [HE2.out]; rfl, HW2.out⟩
end Go.Proofs.Ytpbgccidhpfmgaa
