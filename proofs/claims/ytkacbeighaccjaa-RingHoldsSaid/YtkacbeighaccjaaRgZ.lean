/- Contract of towpathlaw09.stays: it returns true. Conditions: the ends came in; the flow's addresses fit their kinds. -/
import Derived.Test.YtkacbeighaccjaaRhA
import Derived.Test.YtkacbeighaccjaaRow
import Derived.Deep.CutRange
import Derived.Deep.RegionLaw
namespace Go.Proofs.Ytkacbeighaccjaa
open Go Go.RowKit
set_option linter.unusedVariables false
set_option linter.unusedSimpArgs false

theorem cellsE_drop (es : List En) (j : Nat) : (cellsE es).drop (j * 3) = cellsE (es.drop j) := by
  induction es generalizing j with
  | nil => simp [cellsE]
  | cons e es ih =>
    cases j with
    | zero => simp [cellsE]
    | succ j =>
      have h1 : cellsE (e :: es) = e.cs ++ cellsE es := rfl
      rw [List.drop_succ_cons, h1, List.drop_append, List.drop_eq_nil_of_le (by simp [En.cs]; omega), List.nil_append, ← ih]
      congr 1
      simp [En.cs]
      omega
theorem inE_dropc {w : World} {b off n c : Nat} {es : List En} (h : InE w (some ⟨b, off, none⟩) n c es) (j : Nat) : ∀ ad, (if c = j then some (⟨b, off, none⟩ : Addr) else some ⟨b, off + j * 3, none⟩) = some ad → ∀ i u, (cellsE (es.drop j))[i]? = some u → w.cell? (ad.add i) = some u := fun ad e i u hu => by
  have hl := h.len
  have hr := h.room
  split at e
  · have : (es.drop j).length = 0 := by rw [List.length_drop]; omega
    rw [List.eq_nil_of_length_eq_zero this] at hu
    simp [cellsE] at hu
  · cases e
    rw [Go.WideShapes.add_plain, Nat.add_assoc]
    rw [← cellsE_drop, List.getElem?_drop] at hu
    rcases h.here with h0 | ⟨b', off', ha, hc⟩
    · rw [h0] at hu; simp [cellsE] at hu
    · cases ha
      exact hc _ _ hu
set_option maxRecDepth 100000 in
set_option maxHeartbeats 4000000 in
theorem stays_t (f : Fl) (es : List En) (out grow : Int) (a : Option Addr) (n c : Nat) (w : World) (hI : InE w a n c es) (hn : n ≤ 4611686018427387904) (hf : TyF f) (ho : I64 out) (hg : I64 grow) :
    Calls Try.prog 29 #[f.val, .slice a n c, .int .i64 out, .int .i64 grow] w fun e w' => e = .returned (.bool true) ∧ Below w.heap.size w w' := by
  obtain ⟨W, hW⟩ : ∃ W, W = w.alloc f.obj := ⟨_, rfl⟩
  have hFl : FlAt W w.heap.size f := by rw [hW]; exact flAt_new w f
  have hb : Below w.heap.size w W := by rw [hW]; exact bl_al (Below.refl _ _) _
  have hlt : w.heap.size < W.heap.size := by rw [hW]; simp
  have HI := Lib.hid (hI.below hb)
  obtain ⟨q, hq⟩ : ∃ q, q = w.heap.size := ⟨_, rfl⟩
  rw [← hq] at hFl hlt
  have HFl := Lib.hid (And.intro hFl (And.intro hlt hf))
  have HB := Lib.hid hb
  have HW := Lib.hid (And.intro hW hq)
  have HOG := Lib.hid (And.intro ho hg)
  have CA := Lib.hid (alive9_any W)
  clear hI hb hW hq hFl hlt hf ho hg
  go_enter Try.func29, Try.ntmps29
  go_upto_region 1 with fail
  rw [← HW.out.1, ← HW.out.2]
  go_wp2_with fail
  refine CA.out.mono ?_
  rintro e w1 ⟨rfl, hb⟩
  have HB1 := Lib.hid hb
  have HBE := Lib.hid (bl_tr HB.out hb)
  clear hb CA
  by_cases h0 : n = 0
  · subst h0
    go_wp2
    go_ret
    exact ⟨rfl, HBE.out⟩
  have z0 : ((n : Int) == 0) = false := by rw [beq_eq_false_iff_ne]; omega
  have z1 : ¬ n = 0 := h0
  by_cases h3 : 100 < n
  · have i3 : (100 : Int) < (n : Int) := by omega
    go_wp2
    go_ret
    exact ⟨rfl, HBE.out⟩
  have i3 : ¬ (100 : Int) < (n : Int) := by omega
  obtain ⟨zb, hzb⟩ : ∃ zb : Bool, zb = true ↔ OkE es := by
    by_cases h : OkE es
    · exact ⟨true, fun _ => h, fun _ => rfl⟩
    · exact ⟨false, fun h2 => by simp at h2, fun h2 => absurd h2 h⟩
  have CE := Lib.hid (refEnds_t es a n c w1 (HI.out.below HB1.out) (by omega) zb hzb)
  have HZB := Lib.hid hzb
  clear HBE hzb
  go_wp2_with fail
  refine CE.out.mono ?_
  rintro e w2 ⟨rfl, hb⟩
  have HB2 := Lib.hid (bl_tr HB1.out hb)
  clear hb CE HB1
  cases zb with
  | false =>
    have HBE := Lib.hid (bl_tr HB.out HB2.out)
    go_wp2
    go_ret
    exact ⟨rfl, HBE.out⟩
  | true =>
    have HOK := Lib.hid (HZB.out.1 rfl)
    obtain ⟨f0, f1, f2, f3, f4⟩ := flAt_cells (flAt_below HFl.out.1 HB2.out HFl.out.2.1)
    have CC := Lib.hid (rchoose_t f es a n c w2 (HI.out.below HB2.out) (by omega) HFl.out.2.2)
    unfold Fl.val at CC
    clear HZB
    go_wp2_with fail
    refine CC.out.mono ?_
    rintro e w3 ⟨k, hk, rfl, hb⟩
    have hk0 := chosen_pos hk (by have := HI.out.len; omega) (fun e he => (HOK.out.2.1 e he).2.2.1)
    obtain ⟨m, rfl, hm⟩ := chosen_some hk hk0
    have HM := Lib.hid hm
    have HB3 := Lib.hid (bl_tr HB2.out hb)
    have hE : eOf es (m : Int) = es.getD m en0 := by unfold eOf; rw [if_neg (by omega)]; rfl
    rw [hE, show decide ((0 : Int) ≤ (m : Int)) = true from decide_eq_true (by omega)]
    obtain ⟨E, hEE⟩ : ∃ E, E = es.getD m en0 := ⟨_, rfl⟩
    rw [← hEE]
    have HEq := Lib.hid hEE
    clear hb hk hk0 hm CC HB2 f0 f1 f2 f3 f4 hE hEE
    unfold En.val
    obtain ⟨Y, hY⟩ : ∃ Y, Y = w3.alloc (.cells #[.int .u32 E.dip, .int .i64 E.port, .int .i64 E.wt] tyE) := ⟨_, rfl⟩
    have hbY : Below w3.heap.size w3 Y := by rw [hY]; exact bl_al (Below.refl _ _) _
    have hEn : EnAt Y w3.heap.size E := by rw [hY]; exact EnAt.new w3 E
    obtain ⟨r, hr⟩ : ∃ r, r = w3.heap.size := ⟨_, rfl⟩
    rw [← hr] at hEn
    have HEn := Lib.hid hEn
    have HBY := Lib.hid (bl_tr HB3.out hbY)
    have HY := Lib.hid (And.intro hY hr)
    clear hbY hEn hY hr HB3
    go_upto_region 6 with fail
    rw [← HY.out.1, ← HY.out.2]
    clear HY
    -- the number of the end to be taken out
    obtain ⟨i, hin, hi⟩ := rem_at out (n := n) (by omega) (by omega)
    obtain ⟨b1, o1, rfl⟩ := HI.out.block (by omega)
    go_upto_region 9 with fail
    rw [hi]
    obtain ⟨j0, hj0, hy0, hy1, hy2⟩ := info_parts infoE
    have HIY := Lib.hid (HI.out.below HBY.out)
    have hnc : n ≤ c := HIY.out.room
    have i1 : (0 : Int) ≤ (i : Int) := by omega
    have i2 : (i : Int) ≤ (c : Int) := by omega
    have i4 : (i : Int) + 1 ≤ (n : Int) := by omega
    have i5 : (i : Int) + 1 ≤ (c : Int) := by omega
    have i6 : (0 : Int) ≤ (i : Int) + 1 := by omega
    have i7 : (n : Int) ≤ (c : Int) := by omega
    have vj : ∀ [Inhabited Nat], IntKind.i64.wrap ((i : Int) + 1) = (i : Int) + 1 := by intro _; exact IntWalk.i64_in _ (by omega)
    have HD : Hid (Below Y.heap.size Y (Y.alloc (.cells #[] tyE)).drew) := Lib.hid ((bl_al (Below.refl _ _) _).drew)
    have own0 := Lib.hid (World.ownsRow_made (base := Y.heap.size) (e := tyE) (size := 3) Y #[] 0 (Nat.le_refl _) (by decide) rfl)
    have HL1 : Hid ((cellsE (es.take i)).length = i * 3) := Lib.hid (by rw [cellsE_len, List.length_take]; have := HIY.out.len; omega)
    have HL2 : Hid ((cellsE (es.drop (i + 1))).length = (n - (i + 1)) * 3) := Lib.hid (by rw [cellsE_len, List.length_drop]; have := HIY.out.len; omega)
    have HC1 := Lib.hid (fun (U : World) (h : Below Y.heap.size Y U) => ((HIY.out.below h).take i (by omega)).cells)
    have HC3 := Lib.hid (fun (U : World) (h : Below Y.heap.size Y U) => inE_dropc (HIY.out.below h) (i + 1))
    have HNN : Hid ((if c = i + 1 then some (⟨b1, o1, none⟩ : Addr) else some ⟨b1, o1 + (i + 1) * 3, none⟩) = none → n - (i + 1) = 0 ∧ c - (i + 1) = 0) := Lib.hid (fun e => by split at e <;> cases e)
    clear hi
    go_region_law (first
      | (refine step_append_own_any rfl (.tmp 48) (.tmp 51) 48 rfl Y.heap.size tyE j0 en0.val 3 24 Try.underlying48 hj0 hy0 hy1 hy2 rfl (by decide) _ 0 [] rfl own0.out _ i _ (cellsE (es.take i)) rfl HL1.out (fun e => by cases e) (fun ad e t u hu => HC1.out _ HD.out ad e t u hu) (cellsE_one' _) (by unfold maxLen; omega) (by omega) (by simp) ?_; intro v7 w7 hown7 hg7; (try simp only [Nat.zero_add, List.nil_append] at hown7 ⊢); obtain ⟨a7, c7, rfl⟩ := own_form hown7; have hb7 := HD.out.grown hg7 (by simp) (fun k hk => by cases hk; exact Nat.le_refl _))
      | (refine step_append_own_any rfl (.tmp 52) (.tmp 56) 48 rfl Y.heap.size tyE j0 en0.val 3 24 Try.underlying48 hj0 hy0 hy1 hy2 rfl (by decide) _ i (cellsE (es.take i)) rfl hown7 _ (n - (i + 1)) _ (cellsE (es.drop (i + 1))) rfl HL2.out HNN.out (HC3.out _ hb7) (cellsE_one' _) (by unfold maxLen; omega) (by omega) (by have := hb7.size; simp; omega) ?_; intro v8 w8 hown8 hg8; obtain ⟨a8, c8, rfl⟩ := own_form hown8; have hb8 := hb7.grown hg8 hb7.size (fun k hk => (hown7.lt k hk).1))
      | fail)
    all_goals
      generalize (if c = i + 1 then (some ⟨b1, o1, none⟩ : Option Addr) else some ⟨b1, o1 + (i + 1) * 3, none⟩) = A56
      rw [← cellsE_app] at hown8
      obtain ⟨N1, hN1⟩ : ∃ N1, N1 = i + (n - (i + 1)) := ⟨_, rfl⟩
      rw [← hN1] at hown8 ⊢
      have HLt := Lib.hid (own_inE hown8 (cutE_typ HIY.out.typ))
      have HB8 := Lib.hid (bl_tr HBY.out hb8)
      have HN1 : Hid (N1 ≤ 100) := Lib.hid (by omega)
      have hFl8 := flAt_below HFl.out.1 HB8.out HFl.out.2.1
      have HEn8 := Lib.hid (HEn.out.below hb8)
      clear hown7 hg7 hb7 hown8 hg8 hb8 hN1 own0 HL1 HL2 HC1 HC3 HNN HD vj i2 i5 i6 i7 HIY HBY HEn
      obtain ⟨f0, f1, f2, f3, f4⟩ := flAt_cells hFl8
      have CC := Lib.hid (rchoose_t f (cutE es i) a8 N1 c8 w8 HLt.out (by have := HN1.out; omega) HFl.out.2.2)
      unfold Fl.val at CC
      clear hFl8
      go_wp2_with fail
      refine CC.out.mono ?_
      rintro e w9 ⟨k2, hk2, rfl, hb9⟩
      obtain ⟨G, hG⟩ : ∃ G, G = eOf (cutE es i) k2 := ⟨_, rfl⟩
      obtain ⟨zk, hzk⟩ : ∃ zk, zk = decide (0 ≤ k2) := ⟨_, rfl⟩
      rw [← hG, ← hzk]
      have HK2 := Lib.hid (And.intro hk2 (And.intro hG hzk))
      have HB9 := Lib.hid (bl_tr HB8.out hb9)
      have HEn9 := Lib.hid (HEn8.out.below hb9)
      clear hk2 hG hzk hb9 CC HB8 HEn8 f0 f1 f2 f3 f4 HLt HN1
      unfold En.val
      obtain ⟨Z, hZ⟩ : ∃ Z, Z = w9.alloc (.cells #[.int .u32 G.dip, .int .i64 G.port, .int .i64 G.wt] tyE) := ⟨_, rfl⟩
      have hbZ : Below w9.heap.size w9 Z := by rw [hZ]; exact bl_al (Below.refl _ _) _
      have hGn : EnAt Z w9.heap.size G := by rw [hZ]; exact EnAt.new w9 G
      obtain ⟨u, hu⟩ : ∃ u, u = w9.heap.size := ⟨_, rfl⟩
      rw [← hu] at hGn
      have HGn := Lib.hid hGn
      have HBZ := Lib.hid (bl_tr HB9.out hbZ)
      have HEnZ := Lib.hid (HEn9.out.below hbZ)
      have HZ := Lib.hid (And.intro hZ hu)
      clear hbZ hGn hZ hu HB9 HEn9
      go_upto_region 11 with fail
      rw [← HZ.out.1, ← HZ.out.2]
      clear HZ
      obtain ⟨g0, g1, g2⟩ := HGn.out
      obtain ⟨e0, e1, e2⟩ := HEnZ.out
      obtain ⟨l0, l1, l2⟩ := (HI.out.below HBZ.out).cell hin
      have i7 : (i : Int) < (n : Int) := by omega
      go_cut [78] from 64 to 78 (fun v wx => v = .bool false ∧ Hid (Below W.heap.size W wx) ∧ Hid (EnAt wx r E))
      case first =>
        by_cases q1 : i = m
        · subst q1
          rw [← HEq.out] at l0 l1 l2
          have hs := en_same E.dip E.port E.wt
          clear g0 g1 g2
          go_quiet (fail)
          go_wp2_with fail
          go_meet
          exact ⟨rfl, Lib.hid (below_drewN' HBZ.out nq), Lib.hid (HEnZ.out.below (below_drewN' (Below.refl _ _) nq))⟩
        · obtain ⟨hk0, hGE⟩ := stay_cut HM.out (by have := HI.out.len; omega) q1 HK2.out.1
          have hGE2 : G = E := by rw [HK2.out.2.1, hGE, HEq.out]
          have hzt : zk = true := by rw [HK2.out.2.2]; exact decide_eq_true hk0
          have hdd := dip_apart HOK.out.2.2 (i := i) (m := m) (by have := HI.out.len; omega) HM.out.1 q1
          rw [← HEq.out] at hdd
          obtain ⟨L, hL⟩ : ∃ L, L = es.getD i en0 := ⟨_, rfl⟩
          rw [← hL] at l0 l1 l2 hdd
          have hs1 := en_neq L.dip L.port L.wt E.dip E.port E.wt
          rw [show (!enB L.dip L.port L.wt E.dip E.port E.wt) = true by unfold enB; rw [decide_eq_false (fun h => hdd h.1)]; rfl] at hs1
          have hs := en_same E.dip E.port E.wt
          rw [hGE2] at g0 g1 g2
          subst hzt
          clear hk0 hGE hGE2 hdd hL q1
          go_quiet (fail)
          go_wp2_with fail
          go_meet
          exact ⟨rfl, Lib.hid (below_drewN' HBZ.out nq), Lib.hid (HEnZ.out.below (below_drewN' (Below.refl _ _) nq))⟩
      case rest =>
        obtain ⟨rfl, HBc, HEnc⟩ := hcut
        clear g0 g1 g2 e0 e1 e2 l0 l1 l2 HGn HBZ HEnZ HK2
        have HIc := Lib.hid (HI.out.below HBc.out)
        have HLc : Hid ((cellsE es).length = n * 3) := Lib.hid (by rw [cellsE_len, HI.out.len])
        have own0 := Lib.hid (World.ownsRow_made (base := wc.heap.size) (e := tyE) (size := 3) wc #[] 0 (Nat.le_refl _) (by decide) rfl)
        have HDc := Lib.hid (bl_al (Below.refl wc.heap.size wc) (.cells #[] tyE))
        go_wp2_with (at_builtin; refine append_any rfl (.tmp 79) (.tmp 80) 48 rfl wc.heap.size tyE j0 en0.val 3 24 Try.underlying48 hj0 hy0 hy1 hy2 rfl (by decide) _ 0 [] rfl own0.out (some ⟨b1, o1, none⟩) n c (cellsE es) rfl (fun e => by cases e) HLc.out (HIc.out.below HDc.out).cells (cellsE_one' _) ?c1 ?c2 ?c3 ?_)
        case c1 => unfold maxLen; omega
        case c2 => omega
        case c3 => simp
        intro v10 w10 ho10 hg10
        obtain ⟨g, cg, rfl, hgB⟩ := own_shape ho10 (by omega)
        have hb10 : Below wc.heap.size wc w10 := HDc.out.grown hg10 (by simp) (fun k hk => by cases hk; exact Nat.le_refl _)
        have HB10 := Lib.hid hb10
        obtain ⟨x, hx16, hx⟩ := rem_at grow (n := 16) (by omega) (by omega)
        rw [show ((16 : Nat) : Int) = 16 from rfl] at hx
        obtain ⟨wt, hwt⟩ : ∃ wt, wt = E.wt := ⟨_, rfl⟩
        have hGood := HOK.out.2.1 _ (memE (es := es) (i := m) HM.out.1)
        rw [← HEq.out] at hGood
        have hw1 : 1 ≤ wt ∧ wt ≤ 16 := by rw [hwt]; exact hGood.2.2
        obtain ⟨t, ht⟩ : ∃ t : Int, t = min 16 (wt + (x : Int)) := ⟨_, rfl⟩
        have ht1 : wt ≤ t ∧ t ≤ 16 := by omega
        have hmn : ∀ (ts : Array TypeId) (ty : TypeId) (V : World), (Builtin.min_ ts ty #[.int .i64 16, .int .i64 (wt + (x : Int))]).run Try.prog V = .ok (.int .i64 t) V := by
          intro ts ty V
          rw [run_min_int2]
          congr 2
          split <;> omega
        have HMN := Lib.hid hmn
        have HX := Lib.hid hx
        have HWT := Lib.hid (And.intro hwt (And.intro hw1 ht1))
        have HO0 : Hid (w10.ownsRow wc.heap.size tyE 3 (.slice (some ⟨g, 0, none⟩) n cg) n (cellsE (if 0 ≤ m then es else setE es m t))) := Lib.hid (by rw [if_pos (Nat.zero_le _)]; exact ho10)
        have HGB := Lib.hid hgB
        have hml := HM.out.1
        clear ho10 hg10 hb10 hgB hx ht hmn hGood own0 HDc HLc hwt ht1
        go_wp2
        go_loopw [84] (fun jv wr => ∃ j : Nat, j ≤ n ∧ jv = .int .i64 j ∧ Hid (wr.ownsRow wc.heap.size tyE 3 (.slice (some ⟨g, 0, none⟩) n cg) n (cellsE (if j ≤ m then es else setE es m t))) ∧ Hid (Below wc.heap.size wc wr)) (fun jv _ => n - (intOf jv).toNat)
        case atStart => exact ⟨0, by omega, rfl, HO0, HB10⟩
        case round =>
          obtain ⟨j, hj, rfl, HO, HBr⟩ := hrel
          obtain ⟨w11, rfl⟩ : ∃ v, v = wr := ⟨_, rfl⟩
          clear HO0 HB10
          have hlen := HI.out.len
          by_cases hlj : j < n
          · have jj : (j : Int) < (n : Int) := by omega
            have j0' : (0 : Int) ≤ (j : Int) := by omega
            obtain ⟨L, hL⟩ : ∃ L, L = (if j ≤ m then es else setE es m t) := ⟨_, rfl⟩
            have hLl : L.length = n := by rw [hL]; split <;> first | exact hlen | (rw [setE_len]; exact hlen)
            have hLt : ∀ e ∈ L, TyEn e := by
              rw [hL]
              split
              · exact HI.out.typ
              · exact setE_typ HI.out.typ (by have := HWT.out.2; omega) hml
            have hLj : L.getD j en0 = es.getD j en0 ∨ False := by
              left
              rw [hL]
              split
              · rfl
              · rw [setE_at hml, if_neg (by omega)]
            have hLj := hLj.resolve_right (fun h => h)
            rw [← hL] at HO
            have hIL := own_inE HO.out hLt
            obtain ⟨l0, l1, l2⟩ := hIL.cell (j := j) hlj
            rw [hLj, Nat.zero_add] at l0 l1 l2
            obtain ⟨e0, e1, e2⟩ := HEnc.out.below HBr.out
            rw [← HWT.out.1] at e2
            have fz := own_frozen HO.out (j * 3 + 2)
            by_cases q1 : j = m
            · subst q1
              rw [← HEq.out] at l0 l1 l2
              rw [← HWT.out.1] at l2
              have hLes : L = es := by rw [hL, if_pos (Nat.le_refl _)]
              have HO2 : Hid (∀ k, ((w11.drewN k).setCell ⟨g, j * 3 + 2, none⟩ (.int .i64 t)).ownsRow wc.heap.size tyE 3 (.slice (some ⟨g, 0, none⟩) n cg) n (cellsE (if j + 1 ≤ j then es else setE es j t))) := Lib.hid (fun k => by
                rw [if_neg (by omega)]
                have hk : (w11.drewN k).ownsRow wc.heap.size tyE 3 (.slice (some ⟨g, 0, none⟩) n cg) n (cellsE L) := HO.out
                have := own_putE hk hlj hLl t
                rwa [hLes] at this)
              have HB2 : Hid (∀ k, Below wc.heap.size wc ((w11.drewN k).setCell ⟨g, j * 3 + 2, none⟩ (.int .i64 t))) := Lib.hid (fun k => (below_drewN' HBr.out k).setCell (p := ⟨g, j * 3 + 2, none⟩) HGB.out _)
              have hs := en_eql E.dip E.port wt E.dip E.port wt
              rw [show enB E.dip E.port wt E.dip E.port wt = true by simp [enB]] at hs
              have hmn := HMN.out
              have hx : ∀ [Inhabited Nat], wrap64 ((IntKind.u64.wrap grow).tmod 16) = (x : Int) := by intro _; exact HX.out
              have hw1 := HWT.out.2.1
              clear hLes hLj hIL hLt hL hLl HO HBr
              go_wp2
              go_quiet (fail)
              go_wp2
              go_roundw
              case rel => exact ⟨j + 1, by omega, by go_num, HO2.out nq, HB2.out nq⟩
              case measure => simp [intOf]; omega
            · have hdd := dip_apart HOK.out.2.2 (i := j) (m := m) (by omega) hml q1
              rw [← HEq.out] at hdd
              obtain ⟨D, hD⟩ : ∃ D, D = es.getD j en0 := ⟨_, rfl⟩
              rw [← hD] at l0 l1 l2 hdd
              have hs := en_eql D.dip D.port D.wt E.dip E.port wt
              rw [show enB D.dip D.port D.wt E.dip E.port wt = false by unfold enB; exact decide_eq_false (fun h => hdd h.1)] at hs
              have HO2 : Hid (w11.ownsRow wc.heap.size tyE 3 (.slice (some ⟨g, 0, none⟩) n cg) n (cellsE (if j + 1 ≤ m then es else setE es m t))) := Lib.hid (by
                have h1 : (if j + 1 ≤ m then es else setE es m t) = L := by
                  rw [hL]
                  by_cases q2 : j ≤ m
                  · rw [if_pos q2, if_pos (by omega)]
                  · rw [if_neg q2, if_neg (by omega)]
                rw [h1]
                exact HO.out)
              clear hLj hIL hLt hL hLl HO hdd hD fz q1
              go_wp2
              go_quiet (fail)
              go_wp2
              go_roundw
              case rel => exact ⟨j + 1, by omega, by go_num, Lib.hid HO2.out, Lib.hid (below_drewN' HBr.out nq)⟩
              case measure => simp [intOf]; omega
          · obtain rfl : j = n := by omega
            have jj : ¬ (j : Int) < (j : Int) := by omega
            rw [if_neg (by omega)] at HO
            have HI11 := Lib.hid (own_inE HO.out (setE_typ HI.out.typ (by have := HWT.out.2; omega) hml))
            have HB11 := Lib.hid (HBc.out.trans (HBr.out.mono HBc.out.size))
            have HE11 := Lib.hid (HEnc.out.below HBr.out)
            have CC := Lib.hid (rchoose_t f (setE es m t) (some ⟨g, 0, none⟩) j cg w11 HI11.out (by omega) HFl.out.2.2)
            obtain ⟨f0, f1, f2, f3, f4⟩ := flAt_cells (flAt_below HFl.out.1 HB11.out HFl.out.2.1)
            unfold Fl.val at CC
            have HWle : Hid ((es.getD m en0).wt ≤ t) := Lib.hid (by rw [← HEq.out, ← HWT.out.1]; exact HWT.out.2.2.1)
            clear HO HBr HEnc HBc HI11
            go_wp2_with fail
            refine CC.out.mono ?_
            rintro e w12 ⟨k3, hk3, rfl, hb12⟩
            obtain ⟨hk30, hdip⟩ := stay_set HM.out HWle.out hk3
            rw [← HEq.out] at hdip
            obtain ⟨H, hH⟩ : ∃ H, H = eOf (setE es m t) k3 := ⟨_, rfl⟩
            rw [← hH] at hdip ⊢
            rw [show decide ((0 : Int) ≤ k3) = true from decide_eq_true hk30]
            have HE12 := Lib.hid (HE11.out.below hb12)
            have HB12 := Lib.hid (bl_tr HB11.out hb12)
            clear hk3 hb12 hk30 hH CC HB11 HE11 f0 f1 f2 f3 f4
            unfold En.val
            obtain ⟨V, hV⟩ : ∃ V, V = w12.alloc (.cells #[.int .u32 H.dip, .int .i64 H.port, .int .i64 H.wt] tyE) := ⟨_, rfl⟩
            have hbV : Below w12.heap.size w12 V := by rw [hV]; exact bl_al (Below.refl _ _) _
            have hHn : EnAt V w12.heap.size H := by rw [hV]; exact EnAt.new w12 H
            obtain ⟨u2, hu2⟩ : ∃ u, u = w12.heap.size := ⟨_, rfl⟩
            rw [← hu2] at hHn
            have HV := Lib.hid (And.intro hV hu2)
            have h0 := hHn.c0
            have e0 := (HE12.out.below hbV).c0
            rw [hdip] at h0
            have HBV := Lib.hid (bl_tr HB.out (bl_tr HB12.out hbV))
            clear hbV hHn hV hu2 HE12 HB12 hdip
            go_upto_region 21 with fail
            rw [← HV.out.1, ← HV.out.2]
            clear HV
            have hs : (E.dip == E.dip) = true := by simp
            go_wp2
            go_ret
            exact ⟨rfl, HBV.out⟩
end Go.Proofs.Ytkacbeighaccjaa
