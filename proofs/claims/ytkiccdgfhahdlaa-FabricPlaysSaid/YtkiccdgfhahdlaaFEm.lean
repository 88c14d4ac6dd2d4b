/- The walk of FabricEmpties over the contracts of the fabric. No conditions but those stated. -/
import Derived.Test.YtkiccdgfhahdlaaFFi
import Derived.Test.YtkiccdgfhahdlaaRsA
import Derived.Deep.QuietTactic
import Derived.BigQuiet
namespace Go.Proofs.Ytkiccdgfhahdlaa
open Go Go.RowKit
set_option linter.unusedVariables false
set_option linter.unusedSimpArgs false

/-- Letters of rows, numbered from k + 1 on. -/
def mkL (frm dst : Int) : Nat → List (List Int) → List Lt
  | _, [] => []
  | k, p :: ps => ⟨(k : Int) + 1, frm, dst, true, p⟩ :: mkL frm dst (k + 1) ps
theorem mkL_len (frm dst : Int) : ∀ (k : Nat) (ps : List (List Int)), (mkL frm dst k ps).length = ps.length
  | _, [] => rfl
  | k, p :: ps => by simp [mkL, mkL_len frm dst (k + 1) ps]
theorem mkL_app (frm dst : Int) (p : List Int) : ∀ (k : Nat) (ps : List (List Int)), mkL frm dst k (ps ++ [p]) = mkL frm dst k ps ++ [⟨((k + ps.length : Nat) : Int) + 1, frm, dst, true, p⟩]
  | k, [] => by simp [mkL]
  | k, q :: ps => by
    simp only [List.cons_append, mkL, mkL_app frm dst p (k + 1) ps, List.length_cons]
    congr 3
    simp only [Lt.mk.injEq, and_true]
    omega
theorem mkL_mem (frm dst : Int) : ∀ {k : Nat} {ps : List (List Int)} {x : Lt}, x ∈ mkL frm dst k ps → x.frm = frm ∧ x.dst = dst ∧ x.bs ∈ ps
  | k, [], x, h => by simp [mkL] at h
  | k, p :: ps, x, h => by
    simp only [mkL, List.mem_cons] at h
    rcases h with rfl | h
    · exact ⟨rfl, rfl, List.mem_cons_self⟩
    · obtain ⟨h1, h2, h3⟩ := mkL_mem frm dst h
      exact ⟨h1, h2, List.mem_cons_of_mem _ h3⟩
theorem mkL_btw (frm dst : Int) : ∀ (k : Nat) (ps : List (List Int)), (btw (mkL frm dst k ps) frm dst).length = ps.length := fun k ps => by
  unfold btw
  rw [List.filter_eq_self.2 (fun x hx => decide_eq_true (by obtain ⟨h1, h2, _⟩ := mkL_mem frm dst hx; exact ⟨h1, h2⟩)), List.length_map, mkL_len]
/-- Behind j rows sent, or taken. -/
structure EmI (w0 w : World) (f : Nat) (ls : List Lt) (last : Nat) : Prop where
  st : ∃ F, FSt w w0.heap.size F f ls last
  bel : Below w0.heap.size w0 w
theorem mkL_take (frm dst : Int) {ps : List (List Int)} {j : Nat} (h : j < ps.length) : mkL frm dst 0 (ps.take (j + 1)) = mkL frm dst 0 (ps.take j) ++ [⟨(j : Int) + 1, frm, dst, true, ps.getD j []⟩] := by
  rw [take_moreL ps [] h, mkL_app, List.length_take, show 0 + min j ps.length = j by omega]
theorem mkL_head (frm dst : Int) {ps : List (List Int)} {j : Nat} (h : j < ps.length) : mkL frm dst j (ps.drop j) = ⟨(j : Int) + 1, frm, dst, true, ps.getD j []⟩ :: mkL frm dst (j + 1) (ps.drop (j + 1)) := by
  rw [drop_head ps [] h]
  rfl
theorem plc_zero (c : Nat) : plc 0 c = 0 := by simp [plc]
theorem nthR_zero (x : Lt) (t : List Lt) : nthR (x :: t) 0 = (x, 0) := by
  unfold nthR
  rw [if_neg (by simp), plc_zero]
  rfl
theorem leftR_zero (x : Lt) (t : List Lt) : leftR (x :: t) 0 = t := by
  unfold leftR
  rw [plc_zero]
  rfl
theorem neq_n12 (w : World) : (binOp .eql 36 .nilIface (errnoF 12)).run Try.prog w = .ok (.bool false) w := by kernel_rfl
theorem eq_12 (w : World) : (binOp .eql 36 (errnoF 12) (errnoF 12)).run Try.prog w = .ok (.bool true) w := by kernel_rfl
set_option maxRecDepth 100000 in
set_option maxHeartbeats 4000000 in
theorem empties_t (frm dst : Int) (hf : I64 frm) (hd : I64 dst) (a : Option Addr) (n c : Nat) (us : List Value) (ps : List (List Int)) (w : World) (hI : RsIn w a n c us ps) (hn : n ≤ 4611686018427387904) (hl : ∀ p ∈ ps, p.length ≤ 4611686018427387904) :
    Calls Try.prog 6 #[.slice a n c, .int .i64 frm, .int .i64 dst] w fun e w' => e = .returned (.bool true) ∧ Below w.heap.size w w' := by
  have CA := Lib.hid (alive8_any w)
  have HFR := Lib.hid hf
  have HDS := Lib.hid hd
  have HI := Lib.hid hI
  have en := neq_nil
  have n12 := neq_n12
  have e12 := eq_12
  have hpl := hI.len
  by_cases h5 : n ≤ 500
  · have i5 : ¬ (500 : Int) < (n : Int) := by omega
    have CSm := Lib.hid (fun U (hU : Below w.heap.size w U) => sum_t us ps a n c 1048576 U (hI.below hU).rsd (by omega) hn hl)
    have HPL := Lib.hid hpl
    clear hf hd hI hl hpl hn
    go_enter Try.func6, Try.ntmps6
    go_wp2_with fail
    refine CA.out.mono ?_
    rintro e w0 ⟨rfl, hb⟩
    have HB0 := Lib.hid hb
    have CN := Lib.hid (fnew_t w0)
    have CS1 := Lib.hid (CSm.out w0 hb)
    clear hb CA CSm
    go_wp2_with fail
    refine CS1.out.mono ?_
    rintro e w1 ⟨s, rfl, hs, rfl⟩
    have HS := Lib.hid hs
    clear hs CS1
    by_cases hbig : (262144 : Int) < (s : Int)
    · go_wp2
      go_ret
      exact ⟨rfl, HB0.out⟩
    · have HPS : Hid (∀ p ∈ ps, p.length ≤ 1048576) := Lib.hid (fun p hp => by
        have := tot_mem hp
        rcases HS.out with ⟨_, h⟩ | ⟨h, _⟩
        · omega
        · omega)
      clear HS
      go_wp2_with fail
      refine CN.out.mono ?_
      rintro e w1 ⟨f, F, rfl, hf, hb⟩
      have P0 : Hid (EmI w0 w1 f (mkL frm dst 0 (ps.take 0)) 0) := Lib.hid ⟨⟨F, hf⟩, hb⟩
      clear hf hb CN
      go_wp2
      go_loopw [8, 29] (fun t i wr => ∃ j : Nat, j ≤ n ∧ (j = 0 ∨ (IsNode frm ∧ IsNode dst)) ∧ t = .int .i64 j ∧ i = .int .i64 j ∧ Hid (EmI w0 wr f (mkL frm dst 0 (ps.take j)) j)) (fun _ i _ => n - (intOf i).toNat)
      case atStart => exact ⟨0, by omega, .inl rfl, rfl, rfl, P0⟩
      case round =>
        obtain ⟨j, hj, hjn, rfl, rfl, HP⟩ := hrel
        clear P0
        obtain ⟨F, hst⟩ := HP.out.st
        have hFb : ∀ k, F k → w0.heap.size ≤ k := fun k hk => (hst.blocks k hk).1
        have hll : (mkL frm dst 0 (ps.take j)).length = j := by rw [mkL_len, List.length_take, HPL.out]; omega
        by_cases hlj : j < n
        · have ij : (j : Int) < (n : Int) := by omega
          have i0 : (0 : Int) ≤ (j : Int) := by omega
          have hpj : j < ps.length := by rw [HPL.out]; exact hlj
          have hIr := HI.out.below (bl_tr HB0.out HP.out.bel)
          obtain ⟨b, off, rfl⟩ := hIr.block (by omega)
          have hcj := hIr.cell hlj
          obtain ⟨a1, k1, c1, e1, hi1⟩ := hIr.rows.at hpj
          rw [e1] at hcj
          have hlen := hi1.len
          have hpp := HPS.out (ps.getD j []) (by rw [List.getD_eq_getElem?_getD, List.getElem?_eq_getElem hpj]; exact List.getElem_mem hpj)
          have CS := Lib.hid (fsend_t w0.heap.size f j F (mkL frm dst 0 (ps.take j)) frm dst true (ps.getD j []) a1 k1 c1 wr hst HP.out.bel.size (by omega) (by omega) HFR.out HDS.out (fun U hU => by
            have h2 := HI.out.below (bl_tr HB0.out (fto_bel HP.out.bel hFb hU))
            obtain ⟨a2, k2, c2, e2, hi2⟩ := h2.rows.at hpj
            rw [e1] at e2
            cases e2
            exact hi2) (by omega))
          by_cases hnode : IsNode frm ∧ IsNode dst
          · have hsr := sendR_ok (ls := mkL frm dst 0 (ps.take j)) (last := j) (ctl := true) (bs := ps.getD j []) hnode.1 hnode.2 (by omega)
            rw [hsr, ← mkL_take frm dst hpj] at CS
            have HNd := Lib.hid hnode
            have HW := Lib.hid (And.intro HP.out.bel hFb)
            have vj : ∀ [Inhabited Nat], IntKind.i64.wrap ((j : Int) + 1) = ((j + 1 : Nat) : Int) := by intro _; rw [IntWalk.i64_in _ (by omega)]; omega
            obtain ⟨J, hJ⟩ : ∃ J, J = j + 1 := ⟨_, rfl⟩
            rw [← hJ] at vj CS
            have HJ := Lib.hid hJ
            clear hst hFb hll hpj hIr e1 hi1 hlen hpp hnode hsr HP hJ hjn
            go_wp2_with fail
            refine CS.out.mono ?_
            rintro e w2 ⟨rfl, F2, h2, _, ht⟩
            have HP2 : Hid (EmI w0 w2 f (mkL frm dst 0 (ps.take J)) J) := Lib.hid ⟨⟨F2, h2⟩, fto_bel HW.out.1 HW.out.2 ht⟩
            clear h2 ht CS hcj HW
            rw [show errF (J, 0, mkL frm dst 0 (ps.take J), J).2.1 = Value.nilIface from rfl]
            go_wp2
            go_roundw
            case rel => exact ⟨J, by have := HJ.out; omega, .inr HNd.out, by go_num, by go_num, HP2⟩
            case measure => have := HJ.out; simp [intOf]; omega
          · have HJ0 : Hid (j = 0) := Lib.hid (hjn.resolve_right hnode)
            rw [sendR_no hnode] at CS
            have HW := Lib.hid (And.intro HP.out.bel hFb)
            have HLL := Lib.hid hll
            clear hst hFb hll hpj hIr e1 hi1 hlen hpp HP hjn hnode
            go_wp2_with fail
            refine CS.out.mono ?_
            rintro e w2 ⟨rfl, F2, h2, _, ht⟩
            have hb2 := bl_tr HB0.out (fto_bel HW.out.1 HW.out.2 ht)
            have CL := Lib.hid (flen_t w0.heap.size f j F2 (mkL frm dst 0 (ps.take j)) w2 h2)
            rw [HLL.out, HJ0.out] at CL
            have HB2 := Lib.hid hb2
            clear h2 ht hb2 CS hcj HW
            rw [show errF (0, 12, mkL frm dst 0 (ps.take j), j).2.1 = errnoF 12 from rfl]
            go_wp2_with fail
            refine CL.out.mono ?_
            rintro e w3 ⟨rfl, ht⟩
            have HB3 := Lib.hid (HB2.out.trans (ht.below (fun _ h => h.elim) HB2.out.size))
            clear ht CL
            go_wp2
            go_ret
            exact ⟨rfl, HB3.out⟩
        · have ij : ¬ (j : Int) < (n : Int) := by omega
          obtain rfl : j = n := by omega
          have CB := Lib.hid (fbetween_t w0.heap.size f j F (mkL frm dst 0 (ps.take j)) frm dst wr hst (by omega) HFR.out HDS.out)
          have hbl : (btw (mkL frm dst 0 (ps.take j)) frm dst).length = j := by rw [mkL_btw, List.length_take, HPL.out]; omega
          have htk : ps.take j = ps := List.take_of_length_le (by have := HPL.out; omega)
          rw [htk] at CB hst hbl
          have HST := Lib.hid hst
          have HBL := Lib.hid hbl
          have HW := Lib.hid (And.intro HP.out.bel hFb)
          clear hst hFb hll HP hjn hbl htk
          go_wp2_with fail
          refine CB.out.mono ?_
          rintro e w2 ⟨a2, c2, rfl, _, hb⟩
          rw [HBL.out]
          have P1 : Hid (EmI w0 w2 f (mkL frm dst 0 (ps.drop 0)) j) := Lib.hid ⟨⟨F, HST.out.keep (tch_new hb) (fun _ _ h => h)⟩, HW.out.1.trans (hb.mono HW.out.1.size)⟩
          clear hb CB HST HBL HW
          have qj : ((j : Int) != (j : Int)) = false := by simp
          go_wp2
          go_loopw [13] (fun i wr => ∃ q : Nat, q ≤ j ∧ i = .int .i64 q ∧ Hid (EmI w0 wr f (mkL frm dst q (ps.drop q)) j)) (fun i _ => j - (intOf i).toNat)
          case atStart => exact ⟨0, by omega, rfl, P1⟩
          case round =>
            obtain ⟨q, hq, rfl, HP⟩ := hrel
            clear P1
            obtain ⟨F, hst⟩ := HP.out.st
            have hFb : ∀ k, F k → w0.heap.size ≤ k := fun k hk => (hst.blocks k hk).1
            by_cases hlq : q < j
            · have iq : (q : Int) < (j : Int) := by omega
              have i0 : (0 : Int) ≤ (q : Int) := by omega
              have hpq : q < ps.length := by rw [HPL.out]; omega
              have hll : (mkL frm dst q (ps.drop q)).length ≤ 4096 := by rw [mkL_len, List.length_drop, HPL.out]; omega
              have CT := Lib.hid (ftake_t w0.heap.size f j F (mkL frm dst q (ps.drop q)) 0 wr hst HP.out.bel.size hll ⟨by omega, by omega⟩ (fun x hx => HPS.out _ (List.mem_of_mem_drop (mkL_mem frm dst hx).2.2)))
              rw [mkL_head frm dst hpq, nthR_zero, leftR_zero] at CT
              have HW := Lib.hid (And.intro HP.out.bel hFb)
              have HPQ := Lib.hid hpq
              obtain ⟨p, hp⟩ : ∃ p, p = ps.getD q [] := ⟨_, rfl⟩
              rw [← hp] at CT
              have hIw := HI.out.below (bl_tr HB0.out HP.out.bel)
              obtain ⟨b, off, rfl⟩ := hIw.block (by omega)
              clear hst hFb hll HP hpq hIw
              go_wp2_with fail
              refine CT.out.mono ?_
              rintro e w3 ⟨v, F3, rfl, ho, hv, h3, _, ht⟩
              obtain ⟨av, cv, rfl⟩ := own_form ho
              have hb3 := fto_bel HW.out.1 HW.out.2 ht
              have hb3w := bl_tr HB0.out hb3
              have hIr := HI.out.below hb3w
              have hcq := hIr.cell (j := q) (by omega)
              obtain ⟨a1, k1, c1, e1, hi1⟩ := hIr.rows.at HPQ.out
              rw [e1] at hcq
              rw [← hp] at hi1
              obtain ⟨nb, hnb⟩ : ∃ k, k = p.length := ⟨_, rfl⟩
              have HO := Lib.hid ho
              simp only [← hnb] at ho ⊢
              obtain ⟨X, hX⟩ : ∃ X, X = w3.alloc (.cells #[.int .i64 ((q : Int) + 1), .int .i64 frm, .int .i64 dst, .bool true, .slice av nb cv] tyL) := ⟨_, rfl⟩
              have hTX : Tch Non w3 X := by rw [hX]; exact tch_alloc _ _
              have hbX : Below w3.heap.size w3 X := by rw [hX]; exact bl_al (Below.refl _ _) _
              have hbx : Bx X w3.heap.size ⟨(q : Int) + 1, frm, dst, true, p⟩ (.slice av nb cv) := by rw [hX]; exact Bx.new w3 ⟨(q : Int) + 1, frm, dst, true, p⟩ _
              obtain ⟨z, hz⟩ : ∃ z, z = w3.heap.size := ⟨_, rfl⟩
              rw [← hz] at hbx
              obtain ⟨y0, y1, y2, y3, y4⟩ := hbx.cell
              have hcX := cell_later hbX hcq
              have hA : At X (.slice av nb cv) p := by rw [hnb]; exact (At.own HO.out).below hbX
              have hB : At X (.slice a1 k1 c1) p := (hi1.below hbX).here
              have sA := str_of hA hnb.symm
              have sB := str_of hB hi1.len
              have sA' := fun t => str_of (hA.below (below_drewN (Below.refl X.heap.size X) t)) hnb.symm
              have sB' := fun t => str_of (hB.below (below_drewN (Below.refl X.heap.size X) t)) hi1.len
              obtain ⟨s, hs⟩ : ∃ s, s = strOfNums p := ⟨_, rfl⟩
              rw [← hs] at sA sB
              simp only [← hs] at sA' sB'
              have vq : ∀ [Inhabited Nat], IntKind.i64.wrap ((q : Int) + 1) = (q : Int) + 1 := by intro _; exact IntWalk.i64_in _ (by omega)
              have q1 : (frm != frm) = false := by simp
              have q2 : (dst != dst) = false := by simp
              have q3 : (((q : Int) + 1) != ((q : Int) + 1)) = false := by simp
              have hbX0 := hb3.trans (hbX.mono hb3.size)
              have HP9 : Hid (∀ t, EmI w0 (X.drewN t) f (mkL frm dst (q + 1) (ps.drop (q + 1))) j) := Lib.hid (fun t => ⟨⟨F3, (h3.keep hTX (fun _ _ h => h)).keep (tch_new (below_drewN (Below.refl X.heap.size X) t)) (fun _ _ h => h)⟩, below_drewN hbX0 t⟩)
              have HX := Lib.hid hX
              have HZ := Lib.hid hz
              clear ho hv h3 ht hb3 hb3w hIr hcq e1 hi1 hnb HO hX hTX hbX hbx hz hA hB hs hbX0 CT HW hp
              unfold Lt.val
              go_upto_region 23 with fail
              rw [show errF 0 = Value.nilIface from rfl, ← HX.out, ← HZ.out]
              clear HX HZ
              go_wp2
              go_quiet (fail)
              go_wp2
              go_roundw
              case rel => exact ⟨q + 1, by omega, by go_num, HP9.out _⟩
              case measure => simp [intOf]; omega
            · have iq : ¬ (q : Int) < (j : Int) := by omega
              have hdr : ps.drop q = [] := List.drop_eq_nil_of_le (by rw [HPL.out]; omega)
              rw [hdr] at hst
              have CL := Lib.hid (flen_t w0.heap.size f j F (mkL frm dst q []) wr hst)
              rw [show (mkL frm dst q []).length = 0 from rfl] at CL
              have HW := Lib.hid (bl_tr HB0.out HP.out.bel)
              clear hst hFb hdr HP
              go_wp2_with fail
              refine CL.out.mono ?_
              rintro e w3 ⟨rfl, ht⟩
              have HB3 := Lib.hid (HW.out.trans (ht.below (fun _ h => h.elim) HW.out.size))
              clear ht CL
              go_wp2
              go_ret
              exact ⟨rfl, HB3.out⟩
  · have i5 : (500 : Int) < (n : Int) := by omega
    clear hf hd hI hl hpl
    go_enter Try.func6, Try.ntmps6
    go_wp2_with fail
    refine CA.out.mono ?_
    rintro e w0 ⟨rfl, hb⟩
    have HB0 := Lib.hid hb
    clear hb CA
    go_wp2
    go_ret
    exact ⟨rfl, HB0.out⟩
end Go.Proofs.Ytkiccdgfhahdlaa
