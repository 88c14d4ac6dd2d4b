/- The walk of FabricFills over the contracts of the fabric. No conditions but those stated. -/
import Derived.Test.YtkiccdgfhahdlaaFNo
import Derived.LoopTactic
namespace Go.Proofs.Ytkiccdgfhahdlaa
open Go Go.RowKit
set_option linter.unusedVariables false
set_option linter.unusedSimpArgs false

theorem fto_bel {w0 w w' : World} {F : Nat → Prop} (hb : Below w0.heap.size w0 w) (hF : ∀ k, F k → w0.heap.size ≤ k) (ht : Tch F w w') : Below w0.heap.size w0 w' := hb.trans (ht.below hF hb.size)
theorem neq_nil (w : World) : (binOp .neq 36 .nilIface .nilIface).run Try.prog w = .ok (.bool false) w := by kernel_rfl
theorem neq_five (w : World) : (binOp .neq 36 (errnoF 5) (errnoF 5)).run Try.prog w = .ok (.bool false) w := by kernel_rfl
theorem neq_tw5 (w : World) : (binOp .neq 36 (errnoF 12) (errnoF 5)).run Try.prog w = .ok (.bool true) w := by kernel_rfl
theorem neq_tw (w : World) : (binOp .neq 36 (errnoF 12) (errnoF 12)).run Try.prog w = .ok (.bool false) w := by kernel_rfl
/-- Behind j letters sent. -/
structure FiI (w0 w : World) (f j : Nat) : Prop where
  st : ∃ F ls, FSt w w0.heap.size F f ls j ∧ ls.length = j ∧ ∀ x ∈ ls, (1 ≤ x.id ∧ x.id ≤ j) ∧ x.bs = []
  bel : Below w0.heap.size w0 w
theorem sendR_ok {ls : List Lt} {last : Nat} {frm dst : Int} {ctl : Bool} {bs : List Int} (h1 : IsNode frm) (h2 : IsNode dst) (h : ls.length < 4096) : sendR ls last frm dst ctl bs = (last + 1, 0, ls ++ [⟨(last : Int) + 1, frm, dst, ctl, bs⟩], last + 1) := by
  unfold sendR putR
  rw [if_pos ⟨h1, h2⟩, if_neg (by omega)]
theorem sendR_full {ls : List Lt} {last : Nat} {frm dst : Int} {ctl : Bool} {bs : List Int} (h1 : IsNode frm) (h2 : IsNode dst) (h : ¬ ls.length < 4096) : sendR ls last frm dst ctl bs = (0, 5, ls, last) := by
  unfold sendR putR
  rw [if_pos ⟨h1, h2⟩, if_pos (by omega)]
theorem sendR_no {ls : List Lt} {last : Nat} {frm dst : Int} {ctl : Bool} {bs : List Int} (h : ¬ (IsNode frm ∧ IsNode dst)) : sendR ls last frm dst ctl bs = (0, 12, ls, last) := by
  unfold sendR
  rw [if_neg h]
theorem FiI.step {w0 w w' : World} {f j : Nat} {F F2 : Nat → Prop} {ls : List Lt} {ctl : Bool} (hl : ls.length = j) (hp : ∀ x ∈ ls, (1 ≤ x.id ∧ x.id ≤ j) ∧ x.bs = []) (hb : Below w0.heap.size w0 w) (hF : ∀ k, F k → w0.heap.size ≤ k) (h : FTo w w0.heap.size F f (ls ++ [⟨(j : Int) + 1, 16, 32, ctl, []⟩]) (j + 1) F2 w') : FiI w0 w' f (j + 1) := by
  obtain ⟨h1, h2, h3⟩ := h
  refine ⟨⟨F2, _, h1, by rw [List.length_append, hl]; rfl, fun x hx => ?_⟩, fto_bel hb hF h3⟩
  rcases List.mem_append.1 hx with hx | hx
  · have := hp x hx
    exact ⟨⟨this.1.1, by have := this.1.2; omega⟩, this.2⟩
  · rw [List.mem_singleton] at hx
    subst hx
    exact ⟨⟨by show (1 : Int) ≤ (j : Int) + 1; omega, by show (j : Int) + 1 ≤ ((j + 1 : Nat) : Int); omega⟩, rfl⟩
set_option maxRecDepth 100000 in
set_option maxHeartbeats 4000000 in
theorem full_t (frm dst : Int) (hf : I64 frm) (hd : I64 dst) (a : Option Addr) (k c : Nat) (l : List Int) (n : Int) (hn : I64 n) (w : World) (hI : In w a k c l) :
    Calls Try.prog 31 #[.int .i64 frm, .int .i64 dst, .slice a k c, .int .i64 n] w fun e w' => e = .returned (.bool true) ∧ Below w.heap.size w w' := by
  have CA := Lib.hid (alive8_any w)
  have HN := Lib.hid hn
  have HFR := Lib.hid hf
  have HDS := Lib.hid hd
  have HI := Lib.hid hI
  have en := neq_nil
  have e5 := neq_five
  have e12 := neq_tw
  have e125 := neq_tw5
  have ee := errEq
  clear hn hI hf hd
  by_cases hk : k ≤ 16
  · have ik : ¬ (16 : Int) < (k : Int) := by omega
    go_enter Try.func31, Try.ntmps31
    go_wp2_with fail
    refine CA.out.mono ?_
    rintro e w0 ⟨rfl, hb⟩
    have HB0 := Lib.hid hb
    have CN := Lib.hid (fnew_t w0)
    clear hb CA
    go_wp2_with fail
    refine CN.out.mono ?_
    rintro e w1 ⟨f, F, rfl, hf, hb⟩
    have P0 : Hid (FiI w0 w1 f 0) := Lib.hid ⟨⟨F, [], hf, rfl, fun x hx => by cases hx⟩, hb⟩
    clear hf hb CN
    go_wp2
    go_loopw [10] (fun i wr => ∃ j : Nat, j ≤ 4096 ∧ i = .int .i64 j ∧ Hid (FiI w0 wr f j)) (fun i _ => 4096 - (intOf i).toNat)
    case atStart => exact ⟨0, by omega, rfl, P0⟩
    case round =>
      obtain ⟨j, hj, rfl, HP⟩ := hrel
      clear P0
      obtain ⟨F, ls, hst, hls, hpp⟩ := HP.out.st
      have hFb : ∀ k, F k → w0.heap.size ≤ k := fun k hk => (hst.blocks k hk).1
      by_cases hlj : j < 4096
      · have ij : (j : Int) < 4096 := by omega
        have CS := Lib.hid (fun ctl => fsend_t w0.heap.size f j F ls 16 32 ctl [] none 0 0 wr hst HP.out.bel.size (by omega) (by omega) ⟨by omega, by omega⟩ ⟨by omega, by omega⟩ (fun U _ => in_nil U) (by omega))
        have HSR := Lib.hid (fun ctl => sendR_ok (ls := ls) (last := j) (frm := 16) (dst := 32) (ctl := ctl) (bs := []) (by decide) (by decide) (by omega))
        have HST := Lib.hid (fun (ctl : Bool) (F2 : Nat → Prop) (w' : World) (h : FTo wr w0.heap.size F f (ls ++ [⟨(j : Int) + 1, 16, 32, ctl, []⟩]) (j + 1) F2 w') => FiI.step hls hpp HP.out.bel hFb h)
        have vj : ∀ [Inhabited Nat], IntKind.i64.wrap ((j : Int) + 1) = ((j + 1 : Nat) : Int) := by intro _; rw [IntWalk.i64_in _ (by omega)]; omega
        have qj : ((((j + 1 : Nat) : Int)) != ((j + 1 : Nat) : Int)) = false := by simp
        obtain ⟨J, hJ⟩ : ∃ J, J = j + 1 := ⟨_, rfl⟩
        rw [← hJ] at vj qj HSR HST
        have HJ := Lib.hid hJ
        clear hst hls hpp hFb hJ HP
        go_wp2_with fail
        refine (CS.out _).mono ?_
        rintro e w2 ⟨rfl, F2, h2⟩
        rw [HSR.out] at h2 ⊢
        have HP2 := Lib.hid (HST.out _ _ _ h2)
        clear h2 CS HSR HST
        rw [show errF (J, 0, ls ++ [_], J).2.1 = Value.nilIface from rfl]
        go_wp2
        go_roundw
        case rel => exact ⟨J, by have := HJ.out; omega, by go_num, HP2⟩
        case measure => have := HJ.out; simp [intOf]; omega
      · have ij : ¬ (j : Int) < 4096 := by omega
        have hl4 : ls.length = 4096 := by omega
        have hj4 : j = 4096 := by omega
        have HPP := Lib.hid hpp
        have HL4 := Lib.hid hl4
        have hIn : ∀ (wi : World) (Fi : Nat → Prop), Below w0.heap.size w0 wi → (∀ k, Fi k → w0.heap.size ≤ k) → ∀ U, Tch Fi wi U → In U a k c l := fun wi Fi hb hF U hU => HI.out.below (bl_tr HB0.out (fto_bel hb hF hU))
        have HIN := Lib.hid hIn
        have hps : ∀ x ∈ ls, x.bs.length ≤ 1048576 := fun x hx => by rw [(hpp x hx).2]; simp
        have HPS := Lib.hid hps
        have CS := Lib.hid (fsend_t w0.heap.size f j F ls 16 32 false l a k c wr hst HP.out.bel.size (by omega) (by omega) ⟨by omega, by omega⟩ ⟨by omega, by omega⟩ (hIn wr F HP.out.bel hFb) (by omega))
        rw [sendR_full (by decide) (by decide) (by omega)] at CS
        have HW := Lib.hid (And.intro HP.out.bel hFb)
        clear hst hls hpp hFb HP hl4 hIn hps
        go_wp2_with fail
        refine CS.out.mono ?_
        rintro e w2 ⟨rfl, F2, h2, _, ht⟩
        have hb2 := fto_bel HW.out.1 HW.out.2 ht
        have hF2 : ∀ k, F2 k → w0.heap.size ≤ k := fun k hk => (h2.blocks k hk).1
        have CC := Lib.hid (fcopy_t w0.heap.size f j F2 ls n w2 h2 hb2.size (by have := HL4.out; omega) (by omega) HN.out HPS.out)
        have hcr : copyR ls j n = (0, 5, ls, j) := by
          unfold copyR putR
          rw [if_neg (fun e => by have := HL4.out; rw [e] at this; simp at this), if_pos (by have := HL4.out; omega)]
        rw [hcr] at CC
        have HW2 := Lib.hid (And.intro hb2 hF2)
        clear h2 ht hb2 hF2 hcr CS HW
        go_wp2_with fail
        refine CC.out.mono ?_
        rintro e w3 ⟨rfl, F3, h3, _, ht⟩
        have hb3 := fto_bel HW2.out.1 HW2.out.2 ht
        have hF3 : ∀ k, F3 k → w0.heap.size ≤ k := fun k hk => (h3.blocks k hk).1
        have CD := Lib.hid (fsend_t w0.heap.size f j F3 ls frm dst false l a k c w3 h3 hb3.size (by have := HL4.out; omega) (by omega) HFR.out HDS.out (HIN.out w3 F3 hb3 hF3) (by omega))
        have HW3 := Lib.hid (And.intro hb3 hF3)
        clear h3 ht hb3 hF3 CC HW2
        by_cases hnode : IsNode frm ∧ IsNode dst
        case' pos =>
          rw [sendR_full hnode.1 hnode.2 (by have := HL4.out; omega)] at CD
        case' neg =>
          rw [sendR_no hnode] at CD
        all_goals
          clear hnode
          go_wp2_with fail
          refine CD.out.mono ?_
          rintro e w4 ⟨rfl, F4, h4, _, ht⟩
          have hb4 := fto_bel HW3.out.1 HW3.out.2 ht
          have hF4 : ∀ k, F4 k → w0.heap.size ≤ k := fun k hk => (h4.blocks k hk).1
          have CL := Lib.hid (flen_t w0.heap.size f j F4 ls w4 h4)
          rw [HL4.out] at CL
          have HS4 := Lib.hid h4
          have HW4 := Lib.hid (And.intro hb4 hF4)
          clear h4 ht hb4 hF4 CD HW3
          rw [show errF (0, 5, ls, j).2.1 = errnoF 5 from rfl]
          try rw [show errF (0, 12, ls, j).2.1 = errnoF 12 from rfl]
          go_wp2_with fail
          refine CL.out.mono ?_
          rintro e w5 ⟨rfl, ht⟩
          have h5 := HS4.out.keep ht (fun _ _ h => h)
          have hb5 := HW4.out.1.trans (ht.below (fun _ h => h.elim) HW4.out.1.size)
          have CT := Lib.hid (ftake_t w0.heap.size f j F4 ls n w5 h5 hb5.size (by have := HL4.out; omega) HN.out HPS.out)
          have hpl := plc_lt n (show 0 < ls.length by have := HL4.out; omega)
          have hnr : nthR ls n = (ls.getD (plc n ls.length) lt0, 0) := by
            unfold nthR
            rw [if_neg (fun e => by have := HL4.out; rw [e] at this; simp at this)]
          have hxm : ls.getD (plc n ls.length) lt0 ∈ ls := by
            rw [List.getD_eq_getElem?_getD, List.getElem?_eq_getElem hpl]
            exact List.getElem_mem hpl
          have hxp := HPP.out _ hxm
          rw [hnr] at CT
          obtain ⟨x, hx⟩ : ∃ x, x = ls.getD (plc n ls.length) lt0 := ⟨_, rfl⟩
          rw [← hx] at CT hxp
          have hll : (leftR ls n).length = 4095 := by
            unfold leftR
            rw [List.length_eraseIdx_of_lt hpl]
            have := HL4.out
            omega
          have HLL := Lib.hid hll
          have HXP := Lib.hid hxp
          have HW5 := Lib.hid (And.intro hb5 HW4.out.2)
          clear h5 ht hb5 hpl hnr hxm hxp hx hll CL HS4 HW4
          go_wp2_with fail
          refine CT.out.mono ?_
          rintro e w6 ⟨v, F6, rfl, ho, hv, h6, _, ht⟩
          obtain ⟨av, cv, rfl⟩ := own_form ho
          have hb6 := fto_bel HW5.out.1 HW5.out.2 ht
          have hF6 : ∀ k, F6 k → w0.heap.size ≤ k := fun k hk => (h6.blocks k hk).1
          obtain ⟨xi, xf, xd, xc, xb⟩ := x
          obtain ⟨hx1, hx2⟩ := HXP.out
          obtain rfl : xb = [] := hx2
          obtain ⟨X, hX⟩ : ∃ X, X = w6.alloc (.cells #[.int .i64 xi, .int .i64 xf, .int .i64 xd, .bool xc, .slice av 0 cv] tyL) := ⟨_, rfl⟩
          have hTX : Tch Non w6 X := by rw [hX]; exact tch_alloc _ _
          have hbx : Bx X w6.heap.size ⟨xi, xf, xd, xc, []⟩ (.slice av 0 cv) := by rw [hX]; exact Bx.new w6 ⟨xi, xf, xd, xc, []⟩ _
          have h6X := h6.keep hTX (fun _ _ h => h)
          have hbX := hb6.trans (hTX.below (fun _ h => h.elim) hb6.size)
          have CE := Lib.hid (fsend_t w0.heap.size f j F6 (leftR ls n) 16 32 true l a k c X h6X hbX.size (by have := HLL.out; omega) (by omega) ⟨by omega, by omega⟩ ⟨by omega, by omega⟩ (HIN.out X F6 hbX hF6) (by omega))
          rw [sendR_ok (by decide) (by decide) (by have := HLL.out; omega)] at CE
          obtain ⟨p, hp⟩ : ∃ p, p = w6.heap.size := ⟨_, rfl⟩
          rw [← hp] at hbx
          have hnp : ¬ F6 p := fun h => by have := (h6.blocks p h).2; omega
          have HBX := Lib.hid (And.intro hbx hnp)
          have HWX := Lib.hid (And.intro hbX hF6)
          have HX := Lib.hid hX
          have HP := Lib.hid hp
          have x1 : (1 : Int) ≤ xi := hx1.1
          have x2 : xi ≤ 4096 := by have := hx1.2; simp only at this; omega
          clear hnp ho hv h6 ht hb6 hF6 hx1 hX hTX hbx h6X hbX hp CT HXP HW5
          unfold Lt.val
          go_upto_region 18 with fail
          rw [← HX.out, ← HP.out]
          clear HX HP
          go_wp2_with fail
          refine CE.out.mono ?_
          rintro e w7 ⟨rfl, F7, h7, _, ht⟩
          have hb7 := fto_bel HWX.out.1 HWX.out.2 ht
          have hbx7 := HBX.out.1.keep ht HBX.out.2
          obtain ⟨y0, _, _, _, _⟩ := hbx7.cell
          have HB7 := Lib.hid (bl_tr HB0.out hb7)
          have ej : ((j + 1 : Nat) : Int) = 4097 := by omega
          clear h7 ht hb7 hbx7 CE HBX HWX
          rw [show errF 0 = Value.nilIface from rfl]
          subst hj4
          go_wp2
          go_ret
          exact ⟨rfl, HB7.out⟩
  · have ik : (16 : Int) < (k : Int) := by omega
    go_enter Try.func31, Try.ntmps31
    go_wp2_with fail
    refine CA.out.mono ?_
    rintro e w0 ⟨rfl, hb⟩
    have HB0 := Lib.hid hb
    clear hb CA
    go_wp2
    go_ret
    exact ⟨rfl, HB0.out⟩
set_option maxRecDepth 100000 in
theorem fills_t (frm dst : Int) (hf : I64 frm) (hd : I64 dst) (a : Option Addr) (k c : Nat) (l : List Int) (n : Int) (hn : I64 n) (w : World) (hI : In w a k c l) :
    Calls Try.prog 5 #[.agg #[.int .i64 frm, .int .i64 dst, .slice a k c, .int .i64 n]] w fun e w' => e = .returned (.bool true) ∧ Below w.heap.size w w' := by
  obtain ⟨X, hX⟩ : ∃ X, X = w.alloc (.cells #[.int .i64 frm, .int .i64 dst, .slice a k c, .int .i64 n] 61) := ⟨_, rfl⟩
  have hb : Below w.heap.size w X := by rw [hX]; exact bl_al (Below.refl _ _) _
  have hh : X.heap[w.heap.size]? = some (.cells #[.int .i64 frm, .int .i64 dst, .slice a k c, .int .i64 n] 61 (0, 0)) := by rw [hX]; exact heap_alloc_new _ _
  have c0 : X.cell? ⟨w.heap.size, 0, none⟩ = some (.int .i64 frm) := by rw [cell_of_row X w.heap.size 0 _ _ _ hh]; rfl
  have c1 : X.cell? ⟨w.heap.size, 1, none⟩ = some (.int .i64 dst) := by rw [cell_of_row X w.heap.size 1 _ _ _ hh]; rfl
  have c2 : X.cell? ⟨w.heap.size, 2, none⟩ = some (.slice a k c) := by rw [cell_of_row X w.heap.size 2 _ _ _ hh]; rfl
  have c3 : X.cell? ⟨w.heap.size, 3, none⟩ = some (.int .i64 n) := by rw [cell_of_row X w.heap.size 3 _ _ _ hh]; rfl
  have CF := Lib.hid (full_t frm dst hf hd a k c l n hn X (hI.below hb))
  obtain ⟨p, hp⟩ : ∃ p, p = w.heap.size := ⟨_, rfl⟩
  rw [← hp] at c0 c1 c2 c3
  have HX := Lib.hid hX
  have HP := Lib.hid hp
  have HB := Lib.hid hb
  clear hX hp hb hh hI hf hd hn
  go_enter Try.func5, Try.ntmps5
  go_upto_region 1 with fail
  rw [← HX.out, ← HP.out]
  clear HX HP
  go_wp2_with fail
  refine CF.out.mono ?_
  rintro e w1 ⟨rfl, hb⟩
  have H1 := Lib.hid (bl_tr HB.out hb)
  clear hb CF
  go_wp2
  go_ret
  exact ⟨rfl, H1.out⟩
end Go.Proofs.Ytkiccdgfhahdlaa
