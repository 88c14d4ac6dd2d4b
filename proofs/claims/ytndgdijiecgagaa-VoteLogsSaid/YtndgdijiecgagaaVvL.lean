/- VoteLogs's walk. Conditions: those stated. -/
import Derived.Test.YtndgdijiecgagaaVtC
import Derived.Test.YtndgdijiecgagaaVuC
import Derived.Test.YtndgdijiecgagaaVuF
import Derived.Test.YtndgdijiecgagaaVdL
import Derived.Test.YtndgdijiecgagaaNumA
import Derived.Deep.RegionHeld3
namespace Go.Proofs.Ytndgdijiecgagaa
open Go Go.RowKit
set_option linter.unusedVariables false
set_option linter.unusedSimpArgs false

theorem nine_eq (w : World) : (binOp .eql 28 (errnoF 9) .nilIface).run Try.prog w = .ok (.bool false) w := by kernel_rfl
theorem nil_eq (w : World) : (binOp .eql 28 .nilIface .nilIface).run Try.prog w = .ok (.bool true) w := by kernel_rfl
def fL (ls : List Cm) : Int := if GoodL ls then 0 else 9
def bL (ls : List Cm) : List Int := if GoodL ls then bytesL ls else []
theorem fit_bL (ls : List Cm) : fit (bL ls) := by
  unfold bL
  by_cases h : GoodL ls
  · rw [if_pos h]; exact fit_bytesL ls
  · rw [if_neg h]; exact fit_nil
theorem GotW.both {w w' : World} {ls : List Cm} {e : Ending} (h : GotW w ls e w') : ∃ ab kb cb, e = .returned (.tuple #[.slice ab kb cb, errF (fL ls)]) ∧ In w' ab kb cb (bL ls) := by
  by_cases hg : GoodL ls
  · obtain ⟨ao, c, e, ho⟩ := h.yes hg
    have e1 : bL ls = bytesL ls := if_pos hg
    have e2 : fL ls = 0 := if_pos hg
    rw [e1, e2]
    exact ⟨ao, _, c, e, own_in ho rfl (fit_bytesL ls)⟩
  · have e1 : bL ls = [] := if_neg hg
    have e2 : fL ls = 9 := if_neg hg
    rw [e1, e2]
    exact ⟨none, 0, 0, h.no hg, in_nil _⟩
theorem GotWR.both {w w' : World} {ls : List Cm} {e : Ending} (h : GotWR w ls e w') : ∃ ab kb cb, e = .returned (.tuple #[.slice ab kb cb, .int .i64 (fL ls)]) ∧ In w' ab kb cb (bL ls) := by
  by_cases hg : GoodL ls
  · obtain ⟨ao, c, e, ho⟩ := h.yes hg
    have e1 : bL ls = bytesL ls := if_pos hg
    have e2 : fL ls = 0 := if_pos hg
    rw [e1, e2]
    exact ⟨ao, _, c, e, own_in ho rfl (fit_bytesL ls)⟩
  · have e1 : bL ls = [] := if_neg hg
    have e2 : fL ls = 9 := if_neg hg
    rw [e1, e2]
    exact ⟨none, 0, 0, h.no hg, in_nil _⟩
theorem fL_or (ls : List Cm) : fL ls = 0 ∧ GoodL ls ∨ fL ls = 9 := by
  unfold fL
  by_cases h : GoodL ls
  · exact .inl ⟨if_pos h, h⟩
  · exact .inr (if_neg h)
set_option maxRecDepth 100000 in
set_option maxHeartbeats 8000000 in
theorem voteLogs_t (ls : List Cm) (vs : List Value) (a : Option Addr) (n c : Nat) (w : World) (hI : InC w a n c ls vs) (hn : n ≤ 4611686018427387904) :
    Calls Try.prog 3 #[.slice a n c] w fun e w' => e = .returned (.bool true) ∧ Below w.heap.size w w' := by
  have HI := Lib.hid hI
  have CA := Lib.hid (alive_c w)
  have CL := Lib.hid (fun (wx : World) (hx : Below w.heap.size w wx) => large_c ls vs a n c wx (hI.below hx) hn)
  have HTY := Lib.hid hI.typ
  have HLN := Lib.hid hI.len
  clear hI
  go_enter Try.func3, Try.ntmps3
  go_wp2_with fail
  refine CA.out.mono ?_
  rintro e w1 ⟨rfl, hb1⟩
  have HB1 := Lib.hid hb1
  have CL1 := Lib.hid (CL.out w1 hb1)
  clear hb1 CA CL
  go_wp2_with fail
  refine CL1.out.mono ?_
  rintro e w2 ⟨rfl, hb2⟩
  have HB2 := Lib.hid (bl_tr HB1.out hb2)
  clear hb2 CL1 HB1
  by_cases hbig : 400 < totL ls
  · rw [decide_eq_true hbig]
    go_wp2
    go_ret
    exact ⟨rfl, HB2.out⟩
  · rw [decide_eq_false hbig]
    have hn400 : n ≤ 400 := by have := totL_len ls; have := HLN.out; omega
    have HES : Hid (∀ x ∈ ls, x.es.length ≤ 400) := Lib.hid (fun x hx => by have := totL_es hx; omega)
    have CO := Lib.hid (copyR_c ls vs a n c w2 (HI.out.below HB2.out) (by omega) (fun x hx => by have := HES.out x hx; omega))
    clear hbig
    go_wp2_with fail
    refine CO.out.mono ?_
    rintro e w3 ⟨⟨ao, co, us, rfl, hO⟩, hb3⟩
    have hM := hO.in HTY.out
    rw [HLN.out] at hM ⊢
    have HM := Lib.hid hM
    have HB3 := Lib.hid (bl_tr HB2.out hb3)
    have CW := Lib.hid (wr_c ls us ao n co w3 hM hn)
    clear hM hO hb3 CO HB2
    go_wp2_with fail
    refine CW.out.mono ?_
    intro e w4 hW
    obtain ⟨ab, kb, cb, rfl, hIn⟩ := hW.both
    have HB34 := Lib.hid hW.bel
    have HB4 := Lib.hid (bl_tr HB3.out hW.bel)
    have HW4 := Lib.hid hIn
    have CR := Lib.hid (writeR_c ls vs a n c w4 (HI.out.below HB4.out) hn (fun x hx => by have := HES.out x hx; omega))
    clear hW hIn CW
    go_wp2_with fail
    refine CR.out.mono ?_
    intro e w5 hW
    obtain ⟨ad, kd, cd, rfl, hIn⟩ := hW.both
    have HW5 := Lib.hid (And.intro (HW4.out.below hW.bel) hIn)
    have HB35 := Lib.hid (bl_tr HB34.out hW.bel)
    have HB5 := Lib.hid (bl_tr HB4.out hW.bel)
    have sA := str_of HW5.out.1.here HW5.out.1.len
    have sB := str_of HW5.out.2.here HW5.out.2.len
    have HFB := Lib.hid (fit_bL ls)
    obtain ⟨F, hF⟩ : ∃ F, F = fL ls := ⟨_, rfl⟩
    obtain ⟨B, hB⟩ : ∃ B, B = bL ls := ⟨_, rfl⟩
    have HL := Lib.hid (And.intro (fL_or ls) hB)
    rw [← hF] at HL
    rw [← hB] at HW5 HFB sA sB
    rw [← hF]
    obtain ⟨t, ht⟩ : ∃ s, s = strOfNums B := ⟨_, rfl⟩
    rw [← ht] at sA sB
    have st : (t.toList == t.toList) = true := by simp
    have hF3 : F = 0 ∨ F = 9 := by rcases HL.out.1 with h | h; exact .inl h.1; exact .inr h
    have CN := Lib.hid (fun W => num13_t F (by omega) W)
    have CK := Lib.hid (checkLog_c ls us ao n co w5 (HM.out.below HB35.out) hn)
    rw [show (if GoodL ls then (0 : Int) else 9) = F from by rw [hF]; rfl] at CK
    have ff : (F == F) = true := by simp
    have HF := Lib.hid hF
    clear hW hIn CR hF hB ht HW4 HB4 HB34
    go_wp2_with fail
    refine (CN.out w5).mono ?_
    rintro e w6 ⟨rfl, rfl⟩
    go_wp2_with fail
    refine CK.out.mono ?_
    rintro e w7 ⟨rfl, hb7⟩
    have HB37 := Lib.hid (bl_tr HB35.out hb7)
    have HW7 := Lib.hid (HW5.out.1.below hb7)
    have HB7 := Lib.hid (bl_tr HB5.out hb7)
    clear hb7 CK HW5 HB5 HB35 sA sB
    go_wp2_with fail
    refine (CN.out w7).mono ?_
    rintro e w8 ⟨rfl, rfl⟩
    have CS := Lib.hid (sameR_c ls us vs ao a n co c w7 (HM.out.below HB37.out) (HI.out.below HB7.out) hn HES.out)
    clear CN
    go_wp2_with fail
    refine CS.out.mono ?_
    rintro e w9 ⟨rfl, hb9⟩
    have HM9 := Lib.hid (HM.out.below (bl_tr HB37.out hb9))
    have HW9 := Lib.hid (HW7.out.below hb9)
    have HB9 := Lib.hid (bl_tr HB7.out hb9)
    clear hb9 CS HM HW7 HB7 HB37 HB3
    have hroom := HM9.out.room
    go_wp2
    go_loopw [9, 53] (fun _ iv wr => ∃ (i : Nat), i ≤ n ∧ iv = .int .i64 i ∧ Hid (Below w9.heap.size w9 wr)) (fun _ iv _ => n - (intOf iv).toNat)
    case atStart => exact ⟨0, by omega, rfl, Lib.hid (Below.refl _ _)⟩
    case round =>
      obtain ⟨i, hi, rfl, HR⟩ := hrel
      obtain ⟨wa, rfl⟩ : ∃ v, v = wr := ⟨_, rfl⟩
      by_cases hlt : i < n
      · have ii : (i : Int) < (n : Int) := by omega
        have i0' : (0 : Int) ≤ (i : Int) := by omega
        have ic : (i : Int) ≤ (co : Int) := by omega
        obtain ⟨b1, o1, rfl⟩ := HM9.out.block (by omega)
        obtain ⟨a5, n5, c5, hv, hE⟩ := HM9.out.ends i hlt
        have ht := HM9.out.ty hlt
        have hmem := memC (ls := ls) (i := i) (by have := HLN.out; omega)
        obtain ⟨k0, k1, k2, k3, k4, k5, k6, k7, k8, k9, k10, k11⟩ := (HM9.out.below HR.out).cell hlt
        rw [hv] at k8
        obtain ⟨x, hx⟩ : ∃ x, x = ls.getD i cm0 := ⟨_, rfl⟩
        rw [← hx] at k0 k1 k2 k3 k4 k5 k6 k7 k9 k10 k11 hE ht hmem
        have h5 : n5 ≤ 400 := by rw [← hE.len]; exact HES.out x hmem
        obtain ⟨wb, hwb⟩ : ∃ wb, wb = wa.alloc (x.obj (.slice a5 n5 c5)) := ⟨_, rfl⟩
        have hA := bxC_new wa x (.slice a5 n5 c5)
        rw [← hwb] at hA
        have hbb : Below wa.heap.size wa wb := by rw [hwb]; exact bl_al (Below.refl _ _) _
        obtain ⟨q, hq⟩ : ∃ q, q = wa.heap.size := ⟨_, rfl⟩
        rw [← hq] at hA
        have HW := Lib.hid (And.intro hwb hq)
        have HRb := Lib.hid (bl_tr HR.out hbb)
        have HSK : Hid (∀ wx, Below wb.heap.size wb wx → (wx.cell? ⟨q, 0, none⟩ = some (.int .i64 x.node) ∧ wx.cell? ⟨q, 1, none⟩ = some (.int .i64 x.boot) ∧ wx.cell? ⟨q, 2, none⟩ = some (.int .i64 x.seq) ∧ wx.cell? ⟨q, 3, none⟩ = some (.int .i64 x.time) ∧ wx.cell? ⟨q, 4, none⟩ = some (.int .i64 x.kind) ∧ wx.cell? ⟨q, 5, none⟩ = some (.int .u32 x.vip) ∧ wx.cell? ⟨q, 6, none⟩ = some (.int .i64 x.proto) ∧ wx.cell? ⟨q, 7, none⟩ = some (.int .i64 x.port) ∧ wx.cell? ⟨q, 8, none⟩ = some (.slice a5 n5 c5) ∧ wx.cell? ⟨q, 9, none⟩ = some (.int .u32 x.dip) ∧ wx.cell? ⟨q, 10, none⟩ = some (.int .u32 x.cvip) ∧ wx.cell? ⟨q, 11, none⟩ = some (.bool x.up))) := Lib.hid (fun wx hb => by
          obtain ⟨k0, k1, k2, k3, k4, k5, k6, k7, k8, k9, k10, k11⟩ := (hA.later hb).at.lit
          exact ⟨k0, k1, k2, k3, k4, k5, k6, k7, k8, k9, k10, k11⟩)
        have hS0 := HSK.out wb.drew (Below.refl _ _).drew
        have CC := Lib.hid (fun (wx : World) (hb : Below wb.heap.size wb wx) => (check_c x a5 n5 c5 wx (hE.below (bl_tr HRb.out hb)) ht (by omega)).mono (fun e w' h => (⟨h.1, bl_tr hb h.2⟩ : e = .returned (errF (if GoodC x then 0 else 9)) ∧ Below wb.heap.size wb w')))
        have CG := Lib.hid (fun (wx : World) (hb : Below wb.heap.size wb wx) => (goodR_c x a5 n5 c5 wx (hE.below (bl_tr HRb.out hb)) ht (by omega)).mono (fun e w' h => (⟨h.1, bl_tr hb h.2⟩ : e = .returned (.bool (decide (GoodC x))) ∧ Below wb.heap.size wb w')))
        have HB0 := Lib.hid (show Below wb.heap.size wb wb.drew from (Below.refl _ _).drew)
        clear hx hE ht hmem hv h5 hwb hA hbb hq
        go_upto_region 13 with fail
        rw [show wa.alloc (.cells #[.int .i64 x.node, .int .i64 x.boot, .int .i64 x.seq, .int .i64 x.time, .int .i64 x.kind, .int .u32 x.vip, .int .i64 x.proto, .int .i64 x.port, .slice a5 n5 c5, .int .u32 x.dip, .int .u32 x.cvip, .bool x.up] tyC) = wb from HW.out.1.symm, ← HW.out.2]
        clear k0 k1 k2 k3 k4 k5 k6 k7 k8 k9 k10 k11
        by_cases hgx : GoodC x
        · rw [if_pos hgx, show errF 0 = Value.nilIface from rfl] at CC
          rw [decide_eq_true hgx] at CG
          have qe := nil_eq
          go_region_held3 (fun wx => (wx.cell? ⟨q, 0, none⟩ = some (.int .i64 x.node) ∧ wx.cell? ⟨q, 1, none⟩ = some (.int .i64 x.boot) ∧ wx.cell? ⟨q, 2, none⟩ = some (.int .i64 x.seq) ∧ wx.cell? ⟨q, 3, none⟩ = some (.int .i64 x.time) ∧ wx.cell? ⟨q, 4, none⟩ = some (.int .i64 x.kind) ∧ wx.cell? ⟨q, 5, none⟩ = some (.int .u32 x.vip) ∧ wx.cell? ⟨q, 6, none⟩ = some (.int .i64 x.proto) ∧ wx.cell? ⟨q, 7, none⟩ = some (.int .i64 x.port) ∧ wx.cell? ⟨q, 8, none⟩ = some (.slice a5 n5 c5) ∧ wx.cell? ⟨q, 9, none⟩ = some (.int .u32 x.dip) ∧ wx.cell? ⟨q, 10, none⟩ = some (.int .u32 x.cvip) ∧ wx.cell? ⟨q, 11, none⟩ = some (.bool x.up))) (first | (with_reducible exact hS0) | (with_reducible assumption) | fail)
            (first
              | (go_at_call 22; (first | (with_reducible refine (CC.out _ HB0.out).mono ?_) | (with_reducible refine (CC.out _ hb7).mono ?_)); intro e w7 hbX; obtain rfl := hbX.1; have hb7 := hbX.2; have hS1 := HSK.out _ hb7)
              | (go_at_call 23; (first | (with_reducible refine (CG.out _ HB0.out).mono ?_) | (with_reducible refine (CG.out _ hb7).mono ?_)); intro e w7 hbX; obtain rfl := hbX.1; have hb7 := hbX.2; have hS1 := HSK.out _ hb7)
              | fail)
          all_goals
            have HRc := Lib.hid (bl_tr HRb.out hbX.2)
            clear hS0 hS1 hbX hb7 CC CG HSK
            go_wp2
            go_roundw
            case rel => exact ⟨i + 1, by omega, by go_num, HRc⟩
            case measure => simp [intOf]; omega
        · rw [if_neg hgx, show errF 9 = errnoF 9 from rfl] at CC
          rw [decide_eq_false hgx] at CG
          have qe := nine_eq
          go_region_held3 (fun wx => (wx.cell? ⟨q, 0, none⟩ = some (.int .i64 x.node) ∧ wx.cell? ⟨q, 1, none⟩ = some (.int .i64 x.boot) ∧ wx.cell? ⟨q, 2, none⟩ = some (.int .i64 x.seq) ∧ wx.cell? ⟨q, 3, none⟩ = some (.int .i64 x.time) ∧ wx.cell? ⟨q, 4, none⟩ = some (.int .i64 x.kind) ∧ wx.cell? ⟨q, 5, none⟩ = some (.int .u32 x.vip) ∧ wx.cell? ⟨q, 6, none⟩ = some (.int .i64 x.proto) ∧ wx.cell? ⟨q, 7, none⟩ = some (.int .i64 x.port) ∧ wx.cell? ⟨q, 8, none⟩ = some (.slice a5 n5 c5) ∧ wx.cell? ⟨q, 9, none⟩ = some (.int .u32 x.dip) ∧ wx.cell? ⟨q, 10, none⟩ = some (.int .u32 x.cvip) ∧ wx.cell? ⟨q, 11, none⟩ = some (.bool x.up))) (first | (with_reducible exact hS0) | (with_reducible assumption) | fail)
            (first
              | (go_at_call 22; (first | (with_reducible refine (CC.out _ HB0.out).mono ?_) | (with_reducible refine (CC.out _ hb7).mono ?_)); intro e w7 hbX; obtain rfl := hbX.1; have hb7 := hbX.2; have hS1 := HSK.out _ hb7)
              | (go_at_call 23; (first | (with_reducible refine (CG.out _ HB0.out).mono ?_) | (with_reducible refine (CG.out _ hb7).mono ?_)); intro e w7 hbX; obtain rfl := hbX.1; have hb7 := hbX.2; have hS1 := HSK.out _ hb7)
              | fail)
          all_goals
            have HRc := Lib.hid (bl_tr HRb.out hbX.2)
            clear hS0 hS1 hbX hb7 CC CG HSK
            go_wp2
            go_roundw
            case rel => exact ⟨i + 1, by omega, by go_num, HRc⟩
            case measure => simp [intOf]; omega
      · have ii : ¬ (i : Int) < (n : Int) := by omega
        obtain rfl : i = n := by omega
        have HBa := Lib.hid (bl_tr HB9.out HR.out)
        rcases HL.out.1 with ⟨rfl, hg⟩ | rfl
        · have HWa := Lib.hid (HW9.out.below HR.out)
          have hBe : B = bytesL ls := by have := HL.out.2; unfold bL at this; rwa [if_pos hg] at this
          rw [hBe] at HWa
          have hIs := isLog_bytes HTY.out hg
          have hDe := dec_bytes HTY.out hg
          have CRd := Lib.hid (read_log (bytesL ls) ab kb cb wa HWa.out (by have := HWa.out.len; rw [bytesL_len] at this; have := hg.1; have := ends_good hg.2.1; omega))
          have HG := Lib.hid (And.intro hg (And.intro hIs hDe))
          clear hg hBe hIs hDe
          go_wp2_with fail
          refine CRd.out.mono ?_
          intro e wc hR
          obtain ⟨ar, cr, vr, rfl, hOr⟩ := hR.yes HG.out.2.1
          rw [HG.out.2.2] at hOr ⊢
          have hIr := hOr.in HTY.out
          rw [HLN.out] at hIr ⊢
          have HIr := Lib.hid hIr
          have HBc := Lib.hid (bl_tr HBa.out hR.bel)
          have CS := Lib.hid (sameR_c ls vr vs ar a i cr c wc hIr (HI.out.below HBc.out) hn HES.out)
          have qe := nil_eq
          clear hOr hIr hR CRd
          go_wp2_with fail
          refine CS.out.mono ?_
          rintro e wd ⟨rfl, hbd⟩
          have CT := Lib.hid (same_c ls vr vs ar a i cr c wd (HIr.out.below hbd) (HI.out.below (bl_tr HBc.out hbd)) hn (fun x hx => goodC_es (HG.out.1.2.1 x hx)))
          have HBd := Lib.hid (bl_tr HBc.out hbd)
          clear hbd CS
          go_wp2_with fail
          refine CT.out.mono ?_
          rintro e we ⟨rfl, hbe⟩
          have HBe := Lib.hid (bl_tr HBd.out hbe)
          clear hbe CT
          go_wp2
          go_ret
          exact ⟨rfl, HBe.out⟩
        · go_wp2
          go_ret
          exact ⟨rfl, HBa.out⟩
end Go.Proofs.Ytndgdijiecgagaa
