/- The program's table: Touch. Conditions: as each states. -/
import Derived.Test.YtpbgccidhpfmgaaFmD
import Derived.Test.YtpbgccidhpfmgaaFqP
import Derived.Deep.CutRange
import Derived.Deep.CutBlock
import Derived.Deep.QuietTactic
import Derived.BigQuiet
namespace Go.Proofs.Ytpbgccidhpfmgaa
open Go Go.RowKit Go.Maps
set_option linter.unusedVariables false
set_option linter.unusedSimpArgs false

theorem bits_low (x : Int) (c : Nat) (hc : c < 8) : bits .and .i64 x (c : Int) = (((BitVec.ofInt 64 x).toNat % 8 &&& c : Nat) : Int) := by
  have h2 : (BitVec.ofInt 64 (c : Int)).toNat = c := by
    rw [BitVec.ofInt_natCast, BitVec.toNat_ofNat]
    exact Nat.mod_eq_of_lt (by omega)
  have h3 := Nat.and_mod_two_pow (a := (BitVec.ofInt 64 x).toNat) (b := c) (n := 3)
  have h4 : (BitVec.ofInt 64 x).toNat &&& c < 8 := Nat.lt_of_le_of_lt Nat.and_le_right hc
  rw [Nat.mod_eq_of_lt (a := (BitVec.ofInt 64 x).toNat &&& c) h4, Nat.mod_eq_of_lt (a := c) hc] at h3
  show IntKind.i64.wrap ((BitVec.ofInt 64 x &&& BitVec.ofInt 64 (c : Int)).toNat : Int) = _
  rw [BitVec.toNat_and, h2, ← h3]
  rw [IntKind.wrap_i64]
  generalize (BitVec.ofInt 64 x).toNat &&& c = m at h4
  omega
theorem fin_x (x : Int) : (bits .and .i64 x 5 != 0) = (bits .and .i64 x 1 == 1 || bits .and .i64 x 4 == 4) := by
  have h5 := bits_low x 5 (by omega)
  have h1 := bits_low x 1 (by omega)
  have h4 := bits_low x 4 (by omega)
  have hm : (BitVec.ofInt 64 x).toNat % 8 < 8 := Nat.mod_lt _ (by omega)
  generalize (BitVec.ofInt 64 x).toNat % 8 = m at h5 h1 h4 hm
  rw [show (5 : Int) = ((5 : Nat) : Int) from rfl, show bits .and .i64 x 1 = bits .and .i64 x ((1 : Nat) : Int) from rfl, show bits .and .i64 x 4 = bits .and .i64 x ((4 : Nat) : Int) from rfl, h5, h1, h4]
  have : m = 0 ∨ m = 1 ∨ m = 2 ∨ m = 3 ∨ m = 4 ∨ m = 5 ∨ m = 6 ∨ m = 7 := by omega
  rcases this with rfl | rfl | rfl | rfl | rfl | rfl | rfl | rfl <;> decide
theorem syn_x (x : Int) : (bits .and .i64 x 2 != 0) = (bits .and .i64 x 2 == 2) := by
  have h2 := bits_low x 2 (by omega)
  have hm : (BitVec.ofInt 64 x).toNat % 8 < 8 := Nat.mod_lt _ (by omega)
  generalize (BitVec.ofInt 64 x).toNat % 8 = m at h2 hm
  rw [show bits .and .i64 x 2 = bits .and .i64 x ((2 : Nat) : Int) from rfl, h2]
  have : m = 0 ∨ m = 1 ∨ m = 2 ∨ m = 3 ∨ m = 4 ∨ m = 5 ∨ m = 6 ∨ m = 7 := by omega
  rcases this with rfl | rfl | rfl | rfl | rfl | rfl | rfl | rfl <;> decide
def fl6 (p flags : Int) : Int := if p = 6 then flags else 0
theorem fin_is (p flags : Int) : (bits .and .i64 (fl6 p flags) 5 != 0) = finB p flags := by
  unfold finB fl6
  by_cases h : p = 6
  · rw [if_pos h, fin_x, h]; rfl
  · rw [if_neg h, show (p == 6) = false by simpa using h]; rfl
theorem syn_is (p flags : Int) : (bits .and .i64 (fl6 p flags) 2 != 0) = synB p flags := by
  unfold synB fl6
  by_cases h : p = 6
  · rw [if_pos h, syn_x, h]; rfl
  · rw [if_neg h, show (p == 6) = false by simpa using h]; rfl
/-- Single fields of a boxed entry are written. -/
theorem BxE.last {w : World} {q : Nat} {e : En} (h : BxE w q e) (now : Int) : BxE (w.setCell ⟨q, 9, none⟩ (.int .i64 now)) q ⟨e.f, e.dip, e.ep, e.tr, e.cl, now⟩ := by
  have h2 : w.heap[q]? = some (.cells (csE e).toArray tyE (0, 0)) := h
  have := put_row (i := 9) h2 (.int .i64 now)
  simp only [csE, List.setIfInBounds_toArray, List.set_cons_succ, List.set_cons_zero] at this
  exact this
theorem BxE.clos {w : World} {q : Nat} {e : En} (h : BxE w q e) (c : Bool) : BxE (w.setCell ⟨q, 8, none⟩ (.bool c)) q ⟨e.f, e.dip, e.ep, e.tr, c, e.la⟩ := by
  have h2 : w.heap[q]? = some (.cells (csE e).toArray tyE (0, 0)) := h
  have := put_row (i := 8) h2 (.bool c)
  simp only [csE, List.setIfInBounds_toArray, List.set_cons_succ, List.set_cons_zero] at this
  exact this
theorem BxE.trus {w : World} {q : Nat} {e : En} (h : BxE w q e) (c : Bool) : BxE (w.setCell ⟨q, 7, none⟩ (.bool c)) q ⟨e.f, e.dip, e.ep, c, e.cl, e.la⟩ := by
  have h2 : w.heap[q]? = some (.cells (csE e).toArray tyE (0, 0)) := h
  have := put_row (i := 7) h2 (.bool c)
  simp only [csE, List.setIfInBounds_toArray, List.set_cons_succ, List.set_cons_zero] at this
  exact this
theorem touch_box (w : World) (f : Fl) : ∃ W, w.alloc f.obj = W ∧ FlAt W w.heap.size f ∧ Below w.heap.size w W ∧ W.heap.size = w.heap.size + 1 := ⟨_, rfl, flAt_new w f, bl_al (Below.refl _ _) _, by simp⟩
theorem Tch.old {T U : Nat → Prop} {w w' : World} (h : Tch T w w') (hu : ∀ k, k < w.heap.size → T k → U k) : Tch U w w' := ⟨h.os, h.tape, h.output, h.size, fun k hk hn => h.block k hk (fun e => hn (hu k hk e))⟩
def clE (p flags : Int) (c : Bool) : Bool := if finB p flags then true else if synB p flags then false else c
set_option maxRecDepth 100000 in
set_option maxHeartbeats 4000000 in
theorem ttouch_t (B p : Nat) (F : Nat → Prop) (qt qu : Int) (l : List En) (f : Fl) (flags now : Int) (w : World) (h : TSt w B F p qt qu l) (hB : B ≤ w.heap.size) (hn : l.length ≤ 1048576) (hf : FitF f) (hg : InN flags) (ho : InN now) :
    Calls Try.prog 17 #[.pointer (some ⟨p, 0, none⟩), f.val, .int .i64 flags, .int .i64 now] w (TTch TSt w B F p qt qu (touchE qt f flags now l)) := by
  obtain ⟨b, hF, hne, hc, hm⟩ := h.map
  obtain ⟨W, hW, ff, hb1, hsz⟩ := touch_box w f
  have hcW := hc.tch (tch_new hb1) (fun h => h)
  have hmW := hm.tch (tch_new hb1) (fun h => h)
  have c2 := hcW.cs.2.2.1
  obtain ⟨x, hx⟩ : ∃ x, x = (findE f l).getD en0 := ⟨_, rfl⟩
  obtain ⟨s, hs⟩ : ∃ s, s = (findE f l).isSome := ⟨_, rfl⟩
  have hl1 : ∀ X : World, X.heap[b]? = W.heap[b]? → (Instr.lookup tyM (.map (some b)) f.val true).run Try.prog X = .ok (.tuple #[x.val, .bool s]) X := fun X hX => by
    rw [(hmW.block hX).look hf, hx, hs]
  have k1 := hl1 W.drew rfl
  have k2 := hl1 (W.alloc (.cells zeroE tyE)).drew ((MapKept.heap_alloc _ _).2 b hmW.lt)
  have k3 := hl1 W rfl
  have k4 := hl1 (W.alloc (.cells zeroE tyE)) ((MapKept.heap_alloc _ _).2 b hmW.lt)
  have hO := Lib.hid (orE_c p W)
  obtain ⟨q, hq⟩ : ∃ q, q = w.heap.size := ⟨_, rfl⟩
  rw [← hq] at ff hsz
  have HFF := Lib.hid ff
  obtain ⟨d0, d1, d2, d3, d4⟩ := ff
  have HW := Lib.hid hW
  have HQ := Lib.hid hq
  have HX := Lib.hid hx
  have HS := Lib.hid hs
  have HT := Lib.hid h
  have HB := Lib.hid hb1
  have HTB := Lib.hid hcW
  have HMP := Lib.hid hmW
  have HF := Lib.hid hF
  have HNE := Lib.hid hne
  have HPQ := Lib.hid (show p < q by rw [hq]; exact hc.lt)
  have HBQ := Lib.hid (show b < q by rw [hq]; exact hm.lt)
  clear hl1 hcW hmW hc hm h hW hb1 hq hs hx hne hF
  go_enter Try.func17, Try.ntmps17
  go_upto_region 1 with fail
  rw [HW.out, ← HQ.out]
  go_wp2_with fail
  refine hO.out.mono ?_
  rintro e w1 ⟨rfl, rfl⟩
  go_upto_region 2 with fail
  go_cut [9, 10] from 12 to 22 (fun u9 u10 wx => u9 = .pointer (some ⟨q + 1, 0, none⟩) ∧ u10 = .bool s ∧ wx = (W.alloc x.obj).drew)
  case first =>
    have hS0 : W.drew.cell? ⟨p, 2, none⟩ = some (.map (some b)) ∧ W.drew.cell? ⟨q, 0, none⟩ = some (.int .i64 f.p) ∧ W.drew.cell? ⟨q, 1, none⟩ = some (.int .u32 f.s) ∧ W.drew.cell? ⟨q, 2, none⟩ = some (.int .i64 f.sp) ∧ W.drew.cell? ⟨q, 3, none⟩ = some (.int .u32 f.d) ∧ W.drew.cell? ⟨q, 4, none⟩ = some (.int .i64 f.dp) := ⟨c2, d0, d1, d2, d3, d4⟩
    go_region_held3 (fun wx => wx.cell? ⟨p, 2, none⟩ = some (.map (some b)) ∧ wx.cell? ⟨q, 0, none⟩ = some (.int .i64 f.p) ∧ wx.cell? ⟨q, 1, none⟩ = some (.int .u32 f.s) ∧ wx.cell? ⟨q, 2, none⟩ = some (.int .i64 f.sp) ∧ wx.cell? ⟨q, 3, none⟩ = some (.int .u32 f.d) ∧ wx.cell? ⟨q, 4, none⟩ = some (.int .i64 f.dp)) (first | (with_reducible exact hS0) | go_keep | fail)
      (first | fail)
    all_goals (
      go_wp2
      go_meet
      exact ⟨rfl, rfl, rfl⟩)
  case rest =>
    obtain ⟨rfl, rfl, rfl⟩ := hcut
    obtain ⟨W2, hW2⟩ : ∃ v, v = (W.alloc x.obj).drew := ⟨_, rfl⟩
    rw [← hW2]
    have hx2 : BxE W2 (q + 1) x := by rw [hW2, ← hsz]; exact BxE.new W x
    have ht2 : Tch Non W W2 := by rw [hW2]; exact tch_new (bl_dr (bl_al (Below.refl _ _) _))
    have HX2 := Lib.hid hx2
    have HT2 := Lib.hid ht2
    have HB2 := Lib.hid (show Below w.heap.size w W2 by rw [hW2]; exact bl_dr (bl_al HB.out _))
    have HF2 := Lib.hid (show FlAt W2 q f from by
      have h1 : Below W.heap.size W W2 := by rw [hW2]; exact bl_dr (bl_al (Below.refl _ _) _)
      exact flAt_below HFF.out h1 (by omega))
    clear hx2 ht2 hW2 k1 k2 k3 k4 d0 d1 d2 d3 d4 c2
    cases hs : findE f l with
    | none =>
      have hsf : s = false := by rw [HS.out, hs]; rfl
      subst hsf
      have HR := Lib.hid (touch_none (qt := qt) (flags := flags) (now := now) hs)
      clear hs
      go_wp2
      go_ret
      unfold TTch
      rw [HR.out]
      exact ⟨rfl, HT.out.stay HB2.out⟩
    | some e0 =>
      have hst : s = true := by rw [HS.out, hs]; rfl
      subst hst
      have HE0 := Lib.hid hs
      have hxe : x = e0 := by rw [HX.out, hs]; rfl
      subst hxe
      clear hs
      have hti := isT_c now W2
      by_cases hok : OkN now
      · rw [decide_eq_true hok] at hti
        have HR := Lib.hid (touch_some (qt := qt) (flags := flags) HE0.out hok)
        have HOK := Lib.hid hok
        clear hok
        go_wp2_with fail
        refine hti.mono ?_
        rintro e w2 ⟨rfl, rfl⟩
        clear hti
        have d0 := HF2.out.1
        go_upto_region 5 with fail
        go_upto_if 32 with fail
        go_cut [2] from 30 to 32 (fun u2 wx => u2 = .int .i64 (fl6 f.p flags) ∧ wx = W2)
        case first =>
          by_cases h6 : f.p = 6
          · have hz : (f.p != 6) = false := by simp [h6]
            have HZ := Lib.hid (show fl6 f.p flags = flags from if_pos h6)
            clear h6
            go_wp2
            go_meet
            case rel => exact ⟨by rw [HZ.out], rfl⟩
          · have hz : (f.p != 6) = true := by simp [h6]
            have HZ := Lib.hid (show fl6 f.p flags = 0 from if_neg h6)
            clear h6
            go_wp2
            go_meet
            case rel => exact ⟨by rw [HZ.out], rfl⟩
        case rest =>
          obtain ⟨rfl, rfl⟩ := hcut
          clear d0
          obtain ⟨W2, rfl⟩ : ∃ v, v = wc := ⟨_, rfl⟩
          have b9 := HX2.out.free
          have b8 := HX2.out.cs
          obtain ⟨e0', e1', e2', e3', e4', e5', e6', e7', e8', e9'⟩ := b8
          obtain ⟨W3, hW3⟩ : ∃ v, v = W2.setCell ⟨q + 1, 9, none⟩ (.int .i64 now) := ⟨_, rfl⟩
          have hx3 : BxE W3 (q + 1) ⟨x.f, x.dip, x.ep, x.tr, x.cl, now⟩ := by rw [hW3]; exact HX2.out.last now
          have HT3 := Lib.hid (show Tch (· = q + 1) W2 W3 by rw [hW3]; exact tch_cell _ _ _ _)
          have HX3 := Lib.hid hx3
          have HW3 := Lib.hid hW3
          have FI := Lib.hid (fin_is f.p flags)
          have SI := Lib.hid (syn_is f.p flags)
          obtain ⟨fl, hfl⟩ : ∃ v, v = fl6 f.p flags := ⟨_, rfl⟩
          rw [← hfl] at FI SI
          rw [← hfl]
          have fi := FI.out
          have si := SI.out
          obtain ⟨fi0, hfi0⟩ : ∃ v, v = finB f.p flags := ⟨_, rfl⟩
          obtain ⟨sy0, hsy0⟩ : ∃ v, v = synB f.p flags := ⟨_, rfl⟩
          rw [← hfi0] at fi
          rw [← hsy0] at si
          have HFI := Lib.hid hfi0
          have HSY := Lib.hid hsy0
          clear hfl hfi0 hsy0 hx3 hW3
          go_upto_region 8 with fail
          rw [← HW3.out]
          clear e0' e1' e2' e3' e4' e5' e6' e7' e8' e9' b9
          go_upto_block 0 with fail
          go_cut [] from 38 to 45 (fun wx => Hid (BxE wx (q + 1) ⟨x.f, x.dip, x.ep, x.tr, if fi0 then true else if sy0 then false else x.cl, now⟩) ∧ Hid (Tch (· = q + 1) W2 wx))
          case first =>
            have b9 := HX3.out.free
            obtain ⟨e0', e1', e2', e3', e4', e5', e6', e7', e8', e9'⟩ := HX3.out.cs
            cases fi0 with
            | true =>
              go_wp2
              go_meet
              case rel => exact ⟨Lib.hid (HX3.out.clos true), Lib.hid (HT3.out.trans (tch_cell _ _ _ _))⟩
            | false =>
              cases sy0 with
              | true =>
                go_wp2
                go_meet
                case rel => exact ⟨Lib.hid (HX3.out.clos false), Lib.hid (HT3.out.trans (tch_cell _ _ _ _))⟩
              | false =>
                go_wp2
                go_meet
                case rel => exact ⟨HX3, HT3⟩
          case rest =>
            obtain ⟨HX4, HT4⟩ := hcut
            obtain ⟨W4, rfl⟩ : ∃ v, v = wc := ⟨_, rfl⟩
            clear HX3 HT3 HW3
            obtain ⟨cl0, hcl0⟩ : ∃ v, v = (if fi0 then true else if sy0 then false else x.cl) := ⟨_, rfl⟩
            rw [← hcl0] at HX4
            have HCL := Lib.hid hcl0
            have HY := Lib.hid (show tchE qt flags now (trE l) x = ⟨x.f, x.dip, x.ep, x.tr || (!sy0 && decide ((trE l : Int) < qt)), cl0, now⟩ by
              have hxf : x.f = f := (findE_some HE0.out).2
              unfold tchE
              rw [hxf, ← HFI.out, ← HSY.out, hcl0])
            have HTB4 := Lib.hid (((HTB.out.tch HT2.out (fun h => h)).tch HT4.out (fun e => by have := HPQ.out; omega)))
            have HMP4 := Lib.hid (((HMP.out.tch HT2.out (fun h => h)).tch HT4.out (fun e => by have := HBQ.out; omega)))
            have HF4 := Lib.hid (show FlAt W4 q f from by
              obtain ⟨y0, y1, y2, y3, y4⟩ := HF2.out
              exact ⟨HT4.out.cell y0 (fun e => by simp at e), HT4.out.cell y1 (fun e => by simp at e), HT4.out.cell y2 (fun e => by simp at e), HT4.out.cell y3 (fun e => by simp at e), HT4.out.cell y4 (fun e => by simp at e)⟩)
            clear hcl0 fi si FI SI
            obtain ⟨tr, htr⟩ : ∃ v, v = x.tr := ⟨_, rfl⟩
            rw [← htr] at HX4 HY
            have HTR := Lib.hid htr
            clear htr
            go_upto_region 13 with fail
            go_cut [63] from 46 to 63 (fun u63 wx => u63 = .bool (!tr && (!sy0 && decide ((trE l : Int) < qt))) ∧ ∃ nq, wx = W4.drewN nq)
            case first =>
              obtain ⟨e0', e1', e2', e3', e4', e5', e6', e7', e8', e9'⟩ := HX4.out.cs
              obtain ⟨t0', t1', t2', t3'⟩ := HTB4.out.cs
              cases tr with
              | true =>
                go_wp2_with fail
                go_quiet (fail)
                go_wp2
                go_meet
                exact ⟨rfl, _, rfl⟩
              | false =>
                cases sy0 with
                | true =>
                  go_wp2_with fail
                  go_quiet (fail)
                  go_wp2
                  go_meet
                  exact ⟨rfl, _, rfl⟩
                | false =>
                  by_cases hlt : (trE l : Int) < qt
                  · go_wp2_with fail
                    go_quiet (fail)
                    go_wp2
                    go_meet
                    exact ⟨by simp [hlt], _, rfl⟩
                  · go_wp2_with fail
                    go_quiet (fail)
                    go_wp2
                    go_meet
                    exact ⟨by simp [hlt], _, rfl⟩
            case rest =>
              obtain ⟨rfl, nq, rfl⟩ := hcut
              obtain ⟨W5, hW5⟩ : ∃ v, v = W4.drewN nq := ⟨_, rfl⟩
              rw [← hW5]
              have ht5 : Tch Non W4 W5 := by rw [hW5]; exact tch_new (bl_dn (Below.refl _ _) nq)
              have HT5 := Lib.hid (HT4.out.trans (ht5.mono (fun _ h => h.elim)))
              have HX5 := Lib.hid (HX4.out.keep ht5 (fun h => h))
              have HTB5 := Lib.hid (HTB4.out.tch ht5 (fun h => h))
              have HMP5 := Lib.hid (HMP4.out.tch ht5 (fun h => h))
              have HF5 := Lib.hid (show FlAt W5 q f from by
                obtain ⟨y0, y1, y2, y3, y4⟩ := HF4.out
                exact ⟨ht5.cell y0 (fun h => h), ht5.cell y1 (fun h => h), ht5.cell y2 (fun h => h), ht5.cell y3 (fun h => h), ht5.cell y4 (fun h => h)⟩)
              clear hW5 ht5 HX4 HTB4 HMP4 HF4
              go_upto_if 63 with fail
              go_cut [] from 63 to 71 (fun wx => ∃ tr0 : Bool, Hid (tr0 = (tr || (!sy0 && decide ((trE l : Int) < qt)))) ∧ Hid (BxE wx (q + 1) ⟨x.f, x.dip, x.ep, tr0, cl0, now⟩) ∧ Hid (TbAt wx p qt qu b (trE l + one tr0 - one tr)) ∧ Hid (Tch (fun k => k = q + 1 ∨ k = p) W5 wx))
              case first =>
                cases hbb : (!tr && (!sy0 && decide ((trE l : Int) < qt))) with
                | true =>
                  have HBB := Lib.hid hbb
                  have htf : tr = false := by cases tr <;> simp at hbb ⊢
                  subst htf
                  have b9 := HX5.out.free
                  obtain ⟨e0', e1', e2', e3', e4', e5', e6', e7', e8', e9'⟩ := HX5.out.cs
                  obtain ⟨t0', t1', t2', t3'⟩ := HTB5.out.cs
                  have t9 := HTB5.out.free
                  have hpq : ¬ p = q + 1 := by have := HPQ.out; omega
                  have hpq2 : ¬ q + 1 = p := by omega
                  obtain ⟨W6, hW6⟩ : ∃ v, v = W5.setCell ⟨q + 1, 7, none⟩ (.bool true) := ⟨_, rfl⟩
                  have HX6 := Lib.hid (show BxE W6 (q + 1) ⟨x.f, x.dip, x.ep, true, cl0, now⟩ by rw [hW6]; exact HX5.out.trus true)
                  have HT6 := Lib.hid (show Tch (· = q + 1) W5 W6 by rw [hW6]; exact tch_cell _ _ _ _)
                  have HTB6 := Lib.hid (HTB5.out.tch HT6.out (fun e => hpq e))
                  have HW6 := Lib.hid hW6
                  clear hW6 hbb
                  go_upto_region 15 with fail
                  rw [← HW6.out]
                  clear e0' e1' e2' e3' e4' e5' e6' e7' e8' e9' b9 t0' t1' t2' t3' t9
                  obtain ⟨t0', t1', t2', t3'⟩ := HTB6.out.cs
                  have t9 := HTB6.out.free
                  have hlen := trE_le l
                  have ec : ((trE l : Nat) : Int) + 1 = ((trE l + 1 : Nat) : Int) := by omega
                  have EC := Lib.hid ec
                  clear ec
                  go_wp2
                  go_meet
                  case rel =>
                    rw [EC.out]
                    refine ⟨true, Lib.hid (by simpa using HBB.out.symm), Lib.hid (HX6.out.keep (tch_cell _ p 3 _) (fun e => hpq2 e)), Lib.hid (by simpa [one] using HTB6.out.set (m := trE l + 1)), Lib.hid ((HT6.out.mono (fun _ e => .inl e)).trans ((tch_cell _ p 3 _).mono (fun _ e => .inr e)))⟩
                | false =>
                  have HBB := Lib.hid (show tr = (tr || (!sy0 && decide ((trE l : Int) < qt))) by cases tr <;> simp_all)
                  clear hbb
                  go_wp2
                  go_meet
                  case rel => exact ⟨tr, HBB, HX5, Lib.hid (by rw [Nat.add_sub_cancel]; exact HTB5.out), Lib.hid (Tch.refl _ _)⟩
              case rest =>
                obtain ⟨tr0, HTR0, HX6, HTB6, HT6⟩ := hcut
                obtain ⟨W6, rfl⟩ : ∃ v, v = wc := ⟨_, rfl⟩
                have hbq := HBQ.out
                have hpq := HPQ.out
                have hbp := HNE.out
                have HMP6 := Lib.hid (HMP5.out.tch HT6.out (fun e => by rcases e with e | e; omega; exact hbp e))
                obtain ⟨y, hy⟩ : ∃ y : En, y = ⟨x.f, x.dip, x.ep, tr0, cl0, now⟩ := ⟨_, rfl⟩
                rw [← hy] at HX6
                have hxf : x.f = f := (findE_some HE0.out).2
                have hyf : y.f = f := by rw [hy]; exact hxf
                have HY2 := Lib.hid (show touchE qt f flags now l = (true, setE y l) by rw [HR.out, HY.out, hy, HTR0.out])
                have hfy : findE y.f l = some x := by rw [hyf]; exact HE0.out
                have HST := Lib.hid (show SrtE (setE y l) from HT.out.srt.set y)
                have HFI2 := Lib.hid (show ∀ e ∈ setE y l, FitE e from by
                  intro e he
                  obtain ⟨a, ha, rfl⟩ := List.mem_map.1 he
                  split
                  · have hfx := HT.out.fit x (findE_some HE0.out).1
                    rw [hy]
                    exact ⟨hfx.f, hfx.dip, hfx.ep, HOK.out⟩
                  · exact HT.out.fit a ha)
                have HCN := Lib.hid (show trE l + one tr0 - one tr = trE (setE y l) by
                  have h1 := (set_cnt HT.out.srt hfy).1
                  have h2 : y.tr = tr0 := by rw [hy]
                  rw [h2, ← HTR.out] at h1
                  omega)
                rw [HCN.out] at HTB6
                have HTW := Lib.hid (show Tch (fun k => k = q + 1 ∨ k = p) w W6 from by
                  have h1 : Tch (fun k => k = q + 1 ∨ k = p) w W2 := (tch_new HB2.out).mono (fun _ h => h.elim)
                  exact (h1.trans (HT5.out.mono (fun _ e => .inl e))).trans HT6.out)
                have HF6 := Lib.hid (show FlAt W6 q f from by
                  obtain ⟨y0, y1, y2, y3, y4⟩ := HF5.out
                  have hnq : ¬ (q = q + 1 ∨ q = p) := by omega
                  exact ⟨HT6.out.cell y0 hnq, HT6.out.cell y1 hnq, HT6.out.cell y2 hnq, HT6.out.cell y3 hnq, HT6.out.cell y4 hnq⟩)
                obtain ⟨w7, hr7, hm7, ht7, hs7⟩ := (HMP6.out.block (w' := W6.drew) rfl).store hn (x := y) (by rw [hyf]; exact hf) (fun g => findE_set HT.out.srt hfy) (by rw [setE_len, hfy]; rfl)
                rw [hyf] at hr7
                have HTO := Lib.hid (show TTo TSt w B F p qt qu (setE y l) w7 from by
                  have hq9 : q = w.heap.size := HQ.out
                  have h9 : Tch (fun k => k = b ∨ k = p) w W6 := HTW.out.old (fun k hk e => by rcases e with e | e; omega; exact .inr e)
                  exact HT.out.set HF.out hbp (h9.trans (Tch.mono (show Tch (· = b) W6 w7 from ⟨ht7.os, ht7.tape, ht7.output, ht7.size, ht7.block⟩) (fun k e => .inl e))) HST.out HFI2.out ((show TbAt W6.drew p qt qu b (trE (setE y l)) from HTB6.out).tch ht7 (fun (e : p = b) => hbp e.symm)) hm7)
                obtain ⟨f0, f1, f2, f3, f4⟩ := HF6.out
                obtain ⟨e0', e1', e2', e3', e4', e5', e6', e7', e8', e9'⟩ := HX6.out.cs
                have t2' := HTB6.out.cs.2.2.1
                have hS0 : W6.drew.cell? ⟨p, 2, none⟩ = some (.map (some b)) ∧ W6.drew.cell? ⟨q, 0, none⟩ = some (.int .i64 f.p) ∧ W6.drew.cell? ⟨q, 1, none⟩ = some (.int .u32 f.s) ∧ W6.drew.cell? ⟨q, 2, none⟩ = some (.int .i64 f.sp) ∧ W6.drew.cell? ⟨q, 3, none⟩ = some (.int .u32 f.d) ∧ W6.drew.cell? ⟨q, 4, none⟩ = some (.int .i64 f.dp) ∧
                    W6.drew.cell? ⟨q + 1, 0, none⟩ = some (.int .i64 y.f.p) ∧ W6.drew.cell? ⟨q + 1, 1, none⟩ = some (.int .u32 y.f.s) ∧ W6.drew.cell? ⟨q + 1, 2, none⟩ = some (.int .i64 y.f.sp) ∧ W6.drew.cell? ⟨q + 1, 3, none⟩ = some (.int .u32 y.f.d) ∧ W6.drew.cell? ⟨q + 1, 4, none⟩ = some (.int .i64 y.f.dp) ∧ W6.drew.cell? ⟨q + 1, 5, none⟩ = some (.int .u32 y.dip) ∧ W6.drew.cell? ⟨q + 1, 6, none⟩ = some (.int .i64 y.ep) ∧ W6.drew.cell? ⟨q + 1, 7, none⟩ = some (.bool y.tr) ∧ W6.drew.cell? ⟨q + 1, 8, none⟩ = some (.bool y.cl) ∧ W6.drew.cell? ⟨q + 1, 9, none⟩ = some (.int .i64 y.la) :=
                  ⟨t2', f0, f1, f2, f3, f4, e0', e1', e2', e3', e4', e5', e6', e7', e8', e9'⟩
                have hS7 : w7.cell? ⟨p, 2, none⟩ = some (.map (some b)) ∧ w7.cell? ⟨q, 0, none⟩ = some (.int .i64 f.p) ∧ w7.cell? ⟨q, 1, none⟩ = some (.int .u32 f.s) ∧ w7.cell? ⟨q, 2, none⟩ = some (.int .i64 f.sp) ∧ w7.cell? ⟨q, 3, none⟩ = some (.int .u32 f.d) ∧ w7.cell? ⟨q, 4, none⟩ = some (.int .i64 f.dp) ∧
                    w7.cell? ⟨q + 1, 0, none⟩ = some (.int .i64 y.f.p) ∧ w7.cell? ⟨q + 1, 1, none⟩ = some (.int .u32 y.f.s) ∧ w7.cell? ⟨q + 1, 2, none⟩ = some (.int .i64 y.f.sp) ∧ w7.cell? ⟨q + 1, 3, none⟩ = some (.int .u32 y.f.d) ∧ w7.cell? ⟨q + 1, 4, none⟩ = some (.int .i64 y.f.dp) ∧ w7.cell? ⟨q + 1, 5, none⟩ = some (.int .u32 y.dip) ∧ w7.cell? ⟨q + 1, 6, none⟩ = some (.int .i64 y.ep) ∧ w7.cell? ⟨q + 1, 7, none⟩ = some (.bool y.tr) ∧ w7.cell? ⟨q + 1, 8, none⟩ = some (.bool y.cl) ∧ w7.cell? ⟨q + 1, 9, none⟩ = some (.int .i64 y.la) :=
                  ⟨ht7.cell t2' (fun (e : p = b) => hbp e.symm), ht7.cell f0 (fun (e : q = b) => by omega), ht7.cell f1 (fun (e : q = b) => by omega), ht7.cell f2 (fun (e : q = b) => by omega), ht7.cell f3 (fun (e : q = b) => by omega), ht7.cell f4 (fun (e : q = b) => by omega), ht7.cell e0' (fun (e : q + 1 = b) => by omega), ht7.cell e1' (fun (e : q + 1 = b) => by omega), ht7.cell e2' (fun (e : q + 1 = b) => by omega), ht7.cell e3' (fun (e : q + 1 = b) => by omega), ht7.cell e4' (fun (e : q + 1 = b) => by omega), ht7.cell e5' (fun (e : q + 1 = b) => by omega), ht7.cell e6' (fun (e : q + 1 = b) => by omega), ht7.cell e7' (fun (e : q + 1 = b) => by omega), ht7.cell e8' (fun (e : q + 1 = b) => by omega), ht7.cell e9' (fun (e : q + 1 = b) => by omega)⟩
                clear hy hxf hyf hfy hm7 ht7 hs7 hbq hpq hbp HX6 HF6 HTB6 HT6 HMP6 HFI2 HST HCN HTW HTR0 f0 f1 f2 f3 f4 e0' e1' e2' e3' e4' e5' e6' e7' e8' e9' t2'
                go_upto_region 16 with fail
                go_region_held3 (fun wx => wx.cell? ⟨p, 2, none⟩ = some (.map (some b)) ∧ wx.cell? ⟨q, 0, none⟩ = some (.int .i64 f.p) ∧ wx.cell? ⟨q, 1, none⟩ = some (.int .u32 f.s) ∧ wx.cell? ⟨q, 2, none⟩ = some (.int .i64 f.sp) ∧ wx.cell? ⟨q, 3, none⟩ = some (.int .u32 f.d) ∧ wx.cell? ⟨q, 4, none⟩ = some (.int .i64 f.dp) ∧
                    wx.cell? ⟨q + 1, 0, none⟩ = some (.int .i64 y.f.p) ∧ wx.cell? ⟨q + 1, 1, none⟩ = some (.int .u32 y.f.s) ∧ wx.cell? ⟨q + 1, 2, none⟩ = some (.int .i64 y.f.sp) ∧ wx.cell? ⟨q + 1, 3, none⟩ = some (.int .u32 y.f.d) ∧ wx.cell? ⟨q + 1, 4, none⟩ = some (.int .i64 y.f.dp) ∧ wx.cell? ⟨q + 1, 5, none⟩ = some (.int .u32 y.dip) ∧ wx.cell? ⟨q + 1, 6, none⟩ = some (.int .i64 y.ep) ∧ wx.cell? ⟨q + 1, 7, none⟩ = some (.bool y.tr) ∧ wx.cell? ⟨q + 1, 8, none⟩ = some (.bool y.cl) ∧ wx.cell? ⟨q + 1, 9, none⟩ = some (.int .i64 y.la)) (first | (with_reducible exact hS0) | (with_reducible exact hS7) | fail)
                  (first | fail)
                go_wp2
                go_ret
                unfold TTch
                rw [HY2.out]
                exact ⟨rfl, HTO.out⟩
      · rw [decide_eq_false hok] at hti
        have HR := Lib.hid (touch_late (qt := qt) (f := f) (flags := flags) (l := l) hok)
        clear hok
        go_wp2_with fail
        refine hti.mono ?_
        rintro e w2 ⟨rfl, rfl⟩
        clear hti
        go_wp2
        go_ret
        unfold TTch
        rw [HR.out]
        exact ⟨rfl, HT.out.stay HB2.out⟩
end Go.Proofs.Ytpbgccidhpfmgaa
