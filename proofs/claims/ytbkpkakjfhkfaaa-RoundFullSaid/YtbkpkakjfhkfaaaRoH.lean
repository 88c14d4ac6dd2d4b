/- A round: Accepted, Promise. Conditions: those stated. -/
import Derived.Test.YtbkpkakjfhkfaaaRoG
namespace Go.Proofs.Ytbkpkakjfhkfaaa
open Go Go.RowKit
set_option linter.unusedVariables false
set_option linter.unusedSimpArgs false

theorem RX.hears {w0 w w1 : World} {p : Nat} {r : Rd} {K : Nat → Prop} {a1 : Option Addr} {c1 : Nat} {v1 : List Value} {a2 : Option Addr} {c2 : Nat} {v2 : List Value} (h : RX w0 w p r K a1 c1 v1 a2 c2 v2) (hb : Below w.heap.size w w1) {node : Int} (hm : node ∈ silN r.ans r.n) :
    RX w0 (w1.setCell ⟨p, 1 + (node - 16).toNat, none⟩ (.bool true)) p (heard r node) K a1 c1 v1 a2 c2 v2 ∧ Kpz K w (w1.setCell ⟨p, 1 + (node - 16).toNat, none⟩ (.bool true)) := by
  have h1 := h.new hb
  have hr := (silN_mem r.ans r.n node).1 hm
  have hn := h.ok.n.2
  have h2 := h1.1.put (r2 := heard r node) (tch_set w1 ⟨p, 1 + (node - 16).toNat, none⟩ (.bool true)) (h1.1.ob.put _ _ (rnL_set h.ok.len (by omega))) rfl rfl (fun e => e) (h.ok.heard node)
  exact ⟨h2.1, h1.2.trans h2.2⟩
theorem RX.stage3 {w0 w : World} {p : Nat} {r : Rd} {K : Nat → Prop} {a1 : Option Addr} {c1 : Nat} {v1 : List Value} {a2 : Option Addr} {c2 : Nat} {v2 : List Value} (h : RX w0 w p r K a1 c1 v1 a2 c2 v2) :
    RX w0 (w.setCell ⟨p, 12, none⟩ (.int .i64 3)) p { r with stage := 3 } K a1 c1 v1 a2 c2 v2 ∧ Kpz K w (w.setCell ⟨p, 12, none⟩ (.int .i64 3)) :=
  h.put (r2 := { r with stage := 3 }) (tch_set w ⟨p, 12, none⟩ _) (h.ob.put 12 (.int .i64 3) (rnL_stage h.ok.len 3)) rfl rfl (fun e => by simp at e) ⟨h.ok.n, h.ok.len, h.ok.b, h.ok.gr, h.ok.one, h.ok.wgood, h.ok.wty, h.ok.lty, h.ok.few, h.ok.es, by simp, fun e => by simp at e⟩
/-- What Promise and Accepted leave. -/
def StO (w0 w : World) (p : Nat) (r2 : Rd) (K : Nat → Prop) (e : Ending) (w' : World) : Prop := e = .returned (.int .i64 r2.stage) ∧ ROn w0 w' p r2 K ∧ Kpz K w w'
set_option maxRecDepth 100000 in
set_option maxHeartbeats 4000000 in
theorem acceptedR_c (w0 w : World) (p : Nat) (r : Rd) (K : Nat → Prop) (a1 : Option Addr) (c1 : Nat) (v1 : List Value) (a2 : Option Addr) (c2 : Nat) (v2 : List Value) (node : Int) (h : RX w0 w p r K a1 c1 v1 a2 c2 v2) :
    Calls Try.prog 54 #[.pointer (some ⟨p, 0, none⟩), .int .i64 node] w (StO w0 w p (accR r node) K) := by
  have hp0 : ((some (⟨p, 0, none⟩ : Addr)) == none) = false := rfl
  have CS := Lib.hid (stage_c w p r _ _ h.ob h.ok)
  have H := Lib.hid h
  obtain ⟨s, hs⟩ : ∃ s, s = r.stage := ⟨_, rfl⟩
  have HS := Lib.hid hs
  rw [← hs] at CS
  obtain ⟨R, hR⟩ : ∃ R, R = accR r node := ⟨_, rfl⟩
  rw [← hR]
  have HR := Lib.hid hR
  clear h hs hR
  go_enter Try.func54, Try.ntmps54
  go_wp2_with fail
  refine CS.out.mono ?_
  rintro e w1 ⟨rfl, hb1⟩
  have H1 := Lib.hid (H.out.new hb1).1
  have HK1 := Lib.hid (H.out.new hb1).2
  clear hb1 CS
  by_cases h2 : s = 2
  · subst h2
    have CH := Lib.hid (hearC_c w1 p r _ _ node H1.out.ob H1.out.ok)
    go_wp2_with fail
    refine CH.out.mono ?_
    intro e w2 hO
    by_cases hm : node ∈ silN r.ans r.n
    · obtain ⟨rfl, w3, hb3, rfl⟩ := hO.yes hm
      have HX := Lib.hid (H1.out.hears hb3 hm)
      obtain ⟨w4, hw4⟩ : ∃ w4, w4 = w3.setCell ⟨p, 1 + (node - 16).toNat, none⟩ (.bool true) := ⟨_, rfl⟩
      rw [← hw4] at HX ⊢
      have CM := Lib.hid (isMost_c w4 p (heard r node) _ _ HX.out.1.ob HX.out.1.ok)
      have HM := Lib.hid hm
      clear hO hb3 hw4 CH hm
      by_cases hmost : Most (heard r node)
      · rw [decide_eq_true hmost] at CM
        have HE : Hid (R = { heard r node with stage := 3 }) := Lib.hid (by rw [HR.out]; unfold accR; rw [if_pos ⟨HS.out.symm, HM.out⟩, if_pos hmost])
        clear hmost
        go_wp2_with fail
        refine CM.out.mono ?_
        rintro e w5 ⟨rfl, hb5⟩
        have HX5 := Lib.hid (HX.out.1.new hb5)
        have f12 := HX5.out.1.ob.free 12
        have c12 := (HX5.out.1.ob.cs HX5.out.1.ok.len).c12
        have HX6 := Lib.hid HX5.out.1.stage3
        clear hb5 CM
        go_upto_region 3 with fail
        obtain ⟨w6, hw6⟩ : ∃ w6, w6 = w5.setCell ⟨p, 12, none⟩ (.int .i64 3) := ⟨_, rfl⟩
        rw [← hw6] at HX6 ⊢
        have CS2 := Lib.hid (stage_c w6 p _ _ _ HX6.out.1.ob HX6.out.1.ok)
        clear hw6 f12 c12
        go_wp2_with fail
        refine CS2.out.mono ?_
        rintro e w7 ⟨rfl, hb7⟩
        have HX7 := Lib.hid (HX6.out.1.new hb7)
        clear hb7 CS2
        have HF : Hid (StO w0 w p R K (.returned (.int .i64 3)) w7) := Lib.hid (by
          rw [HE.out]
          exact ⟨rfl, ⟨_, _, _, _, _, _, HX7.out.1⟩, HK1.out.trans (HX.out.2.trans (HX5.out.2.trans (HX6.out.2.trans HX7.out.2)))⟩)
        go_wp2
        go_ret
        exact HF.out
      · rw [decide_eq_false hmost] at CM
        have HE : Hid (R = heard r node) := Lib.hid (by rw [HR.out]; unfold accR; rw [if_pos ⟨HS.out.symm, HM.out⟩, if_neg hmost])
        clear hmost
        go_wp2_with fail
        refine CM.out.mono ?_
        rintro e w5 ⟨rfl, hb5⟩
        have HX5 := Lib.hid (HX.out.1.new hb5)
        have CS2 := Lib.hid (stage_c w5 p _ _ _ HX5.out.1.ob HX5.out.1.ok)
        clear hb5 CM
        go_wp2_with fail
        refine CS2.out.mono ?_
        rintro e w7 ⟨rfl, hb7⟩
        have HX7 := Lib.hid (HX5.out.1.new hb7)
        clear hb7 CS2
        have HF : Hid (StO w0 w p R K (.returned (.int .i64 (heard r node).stage)) w7) := Lib.hid (by
          rw [HE.out]
          exact ⟨rfl, ⟨_, _, _, _, _, _, HX7.out.1⟩, HK1.out.trans (HX.out.2.trans (HX5.out.2.trans HX7.out.2))⟩)
        go_wp2
        go_ret
        exact HF.out
    · obtain ⟨rfl, hb2⟩ := hO.no hm
      have HE : Hid (R = r) := Lib.hid (by rw [HR.out]; unfold accR; rw [if_neg (fun h => hm h.2)])
      have HX5 := Lib.hid (H1.out.new hb2)
      have CS2 := Lib.hid (stage_c w2 p _ _ _ HX5.out.1.ob HX5.out.1.ok)
      clear hO hb2 hm CH
      go_wp2_with fail
      refine CS2.out.mono ?_
      rintro e w7 ⟨rfl, hb7⟩
      have HX7 := Lib.hid (HX5.out.1.new hb7)
      clear hb7 CS2
      have HF : Hid (StO w0 w p R K (.returned (.int .i64 r.stage)) w7) := Lib.hid (by
        rw [HE.out]
        exact ⟨rfl, ⟨_, _, _, _, _, _, HX7.out.1⟩, HK1.out.trans (HX5.out.2.trans HX7.out.2)⟩)
      go_wp2
      go_ret
      exact HF.out
  · have HE : Hid (R = r) := Lib.hid (by rw [HR.out]; unfold accR; rw [if_neg (fun h => h2 (by rw [HS.out]; exact h.1))])
    have hs2 : (s == 2) = false := by simp [h2]
    have CS2 := Lib.hid (stage_c w1 p _ _ _ H1.out.ob H1.out.ok)
    go_wp2_with fail
    refine CS2.out.mono ?_
    rintro e w7 ⟨rfl, hb7⟩
    have HX7 := Lib.hid (H1.out.new hb7)
    clear hb7 CS2
    have HF : Hid (StO w0 w p R K (.returned (.int .i64 r.stage)) w7) := Lib.hid (by
      rw [HE.out]
      exact ⟨rfl, ⟨_, _, _, _, _, _, HX7.out.1⟩, HK1.out.trans HX7.out.2⟩)
    go_wp2
    go_ret
    exact HF.out
theorem rnL_gr {r : Rd} {u v : Value} (h8 : r.ans.length = 8) (b : Bl) (x : Value) : (((rnL r u v).set 13 (.int .i64 b.n)).set 14 (.int .i64 b.node)).set 15 x = rnL { r with gr := b } u x := by
  obtain ⟨n, ans, b0, want, stage, gr, log⟩ := r
  match ans, h8 with
  | [_, _, _, _, _, _, _, _], _ => rfl
/-- The cells of the greatest ballot and the log. -/
def grSet (w : World) (p : Nat) (b : Bl) (x : Value) : World := ((w.setCell ⟨p, 13, none⟩ (.int .i64 b.n)).setCell ⟨p, 14, none⟩ (.int .i64 b.node)).setCell ⟨p, 15, none⟩ x
theorem tch_gr (w : World) (p : Nat) (b : Bl) (x : Value) : Tch (· = p) w (grSet w p b x) := ((tch_set w ⟨p, 13, none⟩ _).trans (tch_set _ ⟨p, 14, none⟩ _)).trans (tch_set _ ⟨p, 15, none⟩ _)
theorem ROb.gr {w : World} {p : Nat} {r : Rd} {u v : Value} (h : ROb w p r u v) (h8 : r.ans.length = 8) (b : Bl) (x : Value) : ROb (grSet w p b x) p { r with gr := b } u x := by
  have h0 := heap_setCell_same w p 13 _ _ (.int .i64 b.n) h
  have h1 := heap_setCell_same _ p 14 _ _ (.int .i64 b.node) h0
  have h2 := heap_setCell_same _ p 15 _ _ x h1
  unfold ROb
  rw [← rnL_gr (v := v) h8 b x]
  unfold grSet
  rw [h2]
  simp
/-- Another log is told. -/
theorem RX.told {w0 w w5 : World} {p : Nat} {r : Rd} {K : Nat → Prop} {a1 : Option Addr} {c1 : Nat} {v1 : List Value} {a2 : Option Addr} {c2 : Nat} {v2 : List Value} (h : RX w0 w p r K a1 c1 v1 a2 c2 v2) (hb : Below w.heap.size w w5) {acc : Bl} (ha : TyB acc) {lg : List Cm} (hg : GoodL lg) (ht : ∀ x ∈ lg, TyC x) {a5 : Option Addr} {c5 : Nat} {v5 : List Value} (hO : OwC w5 w.heap.size lg a5 c5 v5) :
    RX w0 (grSet w5 p acc (.slice a5 lg.length c5)) p { r with gr := acc, log := lg } K a1 c1 v1 a5 c5 v5 ∧ Kpz K w (grSet w5 p acc (.slice a5 lg.length c5)) := by
  have hT : Tch (fun k => k = p ∨ w.heap.size ≤ k) w (grSet w5 p acc (.slice a5 lg.length c5)) := ((tch_below hb).mono (fun k h => .inr h)).trans ((tch_gr w5 p acc _).mono (fun k h => .inl h))
  have h5 := (h.new hb).1
  refine h.setLog hT (fun k hk => hk.imp (fun e => e) (fun e => .inr e)) ((h5.ob.gr h.ok.len acc _).relog lg) rfl ((hO.keep (tch_gr w5 p acc _) (fun k hk => hO.notBox h5.ob k hk)).base h.bel.size) (fun k hk => .inr (hO.blks k hk).1) (fun _ g h1 h2 => ?_) ⟨h.ok.n, h.ok.len, h.ok.b, ha, h.ok.one, h.ok.wgood, h.ok.wty, ht, by have := hg.1; simp only; omega, fun x hx => goodC_es (hg.2.1 x hx), h.ok.st, fun _ => hg⟩
  have e1 := (h.want.own.lt g h1).2
  have e2 := (hO.own.lt g h2).1
  omega
set_option maxRecDepth 100000 in
set_option maxHeartbeats 8000000 in
theorem promiseR_c (w0 w : World) (p : Nat) (r : Rd) (K : Nat → Prop) (a1 : Option Addr) (c1 : Nat) (v1 : List Value) (a2 : Option Addr) (c2 : Nat) (v2 : List Value) (node : Int) (acc : Bl) (hacc : TyB acc) (lg : List Cm) (us : List Value) (a : Option Addr) (n c : Nat) (h : RX w0 w p r K a1 c1 v1 a2 c2 v2) (hI : InC w a n c lg us) (hK : ∀ k, BkC a us k → K k) (hn : n ≤ 4611686018427387904) :
    Calls Try.prog 49 #[.pointer (some ⟨p, 0, none⟩), .int .i64 node, acc.val, .slice a n c] w (StO w0 w p (promR r node acc lg) K) := by
  obtain ⟨wA, hwA⟩ : ∃ W, W = w.alloc acc.obj := ⟨_, rfl⟩
  have hA := bxB_new w acc
  rw [← hwA] at hA
  have hbA : Below w.heap.size w wA := by rw [hwA]; exact bl_al (Below.refl _ _) _
  obtain ⟨q, hq⟩ : ∃ p, p = w.heap.size := ⟨_, rfl⟩
  rw [← hq] at hA
  have HWA := Lib.hid (And.intro hwA hq)
  have HA := Lib.hid hA
  have hpq : p ≠ q := by have := h.ob.lt; omega
  have hp0 : ((some (⟨p, 0, none⟩ : Addr)) == none) = false := rfl
  have HX0 := Lib.hid (h.new hbA)
  have HI := Lib.hid (hI.below hbA)
  have HKK := Lib.hid hK
  have HTC := Lib.hid hI.typ
  have HTA := Lib.hid hacc
  have hlen := hI.len
  have CS := Lib.hid (stage_c wA p r _ _ HX0.out.1.ob HX0.out.1.ok)
  obtain ⟨s, hs⟩ : ∃ s, s = r.stage := ⟨_, rfl⟩
  have HS := Lib.hid hs
  rw [← hs] at CS
  obtain ⟨R, hR⟩ : ∃ R, R = promR r node acc lg := ⟨_, rfl⟩
  rw [← hR]
  have HR := Lib.hid hR
  have q0 := nilEl
  have q1 := nilNe
  have q9 := nine_neq
  obtain ⟨x, y⟩ := acc
  clear h hs hR hwA hA hbA hq hI hK hacc
  go_enter Try.func49, Try.ntmps49
  go_upto_region 1 with fail
  rw [show w.alloc (.cells #[.int .i64 x, .int .i64 y] tyB2) = wA from HWA.out.1.symm, ← HWA.out.2]
  go_wp2_with fail
  refine CS.out.mono ?_
  rintro e w1 ⟨rfl, hb1⟩
  have HX1 := Lib.hid (HX0.out.1.new hb1)
  have HI1 := Lib.hid (HI.out.below hb1)
  have HA1 := Lib.hid (HA.out.later hb1)
  clear hb1 CS
  by_cases h2 : s = 1
  · subst h2
    have CK := Lib.hid (checkLog_c lg us a n c w1 HI1.out hn)
    go_wp2_with fail
    refine CK.out.mono ?_
    rintro e w2 ⟨rfl, hb2⟩
    have HX2 := Lib.hid (HX1.out.1.new hb2)
    have HI2 := Lib.hid (HI1.out.below hb2)
    have HA2 := Lib.hid (HA1.out.later hb2)
    clear hb2 CK
    by_cases hg : GoodL lg
    · rw [if_pos hg, show errF 0 = .nilIface from rfl]
      have HG := Lib.hid hg
      have CH := Lib.hid (hearC_c w2 p r _ _ node HX2.out.1.ob HX2.out.1.ok)
      clear hg
      go_wp2_with fail
      refine CH.out.mono ?_
      intro e w3 hO
      by_cases hm : node ∈ silN r.ans r.n
      · obtain ⟨rfl, w4, hb4, rfl⟩ := hO.yes hm
        have HX3 := Lib.hid (HX2.out.1.hears hb4 hm)
        have HT3 := Lib.hid (((tch_new hb4).mono (fun _ h => h.elim)).trans (tch_set w4 ⟨p, 1 + (node - 16).toNat, none⟩ (.bool true)) : Tch (· = p) w2 (w4.setCell ⟨p, 1 + (node - 16).toNat, none⟩ (.bool true)))
        obtain ⟨w5, hw5⟩ : ∃ w5, w5 = w4.setCell ⟨p, 1 + (node - 16).toNat, none⟩ (.bool true) := ⟨_, rfl⟩
        rw [← hw5] at HX3 HT3 ⊢
        have HI3 := Lib.hid (HI2.out.keep HT3.out (fun k hk e => HX3.out.1.away k (.inl e) (HKK.out k hk)))
        have hA3 : BxB w5 q ⟨x, y⟩ := HT3.out.at HA2.out (fun e => hpq e.symm)
        have HM := Lib.hid hm
        have HRY : Hid (R = if Most (greater (heard r node) ⟨x, y⟩ lg) then chooseR (greater (heard r node) ⟨x, y⟩ lg) else greater (heard r node) ⟨x, y⟩ lg) := Lib.hid (by rw [HR.out]; unfold promR; rw [if_pos ⟨HS.out.symm, HG.out, HM.out⟩])
        have HA3 := Lib.hid hA3
        obtain ⟨r3, hr3⟩ : ∃ r3, r3 = heard r node := ⟨_, rfl⟩
        rw [← hr3] at HRY HX3
        have HS3 : Hid (r3.stage = 1) := Lib.hid (by rw [hr3]; exact HS.out.symm)
        have HK3 : Hid (Kpz K w w5) := Lib.hid (HX0.out.2.trans (HX1.out.2.trans (HX2.out.2.trans HX3.out.2)))
        have hcs := HX3.out.1.ob.cs HX3.out.1.ok.len
        have hS0 : w5.drew.cell? ⟨p, 13, none⟩ = some (.int .i64 r3.gr.n) ∧ w5.drew.cell? ⟨p, 14, none⟩ = some (.int .i64 r3.gr.node) ∧ w5.drew.cell? ⟨q, 0, none⟩ = some (.int .i64 x) ∧ w5.drew.cell? ⟨q, 1, none⟩ = some (.int .i64 y) := ⟨hcs.c13, hcs.c14, hA3.at.1, hA3.at.2⟩
        have CL := Lib.hid (less_c r3.gr ⟨x, y⟩ w5.drew)
        obtain ⟨g, hgr⟩ : ∃ g, g = r3.gr := ⟨_, rfl⟩
        rw [← hgr] at hS0 CL
        have HGR := Lib.hid hgr
        obtain ⟨gx, gy⟩ := g
        have HX := Lib.hid HX3.out.1
        clear hO hb4 hw5 CH hm hA3 hr3 hcs hgr
        go_upto_region 3 with fail
        go_region_held3 (fun wx => wx.cell? ⟨p, 13, none⟩ = some (.int .i64 gx) ∧ wx.cell? ⟨p, 14, none⟩ = some (.int .i64 gy) ∧ wx.cell? ⟨q, 0, none⟩ = some (.int .i64 x) ∧ wx.cell? ⟨q, 1, none⟩ = some (.int .i64 y)) (first | (with_reducible exact hS0) | (with_reducible assumption) | fail)
          (first
            | (go_at_call 42; (with_reducible refine CL.out.mono ?_); rintro e w6 ⟨rfl, hb6⟩; have hS1 := (show w6.cell? ⟨p, 13, none⟩ = some (.int .i64 gx) ∧ w6.cell? ⟨p, 14, none⟩ = some (.int .i64 gy) ∧ w6.cell? ⟨q, 0, none⟩ = some (.int .i64 x) ∧ w6.cell? ⟨q, 1, none⟩ = some (.int .i64 y) from ⟨cell_later hb6 hS0.1, cell_later hb6 hS0.2.1, cell_later hb6 hS0.2.2.1, cell_later hb6 hS0.2.2.2⟩))
            | fail)
        all_goals
          have hb56 : Below w5.heap.size w5 w6 := bl_tr (Below.refl _ _).drew hb6
          have HX6 := Lib.hid (HX.out.new hb56)
          have HI6 := Lib.hid (HI3.out.below hb56)
          have HA6 := Lib.hid (HA3.out.later hb56)
          clear hS0 hS1 hb6 hb56 CL
          by_cases hlt : LtB ⟨gx, gy⟩ ⟨x, y⟩
          · have HGT : Hid (greater r3 ⟨x, y⟩ lg = { r3 with gr := ⟨x, y⟩, log := lg }) := Lib.hid (by unfold greater; rw [if_pos (by rw [← HGR.out]; exact hlt)])
            have hd : decide (LtB ⟨gx, gy⟩ ⟨x, y⟩) = true := decide_eq_true hlt
            rw [hd]
            clear hlt hd
            go_upto_region 4 with fail
            have CC := Lib.hid (copyK_c lg us a n c w6.drew (HI6.out.below (Below.refl _ _).drew) (by have := HG.out.1; omega) (fun z hz => by have := goodC_es (HG.out.2.1 z hz); omega))
            have hS0 : w6.drew.cell? ⟨q, 0, none⟩ = some (.int .i64 x) ∧ w6.drew.cell? ⟨q, 1, none⟩ = some (.int .i64 y) := ⟨HA6.out.at.1, HA6.out.at.2⟩
            go_region_held3 (fun wx => wx.cell? ⟨q, 0, none⟩ = some (.int .i64 x) ∧ wx.cell? ⟨q, 1, none⟩ = some (.int .i64 y)) (first | (with_reducible exact hS0) | (with_reducible assumption) | (with_reducible exact hS2 _ _) | (with_reducible exact hS3 _ _ _) | fail)
              (first
                | (go_at_call 94; (with_reducible refine CC.out.mono ?_); rintro e w7 ⟨⟨a7, c7, v7, rfl, hO7⟩, hb7⟩; have hS1 := (show w7.cell? ⟨q, 0, none⟩ = some (.int .i64 x) ∧ w7.cell? ⟨q, 1, none⟩ = some (.int .i64 y) from ⟨cell_later hb7 hS0.1, cell_later hb7 hS0.2⟩); have hob7 := ((HX6.out.1.new (Below.refl _ _).drew).1.new hb7).1.ob; have hcs7 := hob7.cs HX6.out.1.ok.len; have d13 := hcs7.c13; have d14 := hcs7.c14; have d15 := hcs7.c15; have f13 := hob7.free 13; have f14 := hob7.free 14; have f15 := hob7.free 15; have hS2 := (fun (u v : Value) => (show ((w7.setCell ⟨p, 13, none⟩ u).setCell ⟨p, 14, none⟩ v).cell? ⟨q, 0, none⟩ = some (.int .i64 x) ∧ ((w7.setCell ⟨p, 13, none⟩ u).setCell ⟨p, 14, none⟩ v).cell? ⟨q, 1, none⟩ = some (.int .i64 y) from ⟨((tch_set w7 ⟨p, 13, none⟩ u).trans (tch_set _ ⟨p, 14, none⟩ v)).cell hS1.1 hpq.symm, ((tch_set w7 ⟨p, 13, none⟩ u).trans (tch_set _ ⟨p, 14, none⟩ v)).cell hS1.2 hpq.symm⟩)); have hS3 := (fun (u v z : Value) => (show (((w7.setCell ⟨p, 13, none⟩ u).setCell ⟨p, 14, none⟩ v).setCell ⟨p, 15, none⟩ z).cell? ⟨q, 0, none⟩ = some (.int .i64 x) ∧ (((w7.setCell ⟨p, 13, none⟩ u).setCell ⟨p, 14, none⟩ v).setCell ⟨p, 15, none⟩ z).cell? ⟨q, 1, none⟩ = some (.int .i64 y) from ⟨(tch_set _ ⟨p, 15, none⟩ z).cell (hS2 u v).1 hpq.symm, (tch_set _ ⟨p, 15, none⟩ z).cell (hS2 u v).2 hpq.symm⟩)))
                | fail)
            all_goals
              obtain ⟨w8, hw8⟩ : ∃ w8, w8 = grSet w7 p ⟨x, y⟩ (.slice a7 lg.length c7) := ⟨_, rfl⟩
              rw [show ((w7.setCell ⟨p, 13, none⟩ (.int .i64 x)).setCell ⟨p, 14, none⟩ (.int .i64 y)).setCell ⟨p, 15, none⟩ (.slice a7 n c7) = w8 from (by rw [hw8, hlen]; rfl)]
              have HX8 := Lib.hid (HX6.out.1.told (bl_tr (Below.refl _ _).drew hb7) HTA.out HG.out HTC.out (hO7.base (show w6.heap.size ≤ w6.drew.heap.size from Nat.le_refl _)))
              rw [← hw8, ← HGT.out] at HX8
              clear hS0 hS1 hS2 hS3 hob7 hcs7 d13 d14 d15 f13 f14 f15 hO7 hb7 hw8 CC HGT
              have HK8 : Hid (Kpz K w w8) := Lib.hid (HK3.out.trans (HX6.out.2.trans HX8.out.2))
              obtain ⟨r8, hr8⟩ : ∃ r8, r8 = greater r3 ⟨x, y⟩ lg := ⟨_, rfl⟩
              rw [← hr8] at HX8 HRY
              have HS8 : Hid (r8.stage = 1) := Lib.hid (by rw [hr8, (greater_stage _ _ _).1]; exact HS3.out)
              have CM := Lib.hid (isMost_c w8 p r8 _ _ HX8.out.1.ob HX8.out.1.ok)
              clear hr8
              by_cases hmost : Most r8
              · rw [decide_eq_true hmost] at CM
                have HE : Hid (R = chooseR r8) := Lib.hid (by rw [HRY.out, if_pos hmost])
                clear hmost
                go_wp2_with fail
                refine CM.out.mono ?_
                rintro e w9 ⟨rfl, hb9⟩
                have HX9 := Lib.hid (HX8.out.1.new hb9)
                have CX := Lib.hid (choose_c w0 w9 p r8 K _ _ _ _ _ _ HX9.out.1 HS8.out (HX9.out.1.ok.ask HS8.out).1)
                clear hb9 CM
                go_wp2_with fail
                refine CX.out.mono ?_
                rintro e wa ⟨rfl, hRO, hka⟩
                obtain ⟨b1, d1, u1, b2, d2, u2, hXa⟩ := hRO
                have c12 := (hXa.ob.cs hXa.ok.len).c12
                have HF : Hid (StO w0 w p R K (.returned (.int .i64 (chooseR r8).stage)) wa) := Lib.hid (by
                  rw [HE.out]
                  exact ⟨rfl, ⟨_, _, _, _, _, _, hXa⟩, HK8.out.trans (HX9.out.2.trans hka)⟩)
                clear hXa hka CX
                go_wp2
                go_ret
                exact HF.out
              · rw [decide_eq_false hmost] at CM
                have HE : Hid (R = r8) := Lib.hid (by rw [HRY.out, if_neg hmost])
                clear hmost
                go_wp2_with fail
                refine CM.out.mono ?_
                rintro e w9 ⟨rfl, hb9⟩
                have HX9 := Lib.hid (HX8.out.1.new hb9)
                have c12 := (HX9.out.1.ob.cs HX9.out.1.ok.len).c12
                have HF : Hid (StO w0 w p R K (.returned (.int .i64 r8.stage)) w9) := Lib.hid (by
                  rw [HE.out]
                  exact ⟨rfl, ⟨_, _, _, _, _, _, HX9.out.1⟩, HK8.out.trans HX9.out.2⟩)
                clear hb9 CM
                go_wp2
                go_ret
                exact HF.out
          · have HGT : Hid (greater r3 ⟨x, y⟩ lg = r3) := Lib.hid (by unfold greater; rw [if_neg (by rw [← HGR.out]; exact hlt)])
            have hd : decide (LtB ⟨gx, gy⟩ ⟨x, y⟩) = false := decide_eq_false hlt
            rw [hd]
            have HX8 : Hid (RX w0 w6 p (greater r3 ⟨x, y⟩ lg) K a1 c1 v1 a2 c2 v2 ∧ Kpz K w6 w6) := Lib.hid (by rw [HGT.out]; exact ⟨HX6.out.1, Kpz.refl _ _⟩)
            clear hlt hd
            have HK8 : Hid (Kpz K w w6) := Lib.hid (HK3.out.trans (HX6.out.2.trans HX8.out.2))
            obtain ⟨r8, hr8⟩ : ∃ r8, r8 = greater r3 ⟨x, y⟩ lg := ⟨_, rfl⟩
            rw [← hr8] at HX8 HRY
            have HS8 : Hid (r8.stage = 1) := Lib.hid (by rw [hr8, (greater_stage _ _ _).1]; exact HS3.out)
            have CM := Lib.hid (isMost_c w6 p r8 _ _ HX8.out.1.ob HX8.out.1.ok)
            clear hr8
            by_cases hmost : Most r8
            · rw [decide_eq_true hmost] at CM
              have HE : Hid (R = chooseR r8) := Lib.hid (by rw [HRY.out, if_pos hmost])
              clear hmost
              go_wp2_with fail
              refine CM.out.mono ?_
              rintro e w9 ⟨rfl, hb9⟩
              have HX9 := Lib.hid (HX8.out.1.new hb9)
              have CX := Lib.hid (choose_c w0 w9 p r8 K _ _ _ _ _ _ HX9.out.1 HS8.out (HX9.out.1.ok.ask HS8.out).1)
              clear hb9 CM
              go_wp2_with fail
              refine CX.out.mono ?_
              rintro e wa ⟨rfl, hRO, hka⟩
              obtain ⟨b1, d1, u1, b2, d2, u2, hXa⟩ := hRO
              have c12 := (hXa.ob.cs hXa.ok.len).c12
              have HF : Hid (StO w0 w p R K (.returned (.int .i64 (chooseR r8).stage)) wa) := Lib.hid (by
                rw [HE.out]
                exact ⟨rfl, ⟨_, _, _, _, _, _, hXa⟩, HK8.out.trans (HX9.out.2.trans hka)⟩)
              clear hXa hka CX
              go_wp2
              go_ret
              exact HF.out
            · rw [decide_eq_false hmost] at CM
              have HE : Hid (R = r8) := Lib.hid (by rw [HRY.out, if_neg hmost])
              clear hmost
              go_wp2_with fail
              refine CM.out.mono ?_
              rintro e w9 ⟨rfl, hb9⟩
              have HX9 := Lib.hid (HX8.out.1.new hb9)
              have c12 := (HX9.out.1.ob.cs HX9.out.1.ok.len).c12
              have HF : Hid (StO w0 w p R K (.returned (.int .i64 r8.stage)) w9) := Lib.hid (by
                rw [HE.out]
                exact ⟨rfl, ⟨_, _, _, _, _, _, HX9.out.1⟩, HK8.out.trans HX9.out.2⟩)
              clear hb9 CM
              go_wp2
              go_ret
              exact HF.out
      · obtain ⟨rfl, hb3⟩ := hO.no hm
        have HE : Hid (R = r) := Lib.hid (by rw [HR.out]; unfold promR; rw [if_neg (fun h => hm h.2.2)])
        have HX3 := Lib.hid (HX2.out.1.new hb3)
        have HK3 : Hid (Kpz K w w3) := Lib.hid (HX0.out.2.trans (HX1.out.2.trans (HX2.out.2.trans HX3.out.2)))
        clear hO hb3 hm CH
        have CS2 := Lib.hid (stage_c w3 p _ _ _ HX3.out.1.ob HX3.out.1.ok)
        go_wp2_with fail
        refine CS2.out.mono ?_
        rintro e w7 ⟨rfl, hb7⟩
        have HX7 := Lib.hid (HX3.out.1.new hb7)
        clear hb7 CS2
        have HF : Hid (StO w0 w p R K (.returned (.int .i64 r.stage)) w7) := Lib.hid (by
          rw [HE.out]
          exact ⟨rfl, ⟨_, _, _, _, _, _, HX7.out.1⟩, HK3.out.trans HX7.out.2⟩)
        go_wp2
        go_ret
        exact HF.out
    · rw [if_neg hg, show errF 9 = errnoF 9 from rfl]
      have HE : Hid (R = r) := Lib.hid (by rw [HR.out]; unfold promR; rw [if_neg (fun h => hg h.2.1)])
      have HK3 : Hid (Kpz K w w2) := Lib.hid (HX0.out.2.trans (HX1.out.2.trans HX2.out.2))
      have CS2 := Lib.hid (stage_c w2 p _ _ _ HX2.out.1.ob HX2.out.1.ok)
      have HX3 := HX2
      clear hg
      go_wp2_with fail
      refine CS2.out.mono ?_
      rintro e w7 ⟨rfl, hb7⟩
      have HX7 := Lib.hid (HX3.out.1.new hb7)
      clear hb7 CS2
      have HF : Hid (StO w0 w p R K (.returned (.int .i64 r.stage)) w7) := Lib.hid (by
        rw [HE.out]
        exact ⟨rfl, ⟨_, _, _, _, _, _, HX7.out.1⟩, HK3.out.trans HX7.out.2⟩)
      go_wp2
      go_ret
      exact HF.out
  · have HE : Hid (R = r) := Lib.hid (by rw [HR.out]; unfold promR; rw [if_neg (fun h => h2 (by rw [HS.out]; exact h.1))])
    have hs2 : (s == 1) = false := by simp [h2]
    have HK3 : Hid (Kpz K w w1) := Lib.hid (HX0.out.2.trans HX1.out.2)
    have CS2 := Lib.hid (stage_c w1 p _ _ _ HX1.out.1.ob HX1.out.1.ok)
    have HX3 := HX1
    go_wp2_with fail
    refine CS2.out.mono ?_
    rintro e w7 ⟨rfl, hb7⟩
    have HX7 := Lib.hid (HX3.out.1.new hb7)
    clear hb7 CS2
    have HF : Hid (StO w0 w p R K (.returned (.int .i64 r.stage)) w7) := Lib.hid (by
      rw [HE.out]
      exact ⟨rfl, ⟨_, _, _, _, _, _, HX7.out.1⟩, HK3.out.trans HX7.out.2⟩)
    go_wp2
    go_ret
    exact HF.out
end Go.Proofs.Ytbkpkakjfhkfaaa
