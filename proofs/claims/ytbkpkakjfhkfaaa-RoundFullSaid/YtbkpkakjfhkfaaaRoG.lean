/- A round: Log, Place, Missing, Ballot, New; a nil round. Conditions: those stated. -/
import Derived.Test.YtbkpkakjfhkfaaaRoF
namespace Go.Proofs.Ytbkpkakjfhkfaaa
open Go Go.RowKit
set_option linter.unusedVariables false
set_option linter.unusedSimpArgs false

theorem OkR.stages {r : Rd} (h : OkR r) : r.stage = 1 ∨ r.stage = 2 ∨ r.stage = 3 ∨ r.stage = 4 := by have := h.st; omega
/-- Log's answer. -/
def LogO (w : World) (r : Rd) (e : Ending) (w' : World) : Prop := (r.stage = 2 ∨ r.stage = 3 → GotC w r.log e w') ∧ (¬ (r.stage = 2 ∨ r.stage = 3) → e = .returned (.slice none 0 0)) ∧ Below w.heap.size w w'
def MisO (w : World) (r : Rd) (e : Ending) (w' : World) : Prop := (r.stage = 1 ∨ r.stage = 2 → GotI w (silN r.ans r.n) e w') ∧ (¬ (r.stage = 1 ∨ r.stage = 2) → e = .returned (.slice none 0 0)) ∧ Below w.heap.size w w'
def placeR (r : Rd) : Int := if r.stage = 2 ∨ r.stage = 3 then findR r else 0
section
variable {w0 : World} {p : Nat} {r : Rd} {K : Nat → Prop} {a1 : Option Addr} {c1 : Nat} {v1 : List Value} {a2 : Option Addr} {c2 : Nat} {v2 : List Value}
set_option maxRecDepth 100000 in
set_option maxHeartbeats 2000000 in
theorem log_cR (w : World) (h : RX w0 w p r K a1 c1 v1 a2 c2 v2) :
    Calls Try.prog 52 #[.pointer (some ⟨p, 0, none⟩)] w (LogO w r) := by
  have hp0 : ((some (⟨p, 0, none⟩ : Addr)) == none) = false := rfl
  have CS := Lib.hid (stage_c w p r _ _ h.ob h.ok)
  have H := Lib.hid h
  obtain ⟨s, hs⟩ : ∃ s, s = r.stage := ⟨_, rfl⟩
  have hss : s = 1 ∨ s = 2 ∨ s = 3 ∨ s = 4 := by rw [hs]; exact h.ok.stages
  have HS := Lib.hid hs
  rw [← hs] at CS
  clear h hs
  go_enter Try.func52, Try.ntmps52
  go_wp2_with fail
  refine CS.out.mono ?_
  rintro e w1 ⟨rfl, hb1⟩
  have HB1 := Lib.hid hb1
  clear hb1 CS
  rcases hss with rfl | rfl | rfl | rfl
  · have HF : Hid (LogO w r (.returned (.slice none 0 0)) w1) := Lib.hid ⟨fun h => by have := HS.out; omega, fun _ => rfl, HB1.out⟩
    go_wp2
    go_ret
    exact HF.out
  · have c15 := (((H.out.new HB1.out).1).ob.cs H.out.ok.len).c15
    have CC := Lib.hid (copyK_c r.log v2 a2 r.log.length c2 w1 (((H.out.new HB1.out).1).log.in H.out.ok.lty) (by have := H.out.ok.few; omega) (fun x hx => by have := H.out.ok.es x hx; omega))
    go_wp2_with fail
    refine CC.out.mono ?_
    rintro e w2 ⟨⟨a5, c5, v5, rfl, hO5⟩, hb2⟩
    have HF : Hid (LogO w r (.returned (.slice a5 r.log.length c5)) w2) := Lib.hid ⟨fun _ => ⟨⟨a5, c5, v5, rfl, hO5.base HB1.out.size⟩, bl_tr HB1.out hb2⟩, fun h => by have := HS.out; omega, bl_tr HB1.out hb2⟩
    clear hO5 hb2 c15 CC
    go_wp2
    go_ret
    exact HF.out
  · have c15 := (((H.out.new HB1.out).1).ob.cs H.out.ok.len).c15
    have CC := Lib.hid (copyK_c r.log v2 a2 r.log.length c2 w1 (((H.out.new HB1.out).1).log.in H.out.ok.lty) (by have := H.out.ok.few; omega) (fun x hx => by have := H.out.ok.es x hx; omega))
    go_wp2_with fail
    refine CC.out.mono ?_
    rintro e w2 ⟨⟨a5, c5, v5, rfl, hO5⟩, hb2⟩
    have HF : Hid (LogO w r (.returned (.slice a5 r.log.length c5)) w2) := Lib.hid ⟨fun _ => ⟨⟨a5, c5, v5, rfl, hO5.base HB1.out.size⟩, bl_tr HB1.out hb2⟩, fun h => by have := HS.out; omega, bl_tr HB1.out hb2⟩
    clear hO5 hb2 c15 CC
    go_wp2
    go_ret
    exact HF.out
  · have HF : Hid (LogO w r (.returned (.slice none 0 0)) w1) := Lib.hid ⟨fun h => by have := HS.out; omega, fun _ => rfl, HB1.out⟩
    go_wp2
    go_ret
    exact HF.out
set_option maxRecDepth 100000 in
set_option maxHeartbeats 2000000 in
theorem place_cR (w : World) (h : RX w0 w p r K a1 c1 v1 a2 c2 v2) :
    Calls Try.prog 53 #[.pointer (some ⟨p, 0, none⟩)] w fun e w' => e = .returned (.int .i64 (placeR r)) ∧ Below w.heap.size w w' := by
  have hp0 : ((some (⟨p, 0, none⟩ : Addr)) == none) = false := rfl
  have CS := Lib.hid (stage_c w p r _ _ h.ob h.ok)
  have H := Lib.hid h
  obtain ⟨s, hs⟩ : ∃ s, s = r.stage := ⟨_, rfl⟩
  have hss : s = 1 ∨ s = 2 ∨ s = 3 ∨ s = 4 := by rw [hs]; exact h.ok.stages
  have HS := Lib.hid hs
  rw [← hs] at CS
  obtain ⟨R, hR⟩ : ∃ R, R = placeR r := ⟨_, rfl⟩
  rw [← hR]
  have HR := Lib.hid hR
  clear h hs hR
  go_enter Try.func53, Try.ntmps53
  go_wp2_with fail
  refine CS.out.mono ?_
  rintro e w1 ⟨rfl, hb1⟩
  have HB1 := Lib.hid hb1
  clear hb1 CS
  rcases hss with rfl | rfl | rfl | rfl
  · have HE : Hid (R = 0) := Lib.hid (by rw [HR.out]; unfold placeR; rw [if_neg (by have := HS.out; omega)])
    go_wp2
    go_ret
    exact ⟨by rw [HE.out]; rfl, HB1.out⟩
  · have H1 := (H.out.new HB1.out).1
    have CC := Lib.hid (find_c w1 p r a1 a2 c1 c2 v1 v2 H1.ob H1.ok (H1.want.in H1.ok.wty) (H1.log.in H1.ok.lty))
    have HE : Hid (R = findR r) := Lib.hid (by rw [HR.out]; unfold placeR; rw [if_pos (by have := HS.out; omega)])
    clear H1
    go_wp2_with fail
    refine CC.out.mono ?_
    rintro e w2 ⟨rfl, hb2⟩
    have HB2 := Lib.hid (bl_tr HB1.out hb2)
    clear hb2 CC
    go_wp2
    go_ret
    exact ⟨by rw [HE.out]; rfl, HB2.out⟩
  · have H1 := (H.out.new HB1.out).1
    have CC := Lib.hid (find_c w1 p r a1 a2 c1 c2 v1 v2 H1.ob H1.ok (H1.want.in H1.ok.wty) (H1.log.in H1.ok.lty))
    have HE : Hid (R = findR r) := Lib.hid (by rw [HR.out]; unfold placeR; rw [if_pos (by have := HS.out; omega)])
    clear H1
    go_wp2_with fail
    refine CC.out.mono ?_
    rintro e w2 ⟨rfl, hb2⟩
    have HB2 := Lib.hid (bl_tr HB1.out hb2)
    clear hb2 CC
    go_wp2
    go_ret
    exact ⟨by rw [HE.out]; rfl, HB2.out⟩
  · have HE : Hid (R = 0) := Lib.hid (by rw [HR.out]; unfold placeR; rw [if_neg (by have := HS.out; omega)])
    go_wp2
    go_ret
    exact ⟨by rw [HE.out]; rfl, HB1.out⟩
set_option maxRecDepth 100000 in
set_option maxHeartbeats 2000000 in
theorem missing_cR (w : World) (h : RX w0 w p r K a1 c1 v1 a2 c2 v2) :
    Calls Try.prog 55 #[.pointer (some ⟨p, 0, none⟩)] w (MisO w r) := by
  have hp0 : ((some (⟨p, 0, none⟩ : Addr)) == none) = false := rfl
  have CS := Lib.hid (stage_c w p r _ _ h.ob h.ok)
  have H := Lib.hid h
  obtain ⟨s, hs⟩ : ∃ s, s = r.stage := ⟨_, rfl⟩
  have hss : s = 1 ∨ s = 2 ∨ s = 3 ∨ s = 4 := by rw [hs]; exact h.ok.stages
  have HS := Lib.hid hs
  rw [← hs] at CS
  clear h hs
  go_enter Try.func55, Try.ntmps55
  go_wp2_with fail
  refine CS.out.mono ?_
  rintro e w1 ⟨rfl, hb1⟩
  have HB1 := Lib.hid hb1
  clear hb1 CS
  rcases hss with rfl | rfl | rfl | rfl
  · have H1 := (H.out.new HB1.out).1
    have CC := Lib.hid (silent_c w1 p r.n r.ans (H1.ob.cw H1.ok.len) H1.ok.n.2)
    clear H1
    go_wp2_with fail
    refine CC.out.mono ?_
    rintro e w2 ⟨⟨a5, c5, rfl, hO5⟩, hb2⟩
    have HF : Hid (MisO w r (.returned (.slice a5 (silN r.ans r.n).length c5)) w2) := Lib.hid ⟨fun _ => ⟨⟨a5, c5, rfl, own_base hO5 HB1.out.size⟩, bl_tr HB1.out hb2⟩, fun h => by have := HS.out; omega, bl_tr HB1.out hb2⟩
    clear hO5 hb2 CC
    go_wp2
    go_ret
    exact HF.out
  · have H1 := (H.out.new HB1.out).1
    have CC := Lib.hid (silent_c w1 p r.n r.ans (H1.ob.cw H1.ok.len) H1.ok.n.2)
    clear H1
    go_wp2_with fail
    refine CC.out.mono ?_
    rintro e w2 ⟨⟨a5, c5, rfl, hO5⟩, hb2⟩
    have HF : Hid (MisO w r (.returned (.slice a5 (silN r.ans r.n).length c5)) w2) := Lib.hid ⟨fun _ => ⟨⟨a5, c5, rfl, own_base hO5 HB1.out.size⟩, bl_tr HB1.out hb2⟩, fun h => by have := HS.out; omega, bl_tr HB1.out hb2⟩
    clear hO5 hb2 CC
    go_wp2
    go_ret
    exact HF.out
  · have HF : Hid (MisO w r (.returned (.slice none 0 0)) w1) := Lib.hid ⟨fun h => by have := HS.out; omega, fun _ => rfl, HB1.out⟩
    go_wp2
    go_ret
    exact HF.out
  · have HF : Hid (MisO w r (.returned (.slice none 0 0)) w1) := Lib.hid ⟨fun h => by have := HS.out; omega, fun _ => rfl, HB1.out⟩
    go_wp2
    go_ret
    exact HF.out
end
set_option maxRecDepth 100000 in
set_option maxHeartbeats 2000000 in
theorem ballot_cR (w : World) (p : Nat) (r : Rd) (u v : Value) (h : ROb w p r u v) (ho : OkR r) :
    Calls Try.prog 56 #[.pointer (some ⟨p, 0, none⟩)] w fun e w' => e = .returned r.b.val ∧ Below w.heap.size w w' := by
  obtain ⟨w1, hw1⟩ : ∃ W, W = w.alloc bl0.obj := ⟨_, rfl⟩
  have hA := bxB_new w bl0
  rw [← hw1] at hA
  have hb1 : Below w.heap.size w w1 := by rw [hw1]; exact bl_al (Below.refl _ _) _
  obtain ⟨q, hq⟩ : ∃ p, p = w.heap.size := ⟨_, rfl⟩
  rw [← hq] at hA
  have HQ : Hid (q = w.heap.size ∧ p < q) := Lib.hid ⟨hq, by have := h.lt; omega⟩
  have HW1 := Lib.hid (And.intro hw1 hq)
  have HB := Lib.hid hb1
  have HA := Lib.hid hA
  have hcs := (h.below hb1).cs ho.len
  have c9 := hcs.c9
  have c10 := hcs.c10
  obtain ⟨z0, z1⟩ := hA.at
  have f0 : w1.frozen? ⟨q, 0, none⟩ = false := frozen_of_row w1 q 0 _ _ hA
  have f1 : w1.frozen? ⟨q, 1, none⟩ = false := frozen_of_row w1 q 1 _ _ hA
  have hne : ((some (⟨p, 0, none⟩ : Addr)) == none) = false := rfl
  obtain ⟨b, hb⟩ : ∃ b, b = r.b := ⟨_, rfl⟩
  rw [← hb] at c9 c10 ⊢
  obtain ⟨x, y⟩ := b
  clear hw1 hA hb1 hcs hq h ho hb
  go_enter Try.func56, Try.ntmps56
  go_upto_region 1 with fail
  rw [show w.alloc (.cells #[.int .i64 0, .int .i64 0] tyB2) = w1 from HW1.out.1.symm, ← HW1.out.2]
  go_wp2
  have hA6 : BxB ((w1.setCell ⟨q, 0, none⟩ (.int .i64 x)).setCell ⟨q, 1, none⟩ (.int .i64 y)) q ⟨x, y⟩ := by
    have h0 := heap_setCell_same w1 q 0 _ _ (.int .i64 x) HA.out
    exact heap_setCell_same _ q 1 _ _ (.int .i64 y) h0
  have hb6 : Below w.heap.size w ((w1.setCell ⟨q, 0, none⟩ (.int .i64 x)).setCell ⟨q, 1, none⟩ (.int .i64 y)) := bl_set (bl_set HB.out (by have := HQ.out; omega) _) (by have := HQ.out; omega) _
  obtain ⟨w6, hw6⟩ : ∃ v, v = (w1.setCell ⟨q, 0, none⟩ (.int .i64 x)).setCell ⟨q, 1, none⟩ (.int .i64 y) := ⟨_, rfl⟩
  rw [← hw6] at hA6 hb6 ⊢
  obtain ⟨y0, y1⟩ := hA6.at
  refine bodyPost_ret (v := Bl.val ⟨x, y⟩) (by simp [results, Try.results56, go_sem, y0, y1]) rfl ?_
  exact ⟨rfl, hb6⟩
/-- A new round. -/
def newR (n : Nat) (b : Bl) (want : List Cm) : Rd := ⟨n, none8, b, want, 1, bl0, []⟩
theorem newR_ok {n : Nat} {b : Bl} {want : List Cm} (hn : 1 ≤ n ∧ n ≤ 8) (hb : TyB b) (hw : want.length ≤ 1) (hg : GoodL want) (ht : ∀ x ∈ want, TyC x) : OkR (newR n b want) :=
  ⟨hn, rfl, hb, (show TyB bl0 from ⟨⟨by decide, by decide⟩, ⟨by decide, by decide⟩⟩), hw, hg, ht, fun x hx => (by cases hx), Nat.zero_le _, fun x hx => (by cases hx), (show (1 : Int) ≤ 1 ∧ (1 : Int) ≤ 4 from by decide), fun _ => (show GoodL [] from by decide)⟩
set_option maxRecDepth 100000 in
set_option maxHeartbeats 4000000 in
theorem newR_c (n : Nat) (hn : 1 ≤ n ∧ n ≤ 8) (b : Bl) (hb : TyB b) (want : List Cm) (vs : List Value) (a : Option Addr) (m c : Nat) (w : World) (hI : InC w a m c want vs) (hw : want.length ≤ 1) (hg : GoodL want) :
    Calls Try.prog 47 #[.int .i64 n, b.val, .slice a m c] w fun e w' => ∃ p, e = .returned (.tuple #[.pointer (some ⟨p, 0, none⟩), .nilIface]) ∧ ROn w w' p (newR n b want) (fun k => k < w.heap.size) ∧ Below w.heap.size w w' := by
  obtain ⟨w1, hw1⟩ : ∃ W, W = w.alloc b.obj := ⟨_, rfl⟩
  have hA := bxB_new w b
  rw [← hw1] at hA
  have hb1 : Below w.heap.size w w1 := by rw [hw1]; exact bl_al (Below.refl _ _) _
  obtain ⟨q, hq⟩ : ∃ p, p = w.heap.size := ⟨_, rfl⟩
  rw [← hq] at hA
  have HW1 := Lib.hid (And.intro hw1 hq)
  have HB := Lib.hid hb1
  have HA := Lib.hid hA
  have hlen := hI.len
  have HI := Lib.hid (hI.below hb1)
  have HOK := Lib.hid (newR_ok hn hb hw hg hI.typ)
  have hn1 : ¬ ((n : Int) < 1) := by omega
  have hn8 : ¬ ((n : Int) > 8) := by omega
  have hm1 : ¬ ((m : Int) > 1) := by omega
  have CK0 := checkLog_c want vs a m c w1 (hI.below hb1) (by omega)
  rw [if_pos hg] at CK0
  have CK := Lib.hid CK0
  have HES : Hid (∀ x ∈ want, x.es.length ≤ 1048576) := Lib.hid (fun x hx => by have := goodC_es (hg.2.1 x hx); omega)
  have hm2 : m ≤ 1 := by omega
  have HLN := Lib.hid hlen
  have q0 := nilEl
  have q1 := nilNe
  clear hw1 hA hb1 hq hI CK0 hb hg hw hlen
  obtain ⟨x, y⟩ := b
  go_enter Try.func47, Try.ntmps47
  go_upto_region 1 with fail
  rw [show w.alloc (.cells #[.int .i64 x, .int .i64 y] tyB2) = w1 from HW1.out.1.symm, ← HW1.out.2]
  go_wp2_with fail
  refine CK.out.mono ?_
  rintro e w2 ⟨rfl, hb2⟩
  rw [show errF 0 = .nilIface from rfl]
  have HB2 := Lib.hid (bl_tr HB.out hb2)
  have HI2 := Lib.hid (HI.out.below hb2)
  have HA2 := Lib.hid (HA.out.later hb2)
  clear hb2 CK
  go_upto_region 5 with fail
  have hS0 : w2.drew.cell? ⟨q, 0, none⟩ = some (.int .i64 x) ∧ w2.drew.cell? ⟨q, 1, none⟩ = some (.int .i64 y) := ⟨HA2.out.at.1, HA2.out.at.2⟩
  have CC := Lib.hid (copyK_c want vs a m c w2.drew (HI2.out.below (Below.refl _ _).drew) (by omega) HES.out)
  go_region_held3 (fun wx => wx.cell? ⟨q, 0, none⟩ = some (.int .i64 x) ∧ wx.cell? ⟨q, 1, none⟩ = some (.int .i64 y)) (first | (with_reducible exact hS0) | (with_reducible assumption) | (with_reducible exact hS2 _) | fail)
    (first
      | (go_at_call 94; (with_reducible refine CC.out.mono ?_); rintro e w5 ⟨⟨a5, c5, v5, rfl, hO5⟩, hb5⟩; have hS1 := (show w5.cell? ⟨q, 0, none⟩ = some (.int .i64 x) ∧ w5.cell? ⟨q, 1, none⟩ = some (.int .i64 y) from ⟨cell_later hb5 hS0.1, cell_later hb5 hS0.2⟩); have hS2 := (fun (o : Obj) => (show (w5.alloc o).cell? ⟨q, 0, none⟩ = some (.int .i64 x) ∧ (w5.alloc o).cell? ⟨q, 1, none⟩ = some (.int .i64 y) from ⟨cell_later (bl_al (Below.refl w5.heap.size w5) o) hS1.1, cell_later (bl_al (Below.refl w5.heap.size w5) o) hS1.2⟩)))
      | fail)
  all_goals
    have hb25 : Below w.heap.size w w5 := bl_tr (bl_tr HB2.out (Below.refl _ _).drew) hb5
    have HF : Hid (∃ p, Ending.returned (.tuple #[.pointer (some ⟨w5.heap.size, 0, none⟩), .nilIface]) = .returned (.tuple #[.pointer (some ⟨p, 0, none⟩), .nilIface]) ∧ ROn w (w5.alloc (.cells (rnL (newR n ⟨x, y⟩ want) (.slice a5 want.length c5) (.slice none 0 0)).toArray tyR)) p (newR n ⟨x, y⟩ want) (fun k => k < w.heap.size) ∧ Below w.heap.size w (w5.alloc (.cells (rnL (newR n ⟨x, y⟩ want) (.slice a5 want.length c5) (.slice none 0 0)).toArray tyR))) := Lib.hid (by
      have hal := bl_al (Below.refl w5.heap.size w5) (.cells (rnL (newR n ⟨x, y⟩ want) (.slice a5 want.length c5) (.slice none 0 0)).toArray tyR)
      have hO6 := (hO5.base (show w.heap.size ≤ w2.drew.heap.size from HB2.out.size)).later hal
      refine ⟨_, rfl, ⟨a5, c5, v5, none, 0, [], ⟨heap_alloc_new w5 _, hO6, owC_nil _ _, fun _ g _ h => (by cases h), fun k hk hK => ?_, hb25.size, fun k hk => Nat.lt_of_lt_of_le hk (bl_tr hb25 hal).size, bl_tr hb25 hal, HOK.out⟩⟩, bl_tr hb25 hal⟩
      rcases hk with rfl | hk | hk
      · have := hb25.size; omega
      · have := (hO6.blks k hk).1; omega
      · rcases hk with ⟨ad, h, _⟩ | ⟨v, hv, _⟩
        · cases h
        · cases hv)
    clear hS0 hS1 hS2 hO5 hb5 hb25 CC
    go_wp2
    go_ret2
    exact HF.out
/-! A nil round. -/
set_option maxRecDepth 100000 in
theorem log_n (w : World) :
    Calls Try.prog 52 #[.pointer none] w fun e w' => e = .returned (.slice none 0 0) ∧ Below w.heap.size w w' := by
  have CS := Lib.hid (stage_n w)
  go_enter Try.func52, Try.ntmps52
  go_wp2_with fail
  refine CS.out.mono ?_
  rintro e w1 ⟨rfl, hb1⟩
  have HB1 := Lib.hid hb1
  clear hb1 CS
  go_wp2
  go_ret
  exact ⟨rfl, HB1.out⟩
set_option maxRecDepth 100000 in
theorem place_n (w : World) :
    Calls Try.prog 53 #[.pointer none] w fun e w' => e = .returned (.int .i64 0) ∧ Below w.heap.size w w' := by
  have CS := Lib.hid (stage_n w)
  go_enter Try.func53, Try.ntmps53
  go_wp2_with fail
  refine CS.out.mono ?_
  rintro e w1 ⟨rfl, hb1⟩
  have HB1 := Lib.hid hb1
  clear hb1 CS
  go_wp2
  go_ret
  exact ⟨rfl, HB1.out⟩
set_option maxRecDepth 100000 in
theorem missing_n (w : World) :
    Calls Try.prog 55 #[.pointer none] w fun e w' => e = .returned (.slice none 0 0) ∧ Below w.heap.size w w' := by
  have CS := Lib.hid (stage_n w)
  go_enter Try.func55, Try.ntmps55
  go_wp2_with fail
  refine CS.out.mono ?_
  rintro e w1 ⟨rfl, hb1⟩
  have HB1 := Lib.hid hb1
  clear hb1 CS
  go_wp2
  go_ret
  exact ⟨rfl, HB1.out⟩
set_option maxRecDepth 100000 in
theorem accepted_n (w : World) (node : Int) :
    Calls Try.prog 54 #[.pointer none, .int .i64 node] w fun e w' => e = .returned (.int .i64 0) ∧ Below w.heap.size w w' := by
  have CS := Lib.hid (fun W => stage_n W)
  go_enter Try.func54, Try.ntmps54
  go_wp2_with fail
  refine (CS.out _).mono ?_
  rintro e w1 ⟨rfl, hb1⟩
  go_wp2_with fail
  refine (CS.out _).mono ?_
  rintro e w2 ⟨rfl, hb2⟩
  have HB1 := Lib.hid (bl_tr hb1 hb2)
  clear hb1 hb2 CS
  go_wp2
  go_ret
  exact ⟨rfl, HB1.out⟩
set_option maxRecDepth 100000 in
theorem promise_n (w : World) (node : Int) (b : Bl) (v : Value) :
    Calls Try.prog 49 #[.pointer none, .int .i64 node, b.val, v] w fun e w' => e = .returned (.int .i64 0) ∧ Below w.heap.size w w' := by
  have CS := Lib.hid (fun W => stage_n W)
  have HB0 := Lib.hid (bl_al (Below.refl w.heap.size w) b.obj)
  go_enter Try.func49, Try.ntmps49
  go_wp2_with fail
  refine (CS.out _).mono ?_
  rintro e w1 ⟨rfl, hb1⟩
  go_wp2_with fail
  refine (CS.out _).mono ?_
  rintro e w2 ⟨rfl, hb2⟩
  have HB1 := Lib.hid (bl_tr HB0.out (bl_tr hb1 hb2))
  clear hb1 hb2 CS
  go_wp2
  go_ret
  exact ⟨rfl, HB1.out⟩
set_option maxRecDepth 100000 in
set_option maxHeartbeats 2000000 in
theorem ballot_n (w : World) :
    Calls Try.prog 56 #[.pointer none] w fun e w' => e = .returned bl0.val ∧ Below w.heap.size w w' := by
  obtain ⟨w1, hw1⟩ : ∃ W, W = w.alloc bl0.obj := ⟨_, rfl⟩
  have hA := bxB_new w bl0
  rw [← hw1] at hA
  have hb1 : Below w.heap.size w w1 := by rw [hw1]; exact bl_al (Below.refl _ _) _
  obtain ⟨q, hq⟩ : ∃ p, p = w.heap.size := ⟨_, rfl⟩
  rw [← hq] at hA
  have HQ := Lib.hid hq
  have HW1 := Lib.hid (And.intro hw1 hq)
  have HB := Lib.hid hb1
  have HA := Lib.hid hA
  obtain ⟨z0, z1⟩ := hA.at
  have f0 : w1.frozen? ⟨q, 0, none⟩ = false := frozen_of_row w1 q 0 _ _ hA
  have f1 : w1.frozen? ⟨q, 1, none⟩ = false := frozen_of_row w1 q 1 _ _ hA
  clear hw1 hA hb1 hq
  go_enter Try.func56, Try.ntmps56
  go_upto_region 1 with fail
  rw [show w.alloc (.cells #[.int .i64 0, .int .i64 0] tyB2) = w1 from HW1.out.1.symm, ← HW1.out.2]
  go_wp2
  have hA6 : BxB ((w1.setCell ⟨q, 0, none⟩ (.int .i64 0)).setCell ⟨q, 1, none⟩ (.int .i64 0)) q bl0 := by
    have h0 := heap_setCell_same w1 q 0 _ _ (.int .i64 0) HA.out
    exact heap_setCell_same _ q 1 _ _ (.int .i64 0) h0
  have hb6 : Below w.heap.size w ((w1.setCell ⟨q, 0, none⟩ (.int .i64 0)).setCell ⟨q, 1, none⟩ (.int .i64 0)) := bl_set (bl_set HB.out (by have := HQ.out; omega) _) (by have := HQ.out; omega) _
  obtain ⟨w6, hw6⟩ : ∃ v, v = (w1.setCell ⟨q, 0, none⟩ (.int .i64 0)).setCell ⟨q, 1, none⟩ (.int .i64 0) := ⟨_, rfl⟩
  rw [← hw6] at hA6 hb6 ⊢
  obtain ⟨y0, y1⟩ := hA6.at
  refine bodyPost_ret (v := Bl.val bl0) (by simp [results, Try.results56, go_sem, y0, y1]) rfl ?_
  exact ⟨rfl, hb6⟩
end Go.Proofs.Ytbkpkakjfhkfaaa
