/- load and Open. Conditions: the rows under the two keys have at most 2^20 bytes. -/
import Derived.Test.YtnhnpfhfcbmmlaaVfC
namespace Go.Proofs.Ytnhnpfhfcbmmlaa
open Go Go.RowKit
set_option linter.unusedVariables false
set_option linter.unusedSimpArgs false

/-- What stands under the keys. -/
def ldP (l : List Pr) : Option Bl := match findP kPr l with
  | none => some bl0
  | some r => if OkB (rdB r) ∧ (rests 2 r).length = 0 then some (rdB r) else none
def ldV (l : List Pr) : Option (Bl × List Cm) := match findP kVt l with
  | none => some (bl0, [])
  | some r => if OkB (rdB r) ∧ IsLog (rests 2 r) then some (rdB r, decL (rests 2 r)) else none
/-- A voter whose log is not read yet. -/
structure LS (w0 w wA : World) (p s : Nat) (size : Int) (l m : List Pr) (pr : Bl) (node : Int) (K : Nat → Prop) : Prop where
  ob : VOb wA p pr bl0 (.slice none 0 0) s node
  st : SOn w0 wA s size l m (fun k => K k ∨ k = p)
  kpt : Kpt K w wA
  base : w0.heap.size ≤ p
  away : ¬ K p
  lt : ∀ k, K k → k < w.heap.size
  size : w.heap.size ≤ wA.heap.size
theorem LS.new {w0 w wA wB : World} {p s : Nat} {size : Int} {l m : List Pr} {pr : Bl} {node : Int} {K : Nat → Prop} (h : LS w0 w wA p s size l m pr node K) (hb : Below wA.heap.size wA wB) : LS w0 w wB p s size l m pr node K := by
  obtain ⟨h1, h2⟩ := h.st.new hb
  exact ⟨(h2 p (.inr rfl)).trans h.ob, h1, h.kpt.trans (h2.less (fun k hk => .inl hk)), h.base, h.away, h.lt, Nat.le_trans h.size hb.size⟩
theorem LS.setPr {w0 w wA : World} {p s : Nat} {size : Int} {l m : List Pr} {pr : Bl} {node : Int} {K : Nat → Prop} (h : LS w0 w wA p s size l m pr node K) (b : Bl) : LS w0 w ((wA.setCell ⟨p, 0, none⟩ (.int .i64 b.n)).setCell ⟨p, 1, none⟩ (.int .i64 b.node)) p s size l m b node K := by
  have hT : Tch (· = p) wA ((wA.setCell ⟨p, 0, none⟩ (.int .i64 b.n)).setCell ⟨p, 1, none⟩ (.int .i64 b.node)) := (tch_set wA ⟨p, 0, none⟩ _).trans (tch_set _ ⟨p, 1, none⟩ _)
  have h1 := put_row (i := 0) h.ob (.int .i64 b.n)
  have h2 := put_row (i := 1) h1 (.int .i64 b.node)
  exact ⟨h2, h.st.write hT (fun k hk => ⟨.inr hk, by rw [hk]; exact h.base⟩), h.kpt.trans (fun k hk => hT.block k (Nat.lt_of_lt_of_le (h.lt k hk) h.size) (fun e => h.away (e ▸ hk))), h.base, h.away, h.lt, by simp only [World.size_setCell]; exact h.size⟩
theorem bkC_nil {k : Nat} (h : BkC none [] k) : False := by
  rcases h with ⟨ad, e, _⟩ | ⟨v, hv, _⟩
  · cases e
  · cases hv
theorem LS.done {w0 w wA : World} {p s : Nat} {size : Int} {l m : List Pr} {pr : Bl} {node : Int} {K : Nat → Prop} (h : LS w0 w wA p s size l m pr node K) (ht : TyB pr) (hn : i64c node) : VOn w0 wA p s size l m pr bl0 [] node K :=
  ⟨none, 0, [], h.ob, inC_nil wA, h.st.less (fun k hk => hk.imp (fun h => h) (fun hk => hk.elim (fun e => e) (fun hb => (bkC_nil hb).elim))), (fun k hk => hk.elim (fun e => e ▸ h.away) (fun hb => (bkC_nil hb).elim)), h.base, ⟨ht, ⟨⟨by decide, by decide⟩, ⟨by decide, by decide⟩⟩, hn⟩, ⟨by simp, fun x hx => by cases hx⟩, fun k hb => (bkC_nil hb).elim⟩
theorem LS.setAc {w0 w wA w8 : World} {p s : Nat} {size : Int} {l m : List Pr} {pr : Bl} {node : Int} {K : Nat → Prop} (h : LS w0 w wA p s size l m pr node K) (hb8 : Below wA.heap.size wA w8) (ht : TyB pr) (hn : i64c node) (b : Bl) (hb : TyB b) {lg : List Cm} {a8 : Option Addr} {c8 : Nat} {v8 : List Value} (ho : OwC w8 wA.heap.size lg a8 c8 v8) (htc : ∀ x ∈ lg, TyC x) (hf : lg.length ≤ 256 ∧ ∀ x ∈ lg, x.es.length ≤ 64) :
    VOn w0 (((w8.setCell ⟨p, 2, none⟩ (.int .i64 b.n)).setCell ⟨p, 3, none⟩ (.int .i64 b.node)).setCell ⟨p, 4, none⟩ (.slice a8 lg.length c8)) p s size l m pr b lg node K ∧ Kpt K w (((w8.setCell ⟨p, 2, none⟩ (.int .i64 b.n)).setCell ⟨p, 3, none⟩ (.int .i64 b.node)).setCell ⟨p, 4, none⟩ (.slice a8 lg.length c8)) := by
  have hT : Tch (· = p) w8 (((w8.setCell ⟨p, 2, none⟩ (.int .i64 b.n)).setCell ⟨p, 3, none⟩ (.int .i64 b.node)).setCell ⟨p, 4, none⟩ (.slice a8 lg.length c8)) := tch_one (tch_one (tch_set w8 ⟨p, 2, none⟩ _) (fun _ h => h) 3 _) (fun _ h => h) 4 _
  have h8 := h.new hb8
  have h2 := put_row (i := 2) h8.ob (.int .i64 b.n)
  have h3 := put_row (i := 3) h2 (.int .i64 b.node)
  have h4 := put_row (i := 4) h3 (.slice a8 lg.length c8)
  have hbk := ho.blk
  have hpl : p < wA.heap.size := h.ob.lt
  have hst := (h.st.grow hb8).write hT (fun k hk => ⟨.inl (.inr hk), by rw [hk]; exact h.base⟩)
  refine ⟨⟨a8, c8, v8, h4, (ho.in htc).keep hT (fun k hk e => by have := (hbk k hk).1; omega), hst.less (fun k hk => ?_), fun k hk hK => ?_, h.base, ⟨ht, hb, hn⟩, hf, fun k hk e => by have := (hbk k hk).1; omega⟩, h8.kpt.trans (fun k hk => hT.block k (Nat.lt_of_lt_of_le (h.lt k hk) h8.size) (fun e => h.away (e ▸ hk)))⟩
  · rcases hk with hk | hk | hk
    · exact .inl (.inl hk)
    · exact .inl (.inr hk)
    · exact .inr (hbk k hk)
  · rcases hk with hk | hk
    · exact h.away (hk ▸ hK)
    · have h5 := (hbk k hk).1
      have h6 := h.lt k hK
      have h7 := h.size
      omega
structure LdO (w0 w : World) (p s : Nat) (size : Int) (l m : List Pr) (node : Int) (K : Nat → Prop) (e : Ending) (w' : World) : Prop where
  yes : ∀ pr ac ls, ldP l = some pr → ldV l = some (ac, ls) → e = .returned (.bool true) ∧ VOn w0 w' p s size l m pr ac ls node K
  no : (ldP l = none ∨ ldV l = none) → e = .returned (.bool false)
  on : SOn w0 w' s size l m K
  kpt : Kpt K w w'
theorem GetV.cases {w w' : World} {r : Option (List Int)} {e : Ending} (h : GetV w r e w') : (r = none ∧ e = .returned (.tuple #[.slice none 0 0, errnoF 6]) ∧ Below w.heap.size w w') ∨ ∃ x a n c, r = some x ∧ n = x.length ∧ e = .returned (.tuple #[.slice a n c, .nilIface]) ∧ w'.ownsRow w.heap.size 5 1 (.slice a n c) n (u8s x) ∧ Below w.heap.size w w' := by
  cases r with
  | none => exact .inl ⟨rfl, (GetV.no' h).1, non_below (GetV.no' h).2⟩
  | some x =>
    obtain ⟨a, c, e1, h1, h2⟩ := GetV.yes' h
    exact .inr ⟨x, a, x.length, c, rfl, rfl, e1, h1, non_below h2⟩
theorem three_neq (w : World) : (binOp .neq 28 (errnoF 3) .nilIface).run Try.prog w = .ok (.bool true) w := by kernel_rfl
set_option maxRecDepth 100000 in
set_option maxHeartbeats 8000000 in
theorem load_c (w0 w : World) (p s : Nat) (size : Int) (l m : List Pr) (node : Int) (K : Nat → Prop) (h : LS w0 w w p s size l m bl0 node K) (hn : i64c node) (hl : ∀ k r, k = kPr ∨ k = kVt → findP k l = some r → r.length ≤ 1048576) :
    Calls Try.prog 88 #[.pointer (some ⟨p, 0, none⟩), .pointer (some ⟨s, 0, none⟩)] w (LdO w0 w p s size l m node K) := by
  have HL := Lib.hid hl
  have HNO := Lib.hid hn
  have HOK := Lib.hid h.st.facts.2.1.1
  have HS0 := Lib.hid h
  have CG : Hid (Calls Try.prog 115 #[.pointer (some ⟨s, 0, none⟩), .string ⟨#[112, 114, 111, 109, 105, 115, 101]⟩] w (GetV w (findP kPr l))) := Lib.hid (h.st.get kPr (by unfold maxLen; decide))
  have TB0 : Hid (TyB bl0) := Lib.hid ⟨⟨by decide, by decide⟩, ⟨by decide, by decide⟩⟩
  have q6 := six_eql
  have q0 := nilEl
  have q1 := nilNe
  have q3 := three_neq
  clear h hn hl
  go_enter Try.func88, Try.ntmps88
  go_wp2_with fail
  refine CG.out.mono ?_
  intro e w1 hG
  rcases hG.cases with ⟨hf, rfl, hb1⟩ | ⟨r, a1, n1, c1, hf, hn1, rfl, hO1, hb1⟩
  · have HLD : Hid (ldP l = some bl0) := Lib.hid (by unfold ldP; rw [hf])
    have HS := Lib.hid (HS0.out.new hb1)
    clear hG hf hb1 CG
    have CG2 : Hid (Calls Try.prog 115 #[.pointer (some ⟨s, 0, none⟩), .string ⟨#[118, 111, 116, 101]⟩] w1 (GetV w1 (findP kVt l))) := Lib.hid (HS.out.st.get kVt (by unfold maxLen; decide))
    go_wp2_with fail
    refine CG2.out.mono ?_
    intro e x1 hG2
    rcases hG2.cases with ⟨hf2, rfl, hc1⟩ | ⟨r2, a2, n2, c2, hf2, hn2, rfl, hO2, hc1⟩
    · have hS1 := HS.out.new hc1
      have HF : Hid (LdO w0 w p s size l m node K (.returned (.bool true)) x1) := Lib.hid ⟨fun pr ac ls h1 h2 => by
        have e2 : ldV l = some (bl0, []) := by unfold ldV; rw [hf2]
        rw [HLD.out] at h1
        rw [e2] at h2
        cases h1
        cases h2
        exact ⟨rfl, hS1.done TB0.out HNO.out⟩, fun h => by
        have e2 : ldV l = some (bl0, []) := by unfold ldV; rw [hf2]
        rw [HLD.out, e2] at h
        exact h.elim (fun h => nomatch h) (fun h => nomatch h), hS1.st.less (fun k hk => .inl hk), hS1.kpt⟩
      clear hG2 hf2 hc1 hS1 CG2
      go_wp2
      go_ret
      exact HF.out
    · have hfit : fit r2 := (HOK.out _ (findP_mem hf2)).b
      have hr2 := HL.out kVt r2 (.inr rfl) hf2
      have hS1 := HS.out.new hc1
      have CB := Lib.hid (readBallot_c r2 a2 n2 c2 x1 (own_in hO2 hn2.symm hfit) (by omega))
      have HFIT := Lib.hid hfit
      have HF2 := Lib.hid hf2
      have HS1 := Lib.hid hS1
      have hn2b : n2 ≤ 1048576 := by omega
      clear hG2 hf2 hc1 hO2 hfit hr2 hS1 hn2 CG2
      go_wp2_with fail
      refine CB.out.mono ?_
      rintro e x2 ⟨⟨a3, n3, c3, rfl, hI3, hn3, _⟩, hc2⟩
      obtain ⟨bb, hbb⟩ : ∃ bb, bb = rdB r2 := ⟨_, rfl⟩
      have HTB : Hid (TyB bb) := Lib.hid (by rw [hbb]; exact rdB_ty HFIT.out)
      have HBB := Lib.hid hbb
      obtain ⟨x3, hx3⟩ : ∃ x3, x3 = x2.alloc bb.obj := ⟨_, rfl⟩
      have hB3 := bxB_new x2 bb
      rw [← hx3] at hB3
      have hc3 : Below x2.heap.size x2 x3 := by rw [hx3]; exact bl_al (Below.refl _ _) _
      obtain ⟨q3', hq3⟩ : ∃ q, q = x2.heap.size := ⟨_, rfl⟩
      rw [← hq3] at hB3
      have HX3 := Lib.hid (And.intro hx3 hq3)
      have HB3 := Lib.hid hB3
      have HS3 := Lib.hid ((HS1.out.new hc2).new hc3)
      have hnn3 : n3 ≤ 1048576 := by omega
      have CR := Lib.hid (read_log (rests 2 r2) a3 n3 c3 x3 (hI3.below hc3) hnn3)
      rw [show (rdB r2).val = bb.val by rw [hbb]]
      clear hI3 hn3 hc2 hbb hx3 hB3 hc3 hq3 CB
      go_upto_region 10 with fail
      rw [show x2.alloc (.cells #[.int .i64 bb.n, .int .i64 bb.node] tyB2) = x3 from HX3.out.1.symm, ← HX3.out.2]
      go_wp2_with fail
      refine CR.out.mono ?_
      intro e x4 hR
      have hB4 := HB3.out.later hR.bel
      obtain ⟨d0, d1⟩ := hB4.at
      have HB4 := Lib.hid hB4
      have HS4 := Lib.hid (HS3.out.new hR.bel)
      have CI := Lib.hid (isBallot_c bb HTB.out x4)
      obtain ⟨zb, hzb⟩ : ∃ zb, zb = decide (OkB bb) := ⟨_, rfl⟩
      rw [← hzb] at CI
      have HZB := Lib.hid hzb
      have HFA : Hid (¬ (OkB bb ∧ IsLog (rests 2 r2)) → ∀ x5, Below x4.heap.size x4 x5 → LdO w0 w p s size l m node K (.returned (.bool false)) x5) := Lib.hid (fun hno x5 hb5 => by
        have e2 : ldV l = none := by unfold ldV; rw [HF2.out]; simp only; rw [if_neg (by rw [← HBB.out]; exact hno)]
        have hS5 := HS4.out.new hb5
        exact ⟨fun pr ac ls h1 h2 => by (rw [e2] at h2; cases h2), fun _ => rfl, hS5.st.less (fun k hk => .inl hk), hS5.kpt⟩)
      clear hB4 hzb
      by_cases hlg : IsLog (rests 2 r2)
      · obtain ⟨a4, c4, v4, rfl, hO4⟩ := hR.yes hlg
        have HLG := Lib.hid hlg
        have HO4 := Lib.hid hO4
        have HR4 := Lib.hid hR.bel
        obtain ⟨n4, hn4⟩ : ∃ n4, n4 = (decL (rests 2 r2)).length := ⟨_, rfl⟩
        rw [← hn4]
        have HN4 := Lib.hid hn4
        clear hR hlg hO4 hn4
        go_wp2_with fail
        refine CI.out.mono ?_
        rintro e x5 ⟨rfl, hb5⟩
        cases zb with
        | false =>
          have HF := Lib.hid (HFA.out (fun h => of_decide_eq_false HZB.out.symm h.1) x5 hb5)
          clear hb5 d0 d1
          go_wp2
          go_ret
          exact HF.out
        | true =>
          have hok : OkB bb := of_decide_eq_true HZB.out.symm
          have hB5 := HB4.out.later hb5
          have hS5 := HS4.out.new hb5
          obtain ⟨lg, hlg⟩ : ∃ lg, lg = decL (rests 2 r2) := ⟨_, rfl⟩
          have HLGT : Hid (∀ x ∈ lg, TyC x) := Lib.hid (by rw [hlg]; exact decL_ty (rests_fit HFIT.out 2))
          have HLGF : Hid (lg.length ≤ 256 ∧ ∀ x ∈ lg, x.es.length ≤ 64) := Lib.hid (by rw [hlg]; exact ⟨HLG.out.1.1, fun x hx => goodC_es (HLG.out.1.2.1 x hx)⟩)
          have hfin := HS3.out.setAc (bl_tr HR4.out hb5) TB0.out HNO.out bb HTB.out (show OwC x5 x3.heap.size lg a4 c4 v4 by rw [hlg]; exact HO4.out.later hb5) HLGT.out HLGF.out
          have e4 : lg.length = n4 := by rw [hlg, HN4.out]
          rw [e4] at hfin
          have HF : Hid (LdO w0 w p s size l m node K (.returned (.bool true)) (((x5.setCell ⟨p, 2, none⟩ (.int .i64 bb.n)).setCell ⟨p, 3, none⟩ (.int .i64 bb.node)).setCell ⟨p, 4, none⟩ (.slice a4 n4 c4))) := Lib.hid ⟨fun pr ac ls h1 h2 => by
            have e2 : ldV l = some (bb, lg) := by unfold ldV; rw [HF2.out]; simp only; rw [if_pos (by rw [← HBB.out]; exact ⟨hok, HLG.out⟩), ← HBB.out, hlg]
            rw [HLD.out] at h1
            rw [e2] at h2
            cases h1
            cases h2
            exact ⟨rfl, hfin.1⟩, fun h => by
            have e2 : ldV l = some (bb, lg) := by unfold ldV; rw [HF2.out]; simp only; rw [if_pos (by rw [← HBB.out]; exact ⟨hok, HLG.out⟩), ← HBB.out, hlg]
            rw [HLD.out, e2] at h
            exact h.elim (fun h => nomatch h) (fun h => nomatch h), (by
            obtain ⟨ao, c, vs, hx⟩ := hfin.1
            exact hx.st.less (fun k hk => .inl hk)), hfin.2⟩
          obtain ⟨g0, g1⟩ := hB5.at
          obtain ⟨_, _, y2, y3, y4, _, _⟩ := hS5.ob.cs
          have yf := hS5.ob.free
          have hqp : q3' ≠ p := fun e => by
            have h1 := hS5.ob
            have h2 := hB5
            rw [e] at h2
            unfold VOb at h1
            unfold BxB at h2
            rw [h1] at h2
            simp at h2
          clear hok hlg hfin e4 hB5 hS5 hb5 d0 d1
          go_wp2
          go_ret
          exact HF.out
      · have e1 := hR.no hlg
        subst e1
        have hbel := hR.bel
        have HLG := Lib.hid hlg
        clear hR hlg
        go_wp2_with fail
        refine CI.out.mono ?_
        rintro e x5 ⟨rfl, hb5⟩
        have HF := Lib.hid (HFA.out (fun h => HLG.out h.2) x5 hb5)
        clear hb5 hbel d0 d1
        cases zb with
        | false =>
          go_wp2
          go_ret
          exact HF.out
        | true =>
          go_wp2
          go_ret
          exact HF.out
  · have hfit : fit r := (HOK.out _ (findP_mem hf)).b
    have hr1 := HL.out kPr r (.inl rfl) hf
    have hS1 := HS0.out.new hb1
    have CB := Lib.hid (readBallot_c r a1 n1 c1 w1 (own_in hO1 hn1.symm hfit) (by omega))
    have HFIT := Lib.hid hfit
    have HF1 := Lib.hid hf
    have HS1 := Lib.hid hS1
    clear hG hf hb1 hO1 hfit hr1 hS1 hn1 CG
    go_wp2_with fail
    refine CB.out.mono ?_
    rintro e w2 ⟨⟨a3, n3, c3, rfl, hI3, hn3, _⟩, hb2⟩
    obtain ⟨pb, hpb⟩ : ∃ bb, bb = rdB r := ⟨_, rfl⟩
    have HTP : Hid (TyB pb) := Lib.hid (by rw [hpb]; exact rdB_ty HFIT.out)
    have HPB := Lib.hid hpb
    obtain ⟨w3, hw3⟩ : ∃ x3, x3 = w2.alloc pb.obj := ⟨_, rfl⟩
    have hB3 := bxB_new w2 pb
    rw [← hw3] at hB3
    have hb3 : Below w2.heap.size w2 w3 := by rw [hw3]; exact bl_al (Below.refl _ _) _
    obtain ⟨q3, hq3⟩ : ∃ q, q = w2.heap.size := ⟨_, rfl⟩
    rw [← hq3] at hB3
    have HW3 := Lib.hid (And.intro hw3 hq3)
    have HB3 := Lib.hid hB3
    have HS3 := Lib.hid ((HS1.out.new hb2).new hb3)
    have HN3 := Lib.hid hI3.len
    have CI := Lib.hid (isBallot_c pb HTP.out w3)
    obtain ⟨zp, hzp⟩ : ∃ zb, zb = decide (OkB pb) := ⟨_, rfl⟩
    rw [← hzp] at CI
    have HZP := Lib.hid hzp
    rw [show (rdB r).val = pb.val by rw [hpb]]
    have HFP : Hid (¬ (OkB pb ∧ n3 = 0) → ∀ x5, Below w3.heap.size w3 x5 → LdO w0 w p s size l m node K (.returned (.bool false)) x5) := Lib.hid (fun hno x5 hb5 => by
      have e2 : ldP l = none := by unfold ldP; rw [HF1.out]; simp only; rw [if_neg (by rw [← HPB.out, HN3.out]; exact hno)]
      have hS5 := HS3.out.new hb5
      exact ⟨fun pr ac ls h1 h2 => by (rw [e2] at h1; cases h1), fun _ => rfl, hS5.st.less (fun k hk => .inl hk), hS5.kpt⟩)
    obtain ⟨d0, d1⟩ := hB3.at
    clear hI3 hn3 hb2 hpb hw3 hB3 hb3 hq3 CB hzp
    go_upto_region 4 with fail
    rw [show w2.alloc (.cells #[.int .i64 pb.n, .int .i64 pb.node] tyB2) = w3 from HW3.out.1.symm, ← HW3.out.2]
    go_wp2_with fail
    refine CI.out.mono ?_
    rintro e w4 ⟨rfl, hb4⟩
    cases zp with
    | false =>
      have HF := Lib.hid (HFP.out (fun h => of_decide_eq_false HZP.out.symm h.1) w4 hb4)
      clear hb4 d0 d1
      go_wp2
      go_ret
      exact HF.out
    | true =>
      have hok : OkB pb := of_decide_eq_true HZP.out.symm
      by_cases h30 : 0 < n3
      · have HF := Lib.hid (HFP.out (fun h => by omega) w4 hb4)
        have i30 : (0 : Int) < (n3 : Int) := by omega
        clear hb4 d0 d1
        go_wp2
        go_ret
        exact HF.out
      · have h3z : n3 = 0 := by omega
        subst h3z
        have HLD : Hid (ldP l = some pb) := Lib.hid (by unfold ldP; rw [HF1.out]; simp only; rw [if_pos (by rw [← HPB.out, HN3.out]; exact ⟨hok, rfl⟩), ← HPB.out])
        have hS4 := HS3.out.new hb4
        have hB4 := HB3.out.later hb4
        have hqp : q3 ≠ p := fun e => by
          have h1 := hS4.ob
          have h2 := hB4
          rw [e] at h2
          unfold VOb at h1
          unfold BxB at h2
          rw [h1] at h2
          simp at h2
        have hS5 := hS4.setPr pb
        obtain ⟨w5, hw5⟩ : ∃ w5, w5 = (w4.setCell ⟨p, 0, none⟩ (.int .i64 pb.n)).setCell ⟨p, 1, none⟩ (.int .i64 pb.node) := ⟨_, rfl⟩
        rw [← hw5] at hS5
        have HW5 := Lib.hid hw5
        have HS := Lib.hid hS5
        obtain ⟨g0, g1⟩ := hB4.at
        obtain ⟨y0, y1, _, _, _, _, _⟩ := hS4.ob.cs
        have yf := hS4.ob.free
        clear hok hb4 hS4 hB4 hw5 hS5 d0 d1 h30
        go_upto_region 7 with fail
        rw [← HW5.out]
        clear g0 g1 y0 y1 yf hqp
        have CG2 : Hid (Calls Try.prog 115 #[.pointer (some ⟨s, 0, none⟩), .string ⟨#[118, 111, 116, 101]⟩] w5 (GetV w5 (findP kVt l))) := Lib.hid (HS.out.st.get kVt (by unfold maxLen; decide))
        go_wp2_with fail
        refine CG2.out.mono ?_
        intro e x1 hG2
        rcases hG2.cases with ⟨hf2, rfl, hc1⟩ | ⟨r2, a2, n2, c2, hf2, hn2, rfl, hO2, hc1⟩
        · have hS1 := HS.out.new hc1
          have HF : Hid (LdO w0 w p s size l m node K (.returned (.bool true)) x1) := Lib.hid ⟨fun pr ac ls h1 h2 => by
            have e2 : ldV l = some (bl0, []) := by unfold ldV; rw [hf2]
            rw [HLD.out] at h1
            rw [e2] at h2
            cases h1
            cases h2
            exact ⟨rfl, hS1.done HTP.out HNO.out⟩, fun h => by
            have e2 : ldV l = some (bl0, []) := by unfold ldV; rw [hf2]
            rw [HLD.out, e2] at h
            exact h.elim (fun h => nomatch h) (fun h => nomatch h), hS1.st.less (fun k hk => .inl hk), hS1.kpt⟩
          clear hG2 hf2 hc1 hS1 CG2
          go_wp2
          go_ret
          exact HF.out
        · have hfit : fit r2 := (HOK.out _ (findP_mem hf2)).b
          have hr2 := HL.out kVt r2 (.inr rfl) hf2
          have hS1 := HS.out.new hc1
          have CB := Lib.hid (readBallot_c r2 a2 n2 c2 x1 (own_in hO2 hn2.symm hfit) (by omega))
          have HFIT := Lib.hid hfit
          have HF2 := Lib.hid hf2
          have HS1 := Lib.hid hS1
          have hn2b : n2 ≤ 1048576 := by omega
          clear hG2 hf2 hc1 hO2 hfit hr2 hS1 hn2 CG2
          go_wp2_with fail
          refine CB.out.mono ?_
          rintro e x2 ⟨⟨a3, n3, c3, rfl, hI3, hn3, _⟩, hc2⟩
          obtain ⟨bb, hbb⟩ : ∃ bb, bb = rdB r2 := ⟨_, rfl⟩
          have HTB : Hid (TyB bb) := Lib.hid (by rw [hbb]; exact rdB_ty HFIT.out)
          have HBB := Lib.hid hbb
          obtain ⟨x3, hx3⟩ : ∃ x3, x3 = x2.alloc bb.obj := ⟨_, rfl⟩
          have hB3 := bxB_new x2 bb
          rw [← hx3] at hB3
          have hc3 : Below x2.heap.size x2 x3 := by rw [hx3]; exact bl_al (Below.refl _ _) _
          obtain ⟨q3', hq3⟩ : ∃ q, q = x2.heap.size := ⟨_, rfl⟩
          rw [← hq3] at hB3
          have HX3 := Lib.hid (And.intro hx3 hq3)
          have HB3 := Lib.hid hB3
          have HS3 := Lib.hid ((HS1.out.new hc2).new hc3)
          have hnn3 : n3 ≤ 1048576 := by omega
          have CR := Lib.hid (read_log (rests 2 r2) a3 n3 c3 x3 (hI3.below hc3) hnn3)
          rw [show (rdB r2).val = bb.val by rw [hbb]]
          clear hI3 hn3 hc2 hbb hx3 hB3 hc3 hq3 CB
          go_upto_region 10 with fail
          rw [show x2.alloc (.cells #[.int .i64 bb.n, .int .i64 bb.node] tyB2) = x3 from HX3.out.1.symm, ← HX3.out.2]
          go_wp2_with fail
          refine CR.out.mono ?_
          intro e x4 hR
          have hB4 := HB3.out.later hR.bel
          obtain ⟨d0, d1⟩ := hB4.at
          have HB4 := Lib.hid hB4
          have HS4 := Lib.hid (HS3.out.new hR.bel)
          have CI := Lib.hid (isBallot_c bb HTB.out x4)
          obtain ⟨zb, hzb⟩ : ∃ zb, zb = decide (OkB bb) := ⟨_, rfl⟩
          rw [← hzb] at CI
          have HZB := Lib.hid hzb
          have HFA : Hid (¬ (OkB bb ∧ IsLog (rests 2 r2)) → ∀ x5, Below x4.heap.size x4 x5 → LdO w0 w p s size l m node K (.returned (.bool false)) x5) := Lib.hid (fun hno x5 hb5 => by
            have e2 : ldV l = none := by unfold ldV; rw [HF2.out]; simp only; rw [if_neg (by rw [← HBB.out]; exact hno)]
            have hS5 := HS4.out.new hb5
            exact ⟨fun pr ac ls h1 h2 => by (rw [e2] at h2; cases h2), fun _ => rfl, hS5.st.less (fun k hk => .inl hk), hS5.kpt⟩)
          clear hB4 hzb
          by_cases hlg : IsLog (rests 2 r2)
          · obtain ⟨a4, c4, v4, rfl, hO4⟩ := hR.yes hlg
            have HLG := Lib.hid hlg
            have HO4 := Lib.hid hO4
            have HR4 := Lib.hid hR.bel
            obtain ⟨n4, hn4⟩ : ∃ n4, n4 = (decL (rests 2 r2)).length := ⟨_, rfl⟩
            rw [← hn4]
            have HN4 := Lib.hid hn4
            clear hR hlg hO4 hn4
            go_wp2_with fail
            refine CI.out.mono ?_
            rintro e x5 ⟨rfl, hb5⟩
            cases zb with
            | false =>
              have HF := Lib.hid (HFA.out (fun h => of_decide_eq_false HZB.out.symm h.1) x5 hb5)
              clear hb5 d0 d1
              go_wp2
              go_ret
              exact HF.out
            | true =>
              have hok : OkB bb := of_decide_eq_true HZB.out.symm
              have hB5 := HB4.out.later hb5
              have hS5 := HS4.out.new hb5
              obtain ⟨lg, hlg⟩ : ∃ lg, lg = decL (rests 2 r2) := ⟨_, rfl⟩
              have HLGT : Hid (∀ x ∈ lg, TyC x) := Lib.hid (by rw [hlg]; exact decL_ty (rests_fit HFIT.out 2))
              have HLGF : Hid (lg.length ≤ 256 ∧ ∀ x ∈ lg, x.es.length ≤ 64) := Lib.hid (by rw [hlg]; exact ⟨HLG.out.1.1, fun x hx => goodC_es (HLG.out.1.2.1 x hx)⟩)
              have hfin := HS3.out.setAc (bl_tr HR4.out hb5) HTP.out HNO.out bb HTB.out (show OwC x5 x3.heap.size lg a4 c4 v4 by rw [hlg]; exact HO4.out.later hb5) HLGT.out HLGF.out
              have e4 : lg.length = n4 := by rw [hlg, HN4.out]
              rw [e4] at hfin
              have HF : Hid (LdO w0 w p s size l m node K (.returned (.bool true)) (((x5.setCell ⟨p, 2, none⟩ (.int .i64 bb.n)).setCell ⟨p, 3, none⟩ (.int .i64 bb.node)).setCell ⟨p, 4, none⟩ (.slice a4 n4 c4))) := Lib.hid ⟨fun pr ac ls h1 h2 => by
                have e2 : ldV l = some (bb, lg) := by unfold ldV; rw [HF2.out]; simp only; rw [if_pos (by rw [← HBB.out]; exact ⟨hok, HLG.out⟩), ← HBB.out, hlg]
                rw [HLD.out] at h1
                rw [e2] at h2
                cases h1
                cases h2
                exact ⟨rfl, hfin.1⟩, fun h => by
                have e2 : ldV l = some (bb, lg) := by unfold ldV; rw [HF2.out]; simp only; rw [if_pos (by rw [← HBB.out]; exact ⟨hok, HLG.out⟩), ← HBB.out, hlg]
                rw [HLD.out, e2] at h
                exact h.elim (fun h => nomatch h) (fun h => nomatch h), (by
                obtain ⟨ao, c, vs, hx⟩ := hfin.1
                exact hx.st.less (fun k hk => .inl hk)), hfin.2⟩
              obtain ⟨g0, g1⟩ := hB5.at
              obtain ⟨_, _, y2, y3, y4, _, _⟩ := hS5.ob.cs
              have yf := hS5.ob.free
              have hqp : q3' ≠ p := fun e => by
                have h1 := hS5.ob
                have h2 := hB5
                rw [e] at h2
                unfold VOb at h1
                unfold BxB at h2
                rw [h1] at h2
                simp at h2
              clear hok hlg hfin e4 hB5 hS5 hb5 d0 d1
              go_wp2
              go_ret
              exact HF.out
          · have e1 := hR.no hlg
            subst e1
            have hbel := hR.bel
            have HLG := Lib.hid hlg
            clear hR hlg
            go_wp2_with fail
            refine CI.out.mono ?_
            rintro e x5 ⟨rfl, hb5⟩
            have HF := Lib.hid (HFA.out (fun h => HLG.out h.2) x5 hb5)
            clear hb5 hbel d0 d1
            cases zb with
            | false =>
              go_wp2
              go_ret
              exact HF.out
            | true =>
              go_wp2
              go_ret
              exact HF.out
/-- What Open leaves. -/
structure OpO (w0 w : World) (s : Nat) (size : Int) (l m : List Pr) (node : Int) (K : Nat → Prop) (e : Ending) (w' : World) : Prop where
  form : ¬ IsMgr node → e = .returned (.tuple #[.pointer none, errnoF 9])
  bad : IsMgr node → (ldP l = none ∨ ldV l = none) → e = .returned (.tuple #[.pointer none, errnoF 3])
  yes : IsMgr node → ∀ pr ac ls, ldP l = some pr → ldV l = some (ac, ls) → ∃ p, e = .returned (.tuple #[.pointer (some ⟨p, 0, none⟩), .nilIface]) ∧ VOn w0 w' p s size l m pr ac ls node K
  on : SOn w0 w' s size l m K
  kpt : Kpt K w w'
set_option maxRecDepth 100000 in
set_option maxHeartbeats 8000000 in
theorem open_c (w0 w : World) (s : Nat) (size : Int) (l m : List Pr) (node : Int) (K : Nat → Prop) (h : SOn w0 w s size l m K) (hn : i64c node) (hl : ∀ k r, k = kPr ∨ k = kVt → findP k l = some r → r.length ≤ 1048576) :
    Calls Try.prog 38 #[.pointer (some ⟨s, 0, none⟩), .int .i64 node] w (OpO w0 w s size l m node K) := by
  have CM := Lib.hid (fun W => mgr_c node hn W)
  obtain ⟨zm, hzm⟩ : ∃ z, z = decide (IsMgr node) := ⟨_, rfl⟩
  rw [← hzm] at CM
  have HZM := Lib.hid hzm
  have hne : ((some (⟨s, 0, none⟩ : Addr)) == none) = false := rfl
  cases zm with
  | false =>
    have HNM : Hid (¬ IsMgr node) := Lib.hid (of_decide_eq_false HZM.out.symm)
    have HH := Lib.hid h
    clear h hl hzm
    go_enter Try.func38, Try.ntmps38
    go_wp2_with fail
    refine (CM.out _).mono ?_
    rintro e w1 ⟨rfl, rfl⟩
    go_wp2
    go_ret2
    exact ⟨fun _ => rfl, fun h => absurd h HNM.out, fun h => absurd h HNM.out, HH.out, fun _ _ => rfl⟩
  | true =>
    have HM : Hid (IsMgr node) := Lib.hid (of_decide_eq_true HZM.out.symm)
    obtain ⟨w1, hw1⟩ : ∃ W, W = w.alloc (.cells #[.int .i64 0, .int .i64 0, .int .i64 0, .int .i64 0, .slice none 0 0, .pointer (some ⟨s, 0, none⟩), .int .i64 node] tyVt) := ⟨_, rfl⟩
    have hb1 : Below w.heap.size w w1 := by rw [hw1]; exact bl_al (Below.refl _ _) _
    obtain ⟨p, hp⟩ : ∃ q, q = w.heap.size := ⟨_, rfl⟩
    have hs1 : w1.heap.size = p + 1 := by rw [hw1, hp]; simp
    have hob : VOb w1 p bl0 bl0 (.slice none 0 0) s node := by rw [hw1, hp]; exact heap_alloc_new w _
    obtain ⟨h1, h2⟩ := h.new hb1
    have hLS : LS w0 w1 w1 p s size l m bl0 node K := ⟨hob, (h.grow hb1).less (fun k hk => hk.imp (fun h => h) (fun e => by omega)), fun _ _ => rfl, by have := h.bel.size; omega, fun hk => by have := h.lt p hk; omega, fun k hk => by have := h.lt k hk; omega, Nat.le_refl _⟩
    have CL := Lib.hid (load_c w0 w1 p s size l m node K hLS hn hl)
    have HK1 := Lib.hid h2
    have HW1 := Lib.hid (And.intro hw1 hp)
    clear h hl hzm hw1 hb1 hp hs1 hob h1 h2 hLS
    go_enter Try.func38, Try.ntmps38
    go_wp2_with fail
    refine (CM.out _).mono ?_
    rintro e w1' ⟨rfl, rfl⟩
    go_upto_region 4 with fail
    rw [show w.alloc (.cells #[.int .i64 0, .int .i64 0, .int .i64 0, .int .i64 0, .slice none 0 0, .pointer (some ⟨s, 0, none⟩), .int .i64 node] tyVt) = w1 from HW1.out.1.symm, ← HW1.out.2]
    go_wp2_with fail
    refine CL.out.mono ?_
    intro e w2 hO
    cases hp : ldP l with
    | none =>
      have e1 := hO.no (.inl hp)
      subst e1
      have HF : Hid (OpO w0 w s size l m node K (.returned (.tuple #[.pointer none, errnoF 3])) w2) := Lib.hid ⟨fun h => absurd HM.out h, fun _ _ => rfl, fun _ pr ac ls h1 => by (rw [hp] at h1; cases h1), hO.on, HK1.out.trans hO.kpt⟩
      clear hO hp CL
      go_wp2
      go_ret2
      exact HF.out
    | some pr =>
      cases hv : ldV l with
      | none =>
        have e1 := hO.no (.inr hv)
        subst e1
        have HF : Hid (OpO w0 w s size l m node K (.returned (.tuple #[.pointer none, errnoF 3])) w2) := Lib.hid ⟨fun h => absurd HM.out h, fun _ _ => rfl, fun _ pr ac ls h1 h2 => by (rw [hv] at h2; cases h2), hO.on, HK1.out.trans hO.kpt⟩
        clear hO hp hv CL
        go_wp2
        go_ret2
        exact HF.out
      | some x =>
        obtain ⟨ac, ls⟩ := x
        obtain ⟨e1, hV⟩ := hO.yes pr ac ls hp hv
        subst e1
        have HF : Hid (OpO w0 w s size l m node K (.returned (.tuple #[.pointer (some ⟨p, 0, none⟩), .nilIface])) w2) := Lib.hid ⟨fun h => absurd HM.out h, fun _ h => (h.elim (fun h => by (rw [hp] at h; cases h)) (fun h => by (rw [hv] at h; cases h))), fun _ pr' ac' ls' h1 h2 => by
          rw [hp] at h1
          rw [hv] at h2
          cases h1
          cases h2
          exact ⟨p, rfl, hV⟩, hO.on, HK1.out.trans hO.kpt⟩
        clear hO hp hv CL hV
        go_wp2
        go_ret2
        exact HF.out
theorem open_nil (w : World) (node : Int) : Calls Try.prog 38 #[.pointer none, .int .i64 node] w fun e w' => e = .returned (.tuple #[.pointer none, errnoF 9]) ∧ w = w' := by
  have hne : ((none : Option Addr) == none) = true := rfl
  go_enter Try.func38, Try.ntmps38
  go_wp2
  go_ret2
  exact ⟨rfl, rfl⟩
end Go.Proofs.Ytnhnpfhfcbmmlaa
