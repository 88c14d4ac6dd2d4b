/- The walk of QueueLanes over the contracts of package queue's lanes. Conditions: the script came in. -/
import Derived.Test.YtdjeacmonlgdhaaLdc
import Derived.Test.YtdjeacmonlgdhaaQPl
namespace Go.Proofs.Ytdjeacmonlgdhaa
open Go Go.RowKit
set_option linter.unusedVariables false
set_option linter.unusedSimpArgs false

set_option maxRecDepth 100000 in
set_option maxHeartbeats 4000000 in
theorem lanes_no (size : Int) (hs : size < 0 ∨ 4096 < size) (ao : Option Addr) (n c : Nat) (w : World) :
    Calls Try.prog 4 #[.int .i64 size, .slice ao n c] w fun e w' => e = .returned (.bool true) ∧ Below w.heap.size w w' := by
  have CA := Lib.hid (alive7_any w)
  have CN := Lib.hid (fun w => newL_no size hs w)
  have CG := Lib.hid (fun w => refGood_no size hs w)
  have e44 := err44
  clear hs
  go_enter Try.func4, Try.ntmps4
  go_wp2_with fail
  refine CA.out.mono ?_
  rintro e w1 ⟨rfl, hb1⟩
  have HB1 := Lib.hid hb1
  clear hb1
  go_wp2_with fail
  refine (CN.out w1).mono ?_
  rintro e w2 ⟨rfl, hb⟩
  have HB2 := Lib.hid (bl_tr HB1.out hb)
  clear hb HB1
  go_wp2_with fail
  refine (CG.out w2).mono ?_
  rintro e w3 ⟨rfl, rfl⟩
  go_wp2
  go_ret
  exact ⟨rfl, HB2.out⟩
theorem rlb_mem {a1 a2 : Option Addr} {n1 c1 n2 c2 : Nat} {wU wP : List Value} {v : Value} {k : Nat} (hv : v ∈ wU ++ wP) (hk : v.ownBlock = some k) : RLB a1 n1 c1 wU a2 n2 c2 wP k := (List.mem_append.1 hv).elim (fun h => .inl (.inr ⟨v, h, hk⟩)) (fun h => .inr (.inr ⟨v, h, hk⟩))
theorem Rws.take {w : World} {B : Nat} : ∀ {vs : List Value} {ps : List (List Int)}, Rws w B vs ps → ∀ j, Rws w B (vs.take j) (ps.take j)
  | [], [], _, j => by simp [Rws]
  | _ :: _, _ :: _, h, 0 => trivial
  | _ :: vs, _ :: ps, h, j + 1 => ⟨h.1, Rws.take h.2 j⟩
  | [], _ :: _, h, _ => h.elim
  | _ :: _, [], h, _ => h.elim
theorem rfb_app {a1 a2 : Option Addr} {n1 c1 n2 c2 : Nat} {ws ys : List Value} {b : Nat} (hx : ∀ u ∈ ys, ∀ k, u.ownBlock = some k → b ≤ k) (ha : ∀ k, (Value.slice a2 n2 c2).ownBlock = some k → (Value.slice a1 n1 c1).ownBlock = some k ∨ b ≤ k) : ∀ k, RfB a2 n2 c2 (ws ++ ys) k → RfB a1 n1 c1 ws k ∨ b ≤ k := fun k hk => by
  rcases hk with hk | ⟨v, hv, hk⟩
  · exact (ha k hk).imp (fun h => .inl h) id
  · rcases List.mem_append.1 hv with hv | hv
    · exact .inl (.inr ⟨v, hv, hk⟩)
    · exact .inr (hx v hv k hk)
theorem rfb_nil (k : Nat) : ¬ RfB none 0 0 [] k := fun h => by
  rcases h with h | ⟨v, hv, _⟩
  · cases h
  · cases hv
set_option maxRecDepth 100000 in
set_option maxHeartbeats 4000000 in
theorem lanes_yes (size : Nat) (hs : size ≤ 4096) (ao : Option Addr) (n c : Nat) (os : List Opv) (w : World) (hI : ScrIn w ao n os) (hn : n ≤ 1152921504606846976) (hl : ∀ j, j < n → (os.getD j op0).n ≤ 1152921504606846976 ∧ ∀ p ∈ (os.getD j op0).ps, p.length ≤ 4611686018427387904) (hnum : ∀ j, j < n → -9223372036854775808 ≤ (os.getD j op0).num ∧ (os.getD j op0).num ≤ 9223372036854775807) :
    Calls Try.prog 4 #[.int .i64 size, .slice ao n c] w fun e w' => e = .returned (.bool true) ∧ Below w.heap.size w w' := by
  have CA := Lib.hid (alive7_any w)
  have CN := Lib.hid (fun w => newL_yes size hs w)
  have CG := Lib.hid (fun w => refGood_yes size (by omega) (by omega) w)
  have HI := Lib.hid hI
  have HL := Lib.hid hl
  have HNU := Lib.hid hnum
  have en := errNe
  have ee := errEq
  clear hI hl hnum
  go_enter Try.func4, Try.ntmps4
  go_wp2_with fail
  refine CA.out.mono ?_
  rintro e w1 ⟨rfl, hb1⟩
  have HB1 := Lib.hid hb1
  clear hb1
  go_wp2_with fail
  refine (CN.out w1).mono ?_
  rintro e w2 ⟨q, F, rfl, hq, hb⟩
  have HQ2 := Lib.hid (hq.lower HB1.out.size)
  have HB2 := Lib.hid (bl_tr HB1.out hb)
  clear hb HB1 hq
  go_wp2_with fail
  refine (CG.out w2).mono ?_
  rintro e w3 ⟨rfl, rfl⟩
  have CL := Lib.hid (long_t ao n c os w2 (HI.out.below HB2.out) hn HL.out)
  go_wp2_with fail
  refine CL.out.mono ?_
  rintro e w3 ⟨z, rfl, hb, hz⟩
  have HB3 := Lib.hid (bl_tr HB2.out hb)
  have HQ3 := Lib.hid (HQ2.out.keep (tch_new hb) (fun _ _ h => h))
  have HZ := Lib.hid hz
  clear hb HB2 HQ2 CL hz
  cases z with
  | true =>
    go_wp2
    go_ret
    exact ⟨rfl, HB3.out⟩
  | false =>
    obtain ⟨hn16, hfew⟩ := HZ.out rfl
    have HFW := Lib.hid hfew
    clear hfew
    have P0 : Hid (PlL w F q w3.heap.size size (w3.alloc (.cells #[.slice none 0 0, .int .i64 size, .slice none 0 0, .int .i64 size] 54))) := Lib.hid (by
      refine ⟨[], [], [], [], none, 0, 0, [], none, 0, 0, [], HQ3.out.keep (tch_new (bl_al (Below.refl _ _) _)) (fun _ _ h => h), ⟨⟨?_, ?_, ?_, World.ownsRow_nil _ _ _ _, trivial, List.Pairwise.nil, (fun v hv => by cases hv), (fun v hv => by cases hv), (fun e => by cases e)⟩, ⟨?_, ?_, ?_, World.ownsRow_nil _ _ _ _, trivial, List.Pairwise.nil, (fun v hv => by cases hv), (fun v hv => by cases hv), (fun e => by cases e)⟩, fun k hk => ?_⟩, ?_, HB3.out.size, bl_al HB3.out _, (fun p hp => by cases hp), fun p hp => by cases hp⟩
      · exact cells_new w3 [.slice none 0 0, .int .i64 size, .slice none 0 0, .int .i64 size] _ (0, 0) 0 _ rfl
      · exact cells_new w3 [.slice none 0 0, .int .i64 size, .slice none 0 0, .int .i64 size] _ (0, 0) 1 _ rfl
      · exact frozen_of_row _ w3.heap.size 0 _ _ (heap_alloc_new w3 _)
      · exact cells_new w3 [.slice none 0 0, .int .i64 size, .slice none 0 0, .int .i64 size] _ (0, 0) 2 _ rfl
      · exact cells_new w3 [.slice none 0 0, .int .i64 size, .slice none 0 0, .int .i64 size] _ (0, 0) 3 _ rfl
      · exact frozen_of_row _ w3.heap.size 2 _ _ (heap_alloc_new w3 _)
      · exact absurd hk (rfb_nil k)
      · intro k hk
        have hk2 := (HQ3.out.blocks k hk).2
        exact ⟨by omega, fun h => h.elim (rfb_nil k) (rfb_nil k)⟩)
    go_upto_region 9 with fail
    obtain ⟨X, hX⟩ : ∃ X, X = w3.alloc (.cells #[.slice none 0 0, .int .i64 size, .slice none 0 0, .int .i64 size] 54) := ⟨_, rfl⟩
    obtain ⟨m, hm⟩ : ∃ m, m = w3.heap.size := ⟨_, rfl⟩
    rw [← hX, ← hm] at P0
    rw [← hX, ← hm]
    clear hX hm HQ3 HB3 HZ CG CN CA
    go_wp2
    go_loopw [58] (fun i wr => ∃ j : Nat, j ≤ n ∧ i = .int .i64 j ∧ Hid (PlL w F q m size wr)) (fun i _ => n - (intOf i).toNat)
    case atStart => exact ⟨0, by omega, rfl, P0⟩
    case round =>
      obtain ⟨j, hj, rfl, HP⟩ := hrel
      clear P0
      by_cases hlj : j < n
      · obtain ⟨us, pu, vs, pp, aU, nU, cU, wU, aP, nP, cP, wP, hQ, hR, hS, hm, hB, hpu, hpp⟩ := HP.out
        have HPU := Lib.hid hpu
        have HPP := Lib.hid hpp
        have hIr := HI.out.below hB
        rcases hIr.here with h0 | ⟨b, off, rfl, hcs⟩
        · omega
        obtain ⟨e0, e1, e2⟩ := hcs j hlj
        have hro := hIr.rows j hlj
        have hrw := HI.out.rows j hlj
        have hfw := HFW.out j hlj
        have hnu := HNU.out j hlj
        obtain ⟨o, ho⟩ : ∃ o, o = os.getD j op0 := ⟨_, rfl⟩
        rw [← ho] at e0 e1 e2 hro hfw hrw hnu
        obtain ⟨kind, oa, on, oc, rs, qs, num⟩ := o
        simp only at e0 e1 e2 hro hrw hnu
        have HRW := Lib.hid hrw
        have HNM := Lib.hid hnu
        have HLO := Lib.hid (show (∀ k, QB F (us ++ vs) k → k < wr.heap.size) ∧ (∀ k, RLB aU nU cU wU aP nP cP wP k → k < wr.heap.size) ∧ m < wr.heap.size from ⟨fun k hk => (hQ.blocks k hk).2, fun k hk => (hR.blocks k hk).2, hR.lt⟩)
        have ilj : (j : Int) < (n : Int) := by omega
        have j0 : (0 : Int) ≤ (j : Int) := by omega
        have HRO := Lib.hid hro
        have HFO := Lib.hid hfw
        have HQ := Lib.hid hQ
        have HR := Lib.hid hR
        have HS := Lib.hid hS
        have HM := Lib.hid hm
        have HB := Lib.hid hB
        clear hpu hpp hcs hro hrw hfw hnu ho hIr hQ hR hS hm hB HP
        go_upto_region 12 with fail
        have hT1 := tch_new (bl_al (Below.refl wr.heap.size wr) (.cells #[.int .i64 kind, .slice oa on oc, .int .i64 num] 37))
        have hQ1 := HQ.out.keep hT1 (fun _ _ h => h)
        have hR1 := HR.out.keep hT1 (fun h => h) (fun _ _ h => h)
        have hB1 := bl_al HB.out (.cells #[.int .i64 kind, .slice oa on oc, .int .i64 num] 37)
        have hRO1 := HRO.out.below (bl_al (Below.refl wr.heap.size wr) (.cells #[.int .i64 kind, .slice oa on oc, .int .i64 num] 37))
        have g0 : (wr.alloc (.cells #[.int .i64 kind, .slice oa on oc, .int .i64 num] 37)).cell? ⟨wr.heap.size, 0, none⟩ = some (.int .i64 kind) := cells_new wr [.int .i64 kind, .slice oa on oc, .int .i64 num] _ (0, 0) 0 _ rfl
        have g1 : (wr.alloc (.cells #[.int .i64 kind, .slice oa on oc, .int .i64 num] 37)).cell? ⟨wr.heap.size, 1, none⟩ = some (.slice oa on oc) := cells_new wr [.int .i64 kind, .slice oa on oc, .int .i64 num] _ (0, 0) 1 _ rfl
        have g2 : (wr.alloc (.cells #[.int .i64 kind, .slice oa on oc, .int .i64 num] 37)).cell? ⟨wr.heap.size, 2, none⟩ = some (.int .i64 num) := cells_new wr [.int .i64 kind, .slice oa on oc, .int .i64 num] _ (0, 0) 2 _ rfl
        obtain ⟨W, hW⟩ : ∃ W, W = wr.alloc (.cells #[.int .i64 kind, .slice oa on oc, .int .i64 num] 37) := ⟨_, rfl⟩
        obtain ⟨qo, hqo⟩ : ∃ q, q = wr.heap.size := ⟨_, rfl⟩
        rw [← hW] at hQ1 hR1 hB1 hRO1 g0 g1 g2
        rw [← hqo] at g0 g1 g2 HLO
        rw [← hW, ← hqo]
        have HQ1 := Lib.hid hQ1
        have HR1 := Lib.hid hR1
        have HB1 := Lib.hid hB1
        have HRO1 := Lib.hid hRO1
        have HQW : Hid (qo < W.heap.size) := Lib.hid (World.block_lt_of_cell? _ _ g1)
        have CC := Lib.hid (copies_t rs qs oa on oc W HRO1.out (by have := HFO.out.1; simp only at this; omega) (fun p hp => by have := HFO.out.2 p hp; omega))
        clear hT1 hQ1 hR1 hB1 hRO1 hW hqo HQ HR HB HRO e0 e1 e2
        go_wp2_with fail
        refine CC.out.mono ?_
        rintro e w4 ⟨gc, cc, cs, rfl, hown, hcps, hap, hng, hb⟩
        have t4 := tch_new hb
        have hQ4 := HQ1.out.keep t4 (fun _ _ h => h)
        have hR4 := HR1.out.keep t4 (fun h => h) (fun _ _ h => h)
        have g10 := cell_later hb g0
        have g11 := cell_later hb g1
        have g12 := cell_later hb g2
        have HQ4 := Lib.hid hQ4
        have HR4 := Lib.hid hR4
        have HCP := Lib.hid hcps
        have HOW := Lib.hid hown
        have HAP := Lib.hid hap
        have HNG := Lib.hid hng
        have HB4 := Lib.hid hb
        have HB14 : Hid (Below w.heap.size w w4) := Lib.hid (HB1.out.trans (HB4.out.mono HB1.out.size))
        clear t4 hQ4 hR4 hown hcps hap hng hb CC g0 g1 g2
        go_upto_block 2 with fail
        go_cut [11, 12, 13, 14, 15, 16] from 67 to 144 (fun _ _ _ _ _ _ wx => Hid (PlL w F q m size wx))
        case first =>
          by_cases hk0 : kind = 0
          · have q1 : (kind == 0) = true := by simp [hk0]
            clear hk0
            have hFW : ∀ k, F k → k < W.heap.size := fun k hk => (HQ1.out.base k hk).2
            have hgc := (HOW.out.lt gc rfl).1
            have hcb := HCP.out.blocks
            have hPI : ∀ U, Tch F w4 U → RsP U (some ⟨gc, 0, none⟩) on cs qs := fun U hU =>
              rsp_copies (hU.own HOW.out (fun k hk hf => by cases hk; have := hFW gc hf; omega)) (HCP.out.keep hU (fun v hv k hk hf => by have := hFW k hf; have := (hcb v hv k hk).1; omega))
            have CP := Lib.hid (fun U (hU : Tch Non w4 U) => urgent_t w.heap.size F q size us pu vs pp cs qs (some ⟨gc, 0, none⟩) on cc U (HQ4.out.keep hU (fun _ _ h => h)) (Nat.le_trans HB14.out.size hU.size) (fun U2 hU2 => hPI U2 ((hU.mono (fun _ h => h.elim)).trans hU2)) (by have := HFO.out.1; simp only at this; omega) (fun p hp => by have := HFO.out.2 p hp; omega))
            have hd0 : Tch Non w4 w4.drew := tch_new (Below.refl _ _).drew
            have hS0 : w4.drew.cell? ⟨qo, 1, none⟩ = some (.slice oa on oc) := g11
            have hpl := HR1.out.u.len
            subst hpl
            have CR := Lib.hid (fun U (hR : RfQ U w.heap.size m 0 size aU pu.length cU wU pu) (hb : Below w.heap.size w U) => refPut_t w.heap.size m 0 size aU pu.length cU wU rs pu qs oa on oc w U hR hb.size HRW.out hb (Nat.le_refl _) HM.out hs HQ4.out.leU (by have := HFO.out.1; simp only at this; omega) (fun p hp => by have := HFO.out.2 p hp; omega))
            have CK := Lib.hid (fun U (hb : Below w.heap.size w U) (hT : Tch (fun k => k < W.heap.size) w4 U) => keptC_t rs cs qs oa on oc gc cc w U HRW.out hb (by have := HFO.out.1; simp only at this; omega) (fun p hp => by have := HFO.out.2 p hp; omega) (hT.own (own_base HOW.out HB1.out.size) (fun k hk hf => by have := (HOW.out.lt k hk).1; omega)) ((HCP.out.base HB1.out.size).keep hT (fun v hv k hk hf => by have := (HCP.out.blocks v hv k hk).1; omega)) HAP.out HNG.out)
            have HG1 := Lib.hid g11
            have HFW := Lib.hid hFW
            have HQC : Hid (¬ ∃ v ∈ cs, v.ownBlock = some qo) := Lib.hid (fun h => by
              obtain ⟨v, hv, hk⟩ := h
              have h1 := (HCP.out.blocks v hv qo hk).1
              have h3 := HQW.out
              omega)
            have HNS : Hid (¬ (qo = m ∨ (Value.slice aU pu.length cU).ownBlock = some qo)) := Lib.hid (fun h => by
              rcases h with h | h
              · have := HLO.out.2.2; omega
              · exact Nat.lt_irrefl _ (HLO.out.2.1 qo (.inl (.inl h))))
            have HTB : Hid (∀ k, (k = m ∨ (Value.slice aU pu.length cU).ownBlock = some k) → w.heap.size ≤ k ∧ k < W.heap.size) := Lib.hid (fun k hk => by
              rcases hk with hk | hk
              · have := HM.out
                have := HR1.out.lt
                omega
              · exact HR1.out.u.own.lt k hk)
            clear hFW hPI hgc hcb g10 g11 g12
            go_upto_region 17 with fail
            go_region_held3 (fun wx => wx.cell? ⟨qo, 1, none⟩ = some (.slice oa on oc)) (first | (with_reducible exact hS0) | (with_reducible exact hS5) | (with_reducible exact hS6) | (with_reducible exact hS7) | fail)
              (first | (go_at_call 25; (with_reducible refine (CP.out _ hd0).mono ?_); rintro e w5 ⟨xs, rfl, hQ5, ht5, hu5⟩; have hd5 := (hd0.mono (fun _ h => h.elim)).trans ht5; have hS5 := hd5.cell HG1.out (fun h => Nat.lt_irrefl _ (HLO.out.1 qo (.inl h))); have hR5 := HR4.out.keep hd5 (fun h => (HS.out m (.inl h)).1 rfl) (fun k hk h => (HS.out k (.inl h)).2 hk); have hB5 := HB14.out.trans (hd5.below (fun k hk => (HQ4.out.base k hk).1) HB14.out.size)) | (go_at_call 14; (with_reducible refine (CR.out _ hR5.u hB5).mono ?_); rintro e w6 ⟨ra2, rc2, ys, rfl, hR6, ho6, ht6, hx6, ha6⟩; have hS6 := ht6.cell hS5 HNS.out; have hB6 := hB5.trans (ht6.below (fun k hk => (HTB.out k hk).1) hB5.size); have hd6 := (hd5.mono HFW.out).trans' ht6 (fun k _ hk => (HTB.out k hk).2)) | (go_at_call 15; (with_reducible refine (CK.out _ hB6 hd6).mono ?_); rintro e w7 ⟨rfl, ht7⟩; have hS7 := ht7.cell hS6 (fun h => HQC.out h)) | fail)
            rename_i hHeld
            have hn6 := rfb_app (ws := wU) hx6 ha6
            have HPI := Lib.hid (pl_gen HQ1.out HR1.out HS.out HM.out HB1.out HB4.out hQ5 ((hd0.mono (fun _ h => h.elim)).trans ht5) (fun k hk => (qb_app hu5 hk).imp id (fun h => h)) (hR5.setU hR6 ho6 ht6 (fun k hk => hk.imp id (fun h => .inl h)) hn6) ht6 (fun k hk => hk.imp id (fun h => .inl (.inl h))) (fun k hk => hk.elim (fun h => (hn6 k h).imp (fun h => .inl h) id) (fun h => .inl (.inr h))) ht7 (fun k hk => by
              obtain ⟨v, hv, hk⟩ := hk
              exact HCP.out.blocks v hv k hk) (fun p hp => (List.mem_append.1 hp).elim (HPU.out p) (fun h => HFO.out.2 p (List.mem_of_mem_take h))) HPP.out)
            clear hHeld hQ5 ht5 hu5 hR6 ht6 hx6 ha6 ht7 hd0 hS0 hS5 hS6 hS7 hR5 hB5 hB6 hd5 hd6 ho6 hn6 CP CR CK HQ4 HR4 HB14 HG1
            go_wp2
            go_meet
            exact HPI
          · have q1 : (kind == 0) = false := by simp [hk0]
            by_cases hk1 : kind = 1
            · have q2 : (kind == 1) = true := by simp [hk1]
              clear hk0 hk1
              have hFW : ∀ k, F k → k < W.heap.size := fun k hk => (HQ1.out.base k hk).2
              have hgc := (HOW.out.lt gc rfl).1
              have hcb := HCP.out.blocks
              have hPI : ∀ U, Tch F w4 U → RsP U (some ⟨gc, 0, none⟩) on cs qs := fun U hU =>
                rsp_copies (hU.own HOW.out (fun k hk hf => by cases hk; have := hFW gc hf; omega)) (HCP.out.keep hU (fun v hv k hk hf => by have := hFW k hf; have := (hcb v hv k hk).1; omega))
              have CP := Lib.hid (fun U (hU : Tch Non w4 U) => plain_t w.heap.size F q size us pu vs pp cs qs (some ⟨gc, 0, none⟩) on cc U (HQ4.out.keep hU (fun _ _ h => h)) (Nat.le_trans HB14.out.size hU.size) (fun U2 hU2 => hPI U2 ((hU.mono (fun _ h => h.elim)).trans hU2)) (by have := HFO.out.1; simp only at this; omega) (fun p hp => by have := HFO.out.2 p hp; omega))
              have hd0 : Tch Non w4 w4.drew := tch_new (Below.refl _ _).drew
              have hS0 : w4.drew.cell? ⟨qo, 1, none⟩ = some (.slice oa on oc) := g11
              have hpl := HR1.out.p.len
              subst hpl
              have CR := Lib.hid (fun U (hR : RfQ U w.heap.size m 2 size aP pp.length cP wP pp) (hb : Below w.heap.size w U) => refPut_t w.heap.size m 2 size aP pp.length cP wP rs pp qs oa on oc w U hR hb.size HRW.out hb (Nat.le_refl _) HM.out hs HQ4.out.leP (by have := HFO.out.1; simp only at this; omega) (fun p hp => by have := HFO.out.2 p hp; omega))
              have CK := Lib.hid (fun U (hb : Below w.heap.size w U) (hT : Tch (fun k => k < W.heap.size) w4 U) => keptC_t rs cs qs oa on oc gc cc w U HRW.out hb (by have := HFO.out.1; simp only at this; omega) (fun p hp => by have := HFO.out.2 p hp; omega) (hT.own (own_base HOW.out HB1.out.size) (fun k hk hf => by have := (HOW.out.lt k hk).1; omega)) ((HCP.out.base HB1.out.size).keep hT (fun v hv k hk hf => by have := (HCP.out.blocks v hv k hk).1; omega)) HAP.out HNG.out)
              have HG1 := Lib.hid g11
              have HFW := Lib.hid hFW
              have HQC : Hid (¬ ∃ v ∈ cs, v.ownBlock = some qo) := Lib.hid (fun h => by
                obtain ⟨v, hv, hk⟩ := h
                have h1 := (HCP.out.blocks v hv qo hk).1
                have h3 := HQW.out
                omega)
              have HNS : Hid (¬ (qo = m ∨ (Value.slice aP pp.length cP).ownBlock = some qo)) := Lib.hid (fun h => by
                rcases h with h | h
                · have := HLO.out.2.2; omega
                · exact Nat.lt_irrefl _ (HLO.out.2.1 qo (.inr (.inl h))))
              have HTB : Hid (∀ k, (k = m ∨ (Value.slice aP pp.length cP).ownBlock = some k) → w.heap.size ≤ k ∧ k < W.heap.size) := Lib.hid (fun k hk => by
                rcases hk with hk | hk
                · have := HM.out
                  have := HR1.out.lt
                  omega
                · exact HR1.out.p.own.lt k hk)
              clear hFW hPI hgc hcb g10 g11 g12
              go_upto_region 20 with fail
              go_region_held3 (fun wx => wx.cell? ⟨qo, 1, none⟩ = some (.slice oa on oc)) (first | (with_reducible exact hS0) | (with_reducible exact hS5) | (with_reducible exact hS6) | (with_reducible exact hS7) | fail)
                (first | (go_at_call 26; (with_reducible refine (CP.out _ hd0).mono ?_); rintro e w5 ⟨xs, rfl, hQ5, ht5, hu5⟩; have hd5 := (hd0.mono (fun _ h => h.elim)).trans ht5; have hS5 := hd5.cell HG1.out (fun h => Nat.lt_irrefl _ (HLO.out.1 qo (.inl h))); have hR5 := HR4.out.keep hd5 (fun h => (HS.out m (.inl h)).1 rfl) (fun k hk h => (HS.out k (.inl h)).2 hk); have hB5 := HB14.out.trans (hd5.below (fun k hk => (HQ4.out.base k hk).1) HB14.out.size)) | (go_at_call 14; (with_reducible refine (CR.out _ hR5.p hB5).mono ?_); rintro e w6 ⟨ra2, rc2, ys, rfl, hR6, ho6, ht6, hx6, ha6⟩; have hS6 := ht6.cell hS5 HNS.out; have hB6 := hB5.trans (ht6.below (fun k hk => (HTB.out k hk).1) hB5.size); have hd6 := (hd5.mono HFW.out).trans' ht6 (fun k _ hk => (HTB.out k hk).2)) | (go_at_call 15; (with_reducible refine (CK.out _ hB6 hd6).mono ?_); rintro e w7 ⟨rfl, ht7⟩; have hS7 := ht7.cell hS6 (fun h => HQC.out h)) | fail)
              rename_i hHeld
              have hn6 := rfb_app (ws := wP) hx6 ha6
              have HPI := Lib.hid (pl_gen HQ1.out HR1.out HS.out HM.out HB1.out HB4.out hQ5 ((hd0.mono (fun _ h => h.elim)).trans ht5) (fun k hk => (qb_app2 hu5 hk).imp id (fun h => h)) (hR5.setP hR6 ho6 ht6 (fun k hk => hk.imp id (fun h => .inl h)) hn6) ht6 (fun k hk => hk.imp id (fun h => .inr (.inl h))) (fun k hk => hk.elim (fun h => .inl (.inl h)) (fun h => (hn6 k h).imp (fun h => .inr h) id)) ht7 (fun k hk => by
                obtain ⟨v, hv, hk⟩ := hk
                exact HCP.out.blocks v hv k hk) HPU.out (fun p hp => (List.mem_append.1 hp).elim (HPP.out p) (fun h => HFO.out.2 p (List.mem_of_mem_take h))))
              clear hHeld hQ5 ht5 hu5 hR6 ht6 hx6 ha6 ht7 hd0 hS0 hS5 hS6 hS7 hR5 hB5 hB6 hd5 hd6 ho6 hn6 CP CR CK HQ4 HR4 HB14 HG1
              go_wp2
              go_meet
              exact HPI
            · have q2 : (kind == 1) = false := by simp [hk1]
              by_cases hk2 : kind = 2
              · have q3 : (kind == 2) = true := by simp [hk2]
                clear hk0 hk1 hk2
                have hlu := HR1.out.u.len
                have hlp := HR1.out.p.len
                subst hlu hlp
                clear g10 g11 g12
                cases pu with
                | cons p pt =>
                  have hv1 := HQ1.out.urg.len
                  have hw1 := HR1.out.u.rows.len
                  cases us with
                  | nil => cases hv1
                  | cons v vt =>
                  cases wU with
                  | nil => cases hw1
                  | cons u wt =>
                  clear hv1 hw1
                  have CG := Lib.hid (lgetU_t w.heap.size F q size v vt p pt vs pp w4 HQ4.out)
                  go_upto_region 23 with fail
                  go_wp2_with fail
                  refine CG.out.mono ?_
                  rintro e w5 ⟨rfl, hQ5, ht5, ho5⟩
                  have hR5 := HR4.out.keep ht5 (fun h => (HS.out m (.inl h)).1 rfl) (fun k hk h => (HS.out k (.inl h)).2 hk)
                  have CR := Lib.hid (refLGet_u w.heap.size m size pt.length aU cU u wt p pt aP _ cP wP pp w5 hR5 (Nat.le_trans HB14.out.size ht5.size) (by have := hQ5.leU; omega))
                  have HQ5 := Lib.hid hQ5
                  have HT5 := Lib.hid ht5
                  have HO5 := Lib.hid ho5
                  have HR5 := Lib.hid hR5
                  clear hQ5 ht5 ho5 hR5 CG
                  go_wp2_with fail
                  refine CR.out.mono ?_
                  rintro e w6 ⟨a1, n1, c1, a2, n2, c2, rfl, hR6, ht6, ha6⟩
                  have ho6v := ht6.own HO5.out (fun k hk e => (HS.out k (.inr ⟨v, List.mem_append_left _ List.mem_cons_self, hk⟩)).1 e)
                  have hu6 := ht6.own HR5.out.u.rows.1.1 (fun k hk e => HR5.out.u.away u List.mem_cons_self (by rw [hk, e]))
                  obtain ⟨av, cv, hav⟩ := own_form ho6v
                  obtain ⟨au, cu, hau⟩ := own_form hu6
                  have sA := str_of (by rw [← hav]; exact At.own ho6v : At w6 (.slice av p.length cv) p) rfl
                  have sB := str_of (by rw [← hau]; exact At.own hu6 : At w6 (.slice au p.length cu) p) rfl
                  rw [← hav] at sA
                  rw [← hau] at sB
                  obtain ⟨s0, hs0⟩ : ∃ s, s = strOfNums p := ⟨_, rfl⟩
                  rw [← hs0] at sA sB
                  have HR6 := Lib.hid hR6
                  have HT6 := Lib.hid ht6
                  have HA6 := Lib.hid ha6
                  clear hs0 hav hau ho6v hu6 hR6 ht6 ha6 CR
                  go_wp2_with fail
                  have HPI := Lib.hid (pl_gen HQ1.out HR1.out HS.out HM.out HB1.out HB4.out HQ5.out HT5.out (fun k hk => .inl (qb_sub (fun x hx => by rw [List.cons_append]; exact List.mem_cons_of_mem _ hx) hk)) HR6.out HT6.out (fun k hk => .inl hk) HA6.out (Tch.refl Non w6) (fun k hk => hk.elim) (fun x hx => HPU.out x (List.mem_cons_of_mem _ hx)) HPP.out)
                  clear sA sB
                  go_wp2
                  go_meet
                  exact HPI
                | nil =>
                  obtain rfl : us = [] := List.eq_nil_of_length_eq_zero HQ1.out.urg.len
                  obtain rfl : wU = [] := List.eq_nil_of_length_eq_zero HR1.out.u.rows.len
                  cases pp with
                  | cons p pt =>
                    have hv1 := HQ1.out.pla.len
                    have hw1 := HR1.out.p.rows.len
                    cases vs with
                    | nil => cases hv1
                    | cons v vt =>
                    cases wP with
                    | nil => cases hw1
                    | cons u wt =>
                    clear hv1 hw1
                    have CG := Lib.hid (lgetP_t w.heap.size F q size v vt p pt w4 HQ4.out)
                    go_upto_region 23 with fail
                    go_wp2_with fail
                    refine CG.out.mono ?_
                    rintro e w5 ⟨rfl, hQ5, ht5, ho5⟩
                    have hR5 := HR4.out.keep ht5 (fun h => (HS.out m (.inl h)).1 rfl) (fun k hk h => (HS.out k (.inl h)).2 hk)
                    have CR := Lib.hid (refLGet_p w.heap.size m size pt.length aU cU u wt p pt aP cP w5 hR5 (Nat.le_trans HB14.out.size ht5.size) (by have := hQ5.leP; omega))
                    have HQ5 := Lib.hid hQ5
                    have HT5 := Lib.hid ht5
                    have HO5 := Lib.hid ho5
                    have HR5 := Lib.hid hR5
                    clear hQ5 ht5 ho5 hR5 CG
                    go_wp2_with fail
                    refine CR.out.mono ?_
                    rintro e w6 ⟨a1, n1, c1, a2, n2, c2, rfl, hR6, ht6, ha6⟩
                    have ho6v := ht6.own HO5.out (fun k hk e => (HS.out k (.inr ⟨v, by simp, hk⟩)).1 e)
                    have hu6 := ht6.own HR5.out.p.rows.1.1 (fun k hk e => HR5.out.p.away u List.mem_cons_self (by rw [hk, e]))
                    obtain ⟨av, cv, hav⟩ := own_form ho6v
                    obtain ⟨au, cu, hau⟩ := own_form hu6
                    have sA := str_of (by rw [← hav]; exact At.own ho6v : At w6 (.slice av p.length cv) p) rfl
                    have sB := str_of (by rw [← hau]; exact At.own hu6 : At w6 (.slice au p.length cu) p) rfl
                    rw [← hav] at sA
                    rw [← hau] at sB
                    obtain ⟨s0, hs0⟩ : ∃ s, s = strOfNums p := ⟨_, rfl⟩
                    rw [← hs0] at sA sB
                    have HR6 := Lib.hid hR6
                    have HT6 := Lib.hid ht6
                    have HA6 := Lib.hid ha6
                    clear hs0 hav hau ho6v hu6 hR6 ht6 ha6 CR
                    go_wp2_with fail
                    have HPI := Lib.hid (pl_gen HQ1.out HR1.out HS.out HM.out HB1.out HB4.out HQ5.out HT5.out (fun k hk => .inl (qb_sub (fun x hx => List.mem_cons_of_mem _ hx) hk)) HR6.out HT6.out (fun k hk => .inl hk) HA6.out (Tch.refl Non w6) (fun k hk => hk.elim) (fun x hx => by cases hx) (fun x hx => HPP.out x (List.mem_cons_of_mem _ hx)))
                    clear sA sB
                    go_wp2
                    go_meet
                    exact HPI
                  | nil =>
                    obtain rfl : vs = [] := List.eq_nil_of_length_eq_zero HQ1.out.pla.len
                    obtain rfl : wP = [] := List.eq_nil_of_length_eq_zero HR1.out.p.rows.len
                    have CG := Lib.hid (lget0_t w.heap.size F q size w4 HQ4.out)
                    go_upto_region 23 with fail
                    go_wp2_with fail
                    refine CG.out.mono ?_
                    rintro e w5 ⟨rfl, ht5⟩
                    have hR5 := HR4.out.keep ht5 (fun h => h) (fun _ _ h => h)
                    have CR := Lib.hid (refLGet_0 w.heap.size m size aU cU aP cP w5 hR5)
                    have HQ5 := Lib.hid (HQ4.out.keep ht5 (fun _ _ h => h))
                    have HT5 := Lib.hid ht5
                    have HR5 := Lib.hid hR5
                    clear ht5 hR5 CG
                    go_wp2_with fail
                    refine CR.out.mono ?_
                    rintro e w6 ⟨rfl, rfl⟩
                    have sA := str_of (At.nil w5 none 0) (rfl : ([] : List Int).length = 0)
                    obtain ⟨s0, hs0⟩ : ∃ s, s = strOfNums [] := ⟨_, rfl⟩
                    rw [← hs0] at sA
                    clear hs0 CR
                    go_wp2_with fail
                    have HPI := Lib.hid (pl_gen HQ1.out HR1.out HS.out HM.out HB1.out HB4.out HQ5.out (HT5.out.mono (fun _ h => h.elim)) (fun k hk => .inl hk) HR5.out (Tch.refl Non w5) (fun k hk => hk.elim) (fun k hk => .inl hk) (Tch.refl Non w5) (fun k hk => hk.elim) HPU.out HPP.out)
                    clear sA
                    go_wp2
                    go_meet
                    exact HPI
              · have q3 : (kind == 2) = false := by simp [hk2]
                clear hk0 hk1 hk2
                have hd0 : Tch Non w4 w4.drew := tch_new (Below.refl _ _).drew
                have hS0 : w4.drew.cell? ⟨qo, 2, none⟩ = some (.int .i64 num) := g12
                have HG2 := Lib.hid g12
                have hlU : wU.length = us.length := by have h1 := HR1.out.u.rows.len; have h2 := HQ1.out.urg.len; omega
                have HLE := Lib.hid (And.intro HQ1.out.leU HQ1.out.leP)
                have CT := Lib.hid (fun U (hU : Tch Non w4 U) => ltake_t w.heap.size F q size us pu vs pp num HNM.out U (HQ4.out.keep hU (fun _ _ h => h)) hs)
                have CR := Lib.hid (fun U (hR : RfL U w.heap.size m size aU nU cU wU pu aP nP cP wP pp) (hb : w.heap.size ≤ U.heap.size) => refLTake_t w.heap.size m size aU nU cU wU pu aP nP cP wP pp num U hR hb (by have := HLE.out.1; omega) (by have := HLE.out.2; omega))
                obtain ⟨K, hK⟩ : ∃ K, K = tkn num (pu.length + pp.length) := ⟨_, rfl⟩
                rw [← hK] at CT CR
                have HK8 : Hid (K ≤ 8192) := Lib.hid (by rw [hK]; unfold tkn; have := HLE.out; omega)
                have HKL : Hid (((pu ++ pp).take K).length = K) := Lib.hid (by rw [List.length_take, List.length_append, hK]; unfold tkn; omega)
                have CW : Hid (∀ U (xs ys : List Value) (ca cb : Option Addr) (da db : Nat), Rsd U ca K xs ((pu ++ pp).take K) → Rsd U cb K ys ((pu ++ pp).take K) → Calls Try.prog 19 #[.slice ca K da, .slice cb K db] U fun e w' => e = .returned (.bool true) ∧ Below U.heap.size U w') := Lib.hid (fun U xs ys ca cb da db h1 h2 => rows_t xs ys _ _ ca cb K da K db U h1 h2 (by have := HK8.out; omega) true (by simp))
                have HHU := Lib.hid hlU
                have HFM : Hid (∀ k, F k → k ≠ m) := Lib.hid (fun k hk => (HS.out k (.inl hk)).1)
                have HA5 : Hid (∀ w5 w6 ca da, LTak w4 w.heap.size F q size us pu vs pp K (.returned (.slice ca K da)) w5 → Tch (· = m) w5 w6 → True) := Lib.hid (fun _ _ _ _ _ _ => trivial)
                clear hK hlU g10 g11 g12 HA5
                go_upto_region 14 with fail
                go_region_held3 (fun wx => wx.cell? ⟨qo, 2, none⟩ = some (.int .i64 num)) (first | (with_reducible exact hS0) | (with_reducible exact hS5) | (with_reducible exact hS6) | (with_reducible exact hS7) | fail)
                  (first | (go_at_call 29; (with_reducible refine (CT.out _ hd0).mono ?_); rintro e w5 ⟨ta, tc, rfl, ho5, hQ5, ht5⟩; have hd5 := (hd0.mono (fun _ h => h.elim)).trans ht5; have hS5 := hd5.cell HG2.out (fun h => Nat.lt_irrefl _ (HLO.out.1 qo (.inl h))); have hR5 := HR4.out.keep hd5 (fun h => (HS.out m (.inl h)).1 rfl) (fun k hk h => (HS.out k (.inl h)).2 hk); have hv5 := ((HQ4.out.urg.app HQ4.out.pla).take K).keep hd5 (fun v hv k hk => HQ4.out.far v (List.mem_of_mem_take hv) k hk)) | (go_at_call 30; (with_reducible refine (CR.out _ hR5 (Nat.le_trans HB14.out.size hd5.size)).mono ?_); rintro e w6 ⟨ra, rc, a1, n1, c1, a2, n2, c2, rfl, hI6⟩; have hS6 := hI6.tch.cell hS5 (fun h => by have := HLO.out.2.2; simp only at h; omega); have hA := rsd_own (hI6.tch.own ho5 (fun k hk e => by have := (ho5.lt k hk).1; have := HR4.out.lt; have := hd0.size; omega)) (hv5.keep hI6.tch (fun x hx k hk e => (HS.out k (.inr ⟨x, List.mem_of_mem_take hx, hk⟩)).1 e)); have hC := rsd_own hI6.out (((hR5.u.rows.app hR5.p.rows).take K).keep hI6.tch (fun x hx k hk e => hR5.awayB k (rlb_mem (List.mem_of_mem_take hx) hk) e))) | (go_at_call 19; (with_reducible refine (CW.out _ _ _ _ _ _ _ hA hC).mono ?_); rintro e w7 ⟨rfl, hb7⟩; have hS7 := cell_later hb7 hS6) | fail)
                rename_i hHeld
                have hst := hI6.st
                have hlb := hI6.lb
                rw [HHU.out] at hst hlb
                have HPI := Lib.hid (pl_gen HQ1.out HR1.out HS.out HM.out HB1.out HB4.out hQ5 ((hd0.mono (fun _ h => h.elim)).trans ht5) (fun k hk => .inl (qb_sub (fun x hx => (List.mem_append.1 hx).elim (fun h => List.mem_append_left _ (List.mem_of_mem_drop h)) (fun h => List.mem_append_right _ (List.mem_of_mem_drop h))) hk)) hst hI6.tch (fun k hk => .inl hk) hlb (tch_new hb7) (fun k hk => hk.elim) (fun p hp => HPU.out p (List.mem_of_mem_drop hp)) (fun p hp => HPP.out p (List.mem_of_mem_drop hp)))
                clear hHeld hst hlb hQ5 ht5 ho5 hI6 hb7 hd0 hS0 hS5 hS6 hS7 hR5 hd5 hv5 hA hC CT CR CW HQ4 HR4 HB14 HG2
                go_wp2
                go_meet
                exact HPI
        case rest =>
          obtain ⟨us2, pu2, vs2, pp2, a1, n1, c1, w1, a2, n2, c2, w2', hQ, hR, hS, hm, hB, hpu2, hpp2⟩ := hcut.out
          have hrn := hR.u.len
          have hrp := hR.p.len
          have hle := hQ.leU
          have hlf := hQ.leP
          have CLn := Lib.hid (fun U (hU : Tch Non wc U) => llen_t w.heap.size F q size us2 pu2 vs2 pp2 U (hQ.keep hU (fun _ _ h => h)) hs)
          rw [hrn, hrp] at CLn
          rw [hrn] at hle
          rw [hrp] at hlf
          obtain ⟨T, hT⟩ : ∃ T, T = n1 + n2 := ⟨_, rfl⟩
          have v1 : ∀ [Inhabited Nat], IntKind.i64.wrap ((n1 : Int) + (n2 : Int)) = (T : Int) := by intro _; rw [IntWalk.i64_in _ (by omega)]; omega
          rw [← hT] at CLn
          have hd0 : Tch Non wc wc.drew := tch_new (Below.refl _ _).drew
          have hS0 : wc.drew.cell? ⟨m, 0, none⟩ = some (.slice a1 n1 c1) ∧ wc.drew.cell? ⟨m, 2, none⟩ = some (.slice a2 n2 c2) := ⟨hR.u.c0, hR.p.c0⟩
          have HP2 : Hid (∀ U, Tch Non wc U → PlL w F q m size U) := Lib.hid (fun U hU => ⟨us2, pu2, vs2, pp2, a1, n1, c1, w1, a2, n2, c2, w2', hQ.keep hU (fun _ _ h => h), hR.keep hU (fun h => h) (fun _ _ h => h), hS, hm, hB.trans (hU.below (fun _ h => h.elim) hB.size), hpu2, hpp2⟩)
          have hC0 : Hid (wc.cell? ⟨m, 0, none⟩ = some (.slice a1 n1 c1) ∧ wc.cell? ⟨m, 2, none⟩ = some (.slice a2 n2 c2)) := Lib.hid ⟨hR.u.c0, hR.p.c0⟩
          clear hQ hR hS hm hB hrn hrp hT hcut HQ1 HR1 HB1 HRO1 HQ4 HR4 HB14 HB4 HCP HOW HAP HNG g10 g11 g12
          go_upto_region 27 with fail
          go_region_held3 (fun wx => wx.cell? ⟨m, 0, none⟩ = some (.slice a1 n1 c1) ∧ wx.cell? ⟨m, 2, none⟩ = some (.slice a2 n2 c2)) (first | (with_reducible exact hS0) | (with_reducible exact hS4) | fail)
            (first | (go_at_call 31; (with_reducible refine (CLn.out _ hd0).mono ?_); rintro e w4 ⟨rfl, ht4⟩; have hd4 := hd0.trans ht4; have hS4 := And.intro (hd4.cell hC0.out.1 (fun h => h)) (hd4.cell hC0.out.2 (fun h => h))) | fail)
          rename_i hHeld
          have HP5 := Lib.hid (HP2.out _ hd4)
          clear hHeld hS0 hS4 hd0 hd4 ht4 v1 CLn
          go_wp2
          go_roundw
          case rel => exact ⟨j + 1, by omega, by go_num, HP5⟩
          case measure => simp [intOf]; omega
      · have ilj : ¬ ((j : Int) < (n : Int)) := by omega
        obtain ⟨_, _, _, _, _, _, _, _, _, _, _, _, _, _, _, _, hB, _⟩ := HP.out
        have HB := Lib.hid hB
        clear hB HP
        go_wp2
        go_ret
        exact ⟨rfl, HB.out⟩
end Go.Proofs.Ytdjeacmonlgdhaa
