/- The walk of QueuePlays over the contracts of package queue. Conditions: the script came in. -/
import Derived.Test.YtdjeacmonlgdhaaQAl
import Derived.Deep.RegionHeld3
import Derived.Deep.CutRange
import Derived.Deep.CutBlock
import Derived.Laws.Pointers
namespace Go.Proofs.Ytdjeacmonlgdhaa
open Go Go.RowKit
set_option linter.unusedVariables false
set_option linter.unusedSimpArgs false

theorem errEq (w : World) : (binOp .eql 26 .nilIface .nilIface).run Try.prog w = .ok (.bool true) w := by kernel_rfl
theorem err44 (w : World) : (binOp .eql 26 (errnoQ 4) (errnoQ 4)).run Try.prog w = .ok (.bool true) w := by kernel_rfl
set_option maxRecDepth 100000 in
set_option maxHeartbeats 4000000 in
theorem plays_no (size : Int) (hs : size < 0 ∨ 4096 < size) (ao : Option Addr) (n c : Nat) (w : World) :
    Calls Try.prog 3 #[.int .i64 size, .slice ao n c] w fun e w' => e = .returned (.bool true) ∧ Below w.heap.size w w' := by
  have CA := Lib.hid (alive7_any w)
  have CN := Lib.hid (fun w => new_no size hs w)
  have CG := Lib.hid (fun w => refGood_no size hs w)
  have e44 := err44
  clear hs
  go_enter Try.func3, Try.ntmps3
  go_wp2_with fail
  refine CA.out.mono ?_
  rintro e w1 ⟨rfl, hb1⟩
  have HB1 := Lib.hid hb1
  clear hb1
  go_wp2_with fail
  refine (CN.out w1).mono ?_
  rintro e w2 ⟨rfl, hb⟩
  have HB2 := Lib.hid (bl_tr HB1.out hb)
  clear hb HB1
  go_wp2_with fail
  refine (CG.out w2).mono ?_
  rintro e w3 ⟨rfl, rfl⟩
  go_wp2
  go_ret
  exact ⟨rfl, HB2.out⟩
/-- Blocks of the two queues are apart. -/
def Sep (F : Nat → Prop) (vs : List Value) (m : Nat) (ao : Option Addr) (n c : Nat) (ws : List Value) : Prop := ∀ k, QB F vs k → k ≠ m ∧ ¬ RfB ao n c ws k
/-- What QueuePlays holds in its loop. -/
def PlI (w0 : World) (F : Nat → Prop) (q m size : Nat) (w : World) : Prop :=
  ∃ vs ps ao n c ws, QSt w w0.heap.size F q size vs ps ∧ RfQ w w0.heap.size m 0 size ao n c ws ps ∧ Sep F vs m ao n c ws ∧ w0.heap.size ≤ m ∧ Below w0.heap.size w0 w ∧ ∀ p ∈ ps, p.length ≤ 1048576
theorem pl_put {w W w4 w5 w6 w7 : World} {F : Nat → Prop} {q m size rn rc rn' rc' : Nat} {vs us ws xs cs : List Value} {ps P5 : List (List Int)} {ra ra' : Option Addr} (hQ : QSt W w.heap.size F q size vs ps) (hR : RfQ W w.heap.size m 0 size ra rn rc ws ps) (hS : Sep F vs m ra rn rc ws) (hm : w.heap.size ≤ m) (hB : Below w.heap.size w W) (h4 : Below W.heap.size W w4)
    (hcs : ∀ v ∈ cs, ∀ k, v.ownBlock = some k → W.heap.size ≤ k ∧ k < w4.heap.size) (hQ5 : QSt w5 w.heap.size F q size (vs ++ us) P5) (ht5 : Tch F w4 w5) (hu : ∀ u ∈ us, ∀ k, u.ownBlock = some k → w4.heap.size ≤ k)
    (hR6 : RfQ w6 w.heap.size m 0 size ra' rn' rc' (ws ++ xs) P5) (ht6 : Tch (fun k => k = m ∨ (Value.slice ra rn rc).ownBlock = some k) w5 w6) (hx : ∀ x ∈ xs, ∀ k, x.ownBlock = some k → w5.heap.size ≤ k) (ha : ∀ k, (Value.slice ra' rn' rc').ownBlock = some k → (Value.slice ra rn rc).ownBlock = some k ∨ w5.heap.size ≤ k)
    (ht7 : Tch (fun k => ∃ v ∈ cs, v.ownBlock = some k) w6 w7) (hP : ∀ p ∈ P5, p.length ≤ 1048576) : PlI w F q m size w7 := by
  have s4 := h4.size
  have s5 := ht5.size
  have hml : m < W.heap.size := World.block_lt_of_cell? _ _ hR.c0
  have hrb : ∀ k, RfB ra rn rc ws k → k < W.heap.size := fun k hk => (hR.blocks k hk).2
  have hqb : ∀ k, QB F vs k → k < W.heap.size := fun k hk => (hQ.blocks k hk).2
  have hub : ∀ u ∈ us, ∀ k, u.ownBlock = some k → w4.heap.size ≤ k ∧ k < w5.heap.size := fun u hu' k hk => ⟨hu u hu' k hk, (hQ5.rows.blocks u (List.mem_append_right _ hu') k hk).2⟩
  have hqu : ∀ k, QB F (vs ++ us) k → (QB F vs k) ∨ (w4.heap.size ≤ k ∧ k < w5.heap.size) := fun k hk => by
    rcases hk with hk | ⟨v, hv, hk⟩
    · exact .inl (.inl hk)
    · rcases List.mem_append.1 hv with hv | hv
      · exact .inl (.inr ⟨v, hv, hk⟩)
      · exact .inr (hub v hv k hk)
  have hrx : ∀ k, RfB ra' rn' rc' (ws ++ xs) k → RfB ra rn rc ws k ∨ w5.heap.size ≤ k := fun k hk => by
    rcases hk with hk | ⟨v, hv, hk⟩
    · exact (ha k hk).imp (fun h => .inl h) id
    · rcases List.mem_append.1 hv with hv | hv
      · exact .inl (.inr ⟨v, hv, hk⟩)
      · exact .inr (hx v hv k hk)
  have n6 : ∀ k, QB F (vs ++ us) k → ¬ (k = m ∨ (Value.slice ra rn rc).ownBlock = some k) := fun k hk h => by
    rcases hqu k hk with h1 | h1
    · rcases h with h | h
      · exact (hS k h1).1 h
      · exact (hS k h1).2 (.inl h)
    · rcases h with h | h
      · omega
      · have := hrb k (.inl h); omega
  have n7 : ∀ k, (QB F vs k ∨ w4.heap.size ≤ k) → ¬ (∃ v ∈ cs, v.ownBlock = some k) := fun k hk h => by
    obtain ⟨v, hv, h⟩ := h
    have h2 := hcs v hv k h
    rcases hk with hk | hk
    · have := hqb k hk; omega
    · omega
  have n7' : ∀ k, (k < W.heap.size ∨ w4.heap.size ≤ k) → ¬ (∃ v ∈ cs, v.ownBlock = some k) := fun k hk h => by
    obtain ⟨v, hv, h⟩ := h
    have h2 := hcs v hv k h
    omega
  have hQ6 := hQ5.keep ht6 (fun k hk => n6 k (.inl hk)) (fun v hv k hk => n6 k (.inr ⟨v, hv, hk⟩))
  have hQ7 := hQ6.keep ht7 (fun k hk => n7 k (.inl (.inl hk))) (fun v hv k hk => n7 k ((hqu k (.inr ⟨v, hv, hk⟩)).imp id (fun h => h.1)))
  have hR7 := hR6.keep ht7 (n7' m (.inl hml)) (fun k hk => n7' k ((hrx k hk).imp (fun h => hrb k h) (fun h => Nat.le_trans s5 h)))
  refine ⟨vs ++ us, P5, ra', rn', rc', ws ++ xs, hQ7, hR7, ?_, hm, ?_, hP⟩
  · intro k hk
    rcases hqu k hk with h1 | h1
    · refine ⟨(hS k h1).1, fun h => ?_⟩
      rcases hrx k h with h | h
      · exact (hS k h1).2 h
      · have := hqb k h1; omega
    · refine ⟨by omega, fun h => ?_⟩
      rcases hrx k h with h | h
      · have := hrb k h; omega
      · omega
  · have b4 : Below w.heap.size w w4 := hB.trans (h4.mono hB.size)
    have b5 := b4.trans (ht5.below (fun k hk => (hQ.base k hk).1) b4.size)
    have b6 := b5.trans (ht6.below (fun k hk => by
      rcases hk with hk | hk
      · omega
      · exact (hR.own.lt k hk).1) b5.size)
    exact b6.trans (ht7.below (fun k hk => by
      obtain ⟨v, hv, hk⟩ := hk
      have := (hcs v hv k hk).1
      have := hB.size
      omega) b6.size)
set_option maxRecDepth 100000 in
theorem over_t {B n : Nat} {v : Value} {l : List Int} {w : World} (h : w.ownsRow B 5 1 v n (u8s l)) (hb : n ≤ 4611686018427387904) :
    Calls Try.prog 18 #[v] w fun e w' => e = .returned (.tuple #[]) ∧ Tch (fun k => v.ownBlock = some k) w w' := by
  have hl : l.length = n := by have := h.1; simpa [u8s] using this
  rcases h.2 with ⟨rfl, rfl⟩ | ⟨g, cap, cur, rfl, hg, _⟩
  · clear h hl
    go_enter Try.func18, Try.ntmps18
    go_wp2
    go_loopw [5] (fun i wr => i = .int .i64 0 ∧ Hid (w = wr)) (fun _ _ => 0)
    case atStart => exact ⟨rfl, Lib.hid rfl⟩
    case round =>
      obtain ⟨rfl, hw⟩ := hrel
      have HW := Lib.hid hw.out
      clear hw
      go_wp2
      go_end0
      exact ⟨rfl, by rw [HW.out]; exact Tch.refl _ _⟩
  · refine (over_any B g cap n n l w ⟨h, hl, hg⟩ (Nat.le_refl _) hb cap).mono ?_
    rintro e w' ⟨rfl, hgr⟩
    exact ⟨rfl, (tch_grown hgr).mono (fun k hk => hk.symm)⟩
theorem pl_get {w W w5 w6 w7 : World} {F : Nat → Prop} {q m size rn rc rc' n : Nat} {v u : Value} {vt wt : List Value} {p : List Int} {pt : List (List Int)} {ra ra' : Option Addr} (hQ : QSt W w.heap.size F q size (v :: vt) (p :: pt)) (hR : RfQ W w.heap.size m 0 size ra rn rc (u :: wt) (p :: pt)) (hS : Sep F (v :: vt) m ra rn rc (u :: wt)) (hm : w.heap.size ≤ m) (hB : Below w.heap.size w W)
    (hQ5 : QSt w5 w.heap.size F q size vt pt) (ht5 : Tch F W w5) (hR6 : RfQ w6 w.heap.size m 0 size ra' n rc' wt pt) (ht6 : Tch (· = m) w5 w6) (ha : ∀ k, (Value.slice ra' n rc').ownBlock = some k → w5.heap.size ≤ k) (ht7 : Tch (fun k => v.ownBlock = some k) w6 w7) (hP : ∀ x ∈ pt, x.length ≤ 1048576) : PlI w F q m size w7 := by
  have s5 := ht5.size
  have hvb : ∀ k, v.ownBlock = some k → QB F (v :: vt) k := fun k hk => .inr ⟨v, List.mem_cons_self, hk⟩
  have hsub : ∀ k, QB F vt k → QB F (v :: vt) k := fun k hk => hk.imp id (fun ⟨x, hx, h⟩ => ⟨x, List.mem_cons_of_mem _ hx, h⟩)
  have hrx : ∀ k, RfB ra' n rc' wt k → RfB ra rn rc (u :: wt) k ∨ w5.heap.size ≤ k := fun k hk => by
    rcases hk with hk | ⟨x, hx, hk⟩
    · exact .inr (ha k hk)
    · exact .inl (.inr ⟨x, List.mem_cons_of_mem _ hx, hk⟩)
  have hQ6 := hQ5.keep ht6 (fun k hk e => (hS k (.inl hk)).1 e) (fun x hx k hk e => (hS k (.inr ⟨x, List.mem_cons_of_mem _ hx, hk⟩)).1 e)
  have hQ7 := hQ6.keep ht7 (fun k hk e => hQ.far v List.mem_cons_self k e hk) (fun x hx k hk e => (List.pairwise_cons.1 hQ.apart).1 x hx k e hk)
  have hvs : ∀ k, v.ownBlock = some k → k < W.heap.size := fun k hk => (hQ.blocks k (hvb k hk)).2
  have hR7 := hR6.keep ht7 (fun e => (hS m (hvb m e)).1 rfl) (fun k hk e => by
    rcases hrx k hk with h | h
    · exact (hS k (hvb k e)).2 h
    · have := hvs k e; omega)
  refine ⟨vt, pt, ra', n, rc', wt, hQ7, hR7, ?_, hm, ?_, hP⟩
  · intro k hk
    refine ⟨(hS k (hsub k hk)).1, fun h => ?_⟩
    rcases hrx k h with h | h
    · exact (hS k (hsub k hk)).2 h
    · have := (hQ.blocks k (hsub k hk)).2; omega
  · have b5 := hB.trans (ht5.below (fun k hk => (hQ.base k hk).1) hB.size)
    have b6 := b5.trans (ht6.below (fun k hk => by omega) b5.size)
    exact b6.trans (ht7.below (fun k hk => (hQ.blocks k (hvb k hk)).1) b6.size)
theorem pl_drain {w W w5 w6 w7 : World} {F : Nat → Prop} {q m size rn rc : Nat} {vs ws : List Value} {ps : List (List Int)} {ra : Option Addr} (hQ : QSt W w.heap.size F q size vs ps) (hS : Sep F vs m ra rn rc ws) (hm : w.heap.size ≤ m) (hB : Below w.heap.size w W)
    (hQ5 : QSt w5 w.heap.size F q size [] []) (ht5 : Tch F W w5) (hR6 : RfQ w6 w.heap.size m 0 size none 0 0 [] []) (ht6 : Tch (· = m) w5 w6) (ht7 : Tch Non w6 w7) : PlI w F q m size w7 := by
  refine ⟨[], [], none, 0, 0, [], (hQ5.keep ht6 (fun k hk e => (hS k (.inl hk)).1 e) (fun x hx => by cases hx)).keep ht7 (fun _ _ h => h) (fun _ _ _ _ h => h), hR6.keep ht7 (fun h => h) (fun _ _ h => h), ?_, hm, ?_, fun p hp => by cases hp⟩
  · intro k hk
    refine ⟨(hS k (hk.imp id (fun ⟨x, hx, _⟩ => by cases hx))).1, fun h => ?_⟩
    rcases h with h | ⟨x, hx, _⟩
    · cases h
    · cases hx
  · have b5 := hB.trans (ht5.below (fun k hk => (hQ.base k hk).1) hB.size)
    have b6 := b5.trans (ht6.below (fun k hk => by omega) b5.size)
    exact b6.trans (ht7.below (fun k hk => hk.elim) b6.size)
theorem pl_same {w W w7 : World} {F : Nat → Prop} {q m size rn rc : Nat} {vs ws : List Value} {ps : List (List Int)} {ra : Option Addr} (hQ : QSt W w.heap.size F q size vs ps) (hR : RfQ W w.heap.size m 0 size ra rn rc ws ps) (hS : Sep F vs m ra rn rc ws) (hm : w.heap.size ≤ m) (hB : Below w.heap.size w W) (ht : Tch Non W w7) (hP : ∀ x ∈ ps, x.length ≤ 1048576) : PlI w F q m size w7 :=
  ⟨vs, ps, ra, rn, rc, ws, hQ.keep ht (fun _ _ h => h) (fun _ _ _ _ h => h), hR.keep ht (fun h => h) (fun _ _ h => h), hS, hm, hB.trans (ht.below (fun _ h => h.elim) hB.size), hP⟩
set_option maxRecDepth 100000 in
set_option maxHeartbeats 4000000 in
theorem plays_yes (size : Nat) (hs : size ≤ 4096) (ao : Option Addr) (n c : Nat) (os : List Opv) (w : World) (hI : ScrIn w ao n os) (hn : n ≤ 1152921504606846976) (hl : ∀ j, j < n → (os.getD j op0).n ≤ 1152921504606846976 ∧ ∀ p ∈ (os.getD j op0).ps, p.length ≤ 4611686018427387904) :
    Calls Try.prog 3 #[.int .i64 size, .slice ao n c] w fun e w' => e = .returned (.bool true) ∧ Below w.heap.size w w' := by
  have CA := Lib.hid (alive7_any w)
  have CN := Lib.hid (fun w => new_yes size hs w)
  have CG := Lib.hid (fun w => refGood_yes size (by omega) (by omega) w)
  have HI := Lib.hid hI
  have HL := Lib.hid hl
  have en := errNe
  have ee := errEq
  clear hI hl
  go_enter Try.func3, Try.ntmps3
  go_wp2_with fail
  refine CA.out.mono ?_
  rintro e w1 ⟨rfl, hb1⟩
  have HB1 := Lib.hid hb1
  clear hb1
  go_wp2_with fail
  refine (CN.out w1).mono ?_
  rintro e w2 ⟨q, F, rfl, hq, hb⟩
  have HQ2 := Lib.hid (hq.lower HB1.out.size)
  have HB2 := Lib.hid (bl_tr HB1.out hb)
  have HF2 := Lib.hid hq.base
  clear hb HB1 hq
  go_wp2_with fail
  refine (CG.out w2).mono ?_
  rintro e w3 ⟨rfl, rfl⟩
  have CL := Lib.hid (long_t ao n c os w2 (HI.out.below HB2.out) hn HL.out)
  go_wp2_with fail
  refine CL.out.mono ?_
  rintro e w3 ⟨z, rfl, hb, hz⟩
  have HB3 := Lib.hid (bl_tr HB2.out hb)
  have HQ3 := Lib.hid (HQ2.out.keep (tch_new hb) (fun _ _ h => h) (fun _ _ _ _ h => h))
  have HZ := Lib.hid hz
  clear hb HB2 HQ2 CL hz
  cases z with
  | true =>
    go_wp2
    go_ret
    exact ⟨rfl, HB3.out⟩
  | false =>
    obtain ⟨hn16, hfew⟩ := HZ.out rfl
    have HFW := Lib.hid hfew
    clear hfew
    have P0 : Hid (PlI w F q w3.heap.size size (w3.alloc (.cells #[.slice none 0 0, .int .i64 size] 35))) := Lib.hid (by
      refine ⟨[], [], none, 0, 0, [], HQ3.out.keep (tch_new (bl_al (Below.refl _ _) _)) (fun _ _ h => h) (fun _ _ _ _ h => h), ⟨?_, ?_, ?_, World.ownsRow_nil _ _ _ _, trivial, List.Pairwise.nil, (fun v hv => by cases hv), (fun v hv => by cases hv), (fun e => by cases e)⟩, ?_, HB3.out.size, bl_al HB3.out _, fun p hp => by cases hp⟩
      · exact cells_new w3 [.slice none 0 0, .int .i64 size] _ (0, 0) 0 _ rfl
      · exact cells_new w3 [.slice none 0 0, .int .i64 size] _ (0, 0) 1 _ rfl
      · exact frozen_of_row _ w3.heap.size 0 _ _ (heap_alloc_new w3 _)
      · intro k hk
        have hk2 := (HQ3.out.blocks k hk).2
        refine ⟨by omega, fun h => ?_⟩
        rcases h with h | ⟨v, hv, _⟩
        · cases h
        · cases hv)
    go_upto_region 9 with fail
    obtain ⟨X, hX⟩ : ∃ X, X = w3.alloc (.cells #[.slice none 0 0, .int .i64 size] 35) := ⟨_, rfl⟩
    obtain ⟨m, hm⟩ : ∃ m, m = w3.heap.size := ⟨_, rfl⟩
    rw [← hX, ← hm] at P0
    rw [← hX, ← hm]
    clear hX hm HQ3 HB3 HF2 HZ CG CN CA
    go_wp2
    go_loopw [53] (fun i wr => ∃ j : Nat, j ≤ n ∧ i = .int .i64 j ∧ Hid (PlI w F q m size wr)) (fun i _ => n - (intOf i).toNat)
    case atStart => exact ⟨0, by omega, rfl, P0⟩
    case round =>
      obtain ⟨j, hj, rfl, HP⟩ := hrel
      clear P0
      by_cases hlj : j < n
      · obtain ⟨vs, ps, ra, rn, rc, ws, hQ, hR, hS, hm, hB, hps⟩ := HP.out
        have HPS := Lib.hid hps
        have hIr := HI.out.below hB
        rcases hIr.here with h0 | ⟨b, off, rfl, hcs⟩
        · omega
        obtain ⟨e0, e1, e2⟩ := hcs j hlj
        have hro := hIr.rows j hlj
        have hrw := HI.out.rows j hlj
        have hfw := HFW.out j hlj
        obtain ⟨o, ho⟩ : ∃ o, o = os.getD j op0 := ⟨_, rfl⟩
        rw [← ho] at e0 e1 e2 hro hfw hrw
        obtain ⟨kind, oa, on, oc, us, qs, num⟩ := o
        simp only at e0 e1 e2 hro hrw
        have HRW := Lib.hid hrw
        have HPL := Lib.hid hR.len
        have HLO := Lib.hid (show (∀ k, QB F vs k → k < wr.heap.size) ∧ (∀ k, RfB ra rn rc ws k → k < wr.heap.size) ∧ m < wr.heap.size from ⟨fun k hk => (hQ.blocks k hk).2, fun k hk => (hR.blocks k hk).2, World.block_lt_of_cell? _ _ hR.c0⟩)
        have ilj : (j : Int) < (n : Int) := by omega
        have j0 : (0 : Int) ≤ (j : Int) := by omega
        have HRO := Lib.hid hro
        have HFO := Lib.hid hfw
        have HQ := Lib.hid hQ
        have HR := Lib.hid hR
        have HS := Lib.hid hS
        have HM := Lib.hid hm
        have HB := Lib.hid hB
        clear hps hcs hro hrw hfw ho hIr hQ hR hS hm hB HP
        go_upto_region 12 with fail
        have hT1 := tch_new (bl_al (Below.refl wr.heap.size wr) (.cells #[.int .i64 kind, .slice oa on oc, .int .i64 num] 37))
        have hQ1 := HQ.out.keep hT1 (fun _ _ h => h) (fun _ _ _ _ h => h)
        have hR1 := HR.out.keep hT1 (fun h => h) (fun _ _ h => h)
        have hB1 := bl_al HB.out (.cells #[.int .i64 kind, .slice oa on oc, .int .i64 num] 37)
        have hRO1 := HRO.out.below (bl_al (Below.refl wr.heap.size wr) (.cells #[.int .i64 kind, .slice oa on oc, .int .i64 num] 37))
        have g0 : (wr.alloc (.cells #[.int .i64 kind, .slice oa on oc, .int .i64 num] 37)).cell? ⟨wr.heap.size, 0, none⟩ = some (.int .i64 kind) := cells_new wr [.int .i64 kind, .slice oa on oc, .int .i64 num] _ (0, 0) 0 _ rfl
        have g1 : (wr.alloc (.cells #[.int .i64 kind, .slice oa on oc, .int .i64 num] 37)).cell? ⟨wr.heap.size, 1, none⟩ = some (.slice oa on oc) := cells_new wr [.int .i64 kind, .slice oa on oc, .int .i64 num] _ (0, 0) 1 _ rfl
        obtain ⟨W, hW⟩ : ∃ W, W = wr.alloc (.cells #[.int .i64 kind, .slice oa on oc, .int .i64 num] 37) := ⟨_, rfl⟩
        obtain ⟨qo, hqo⟩ : ∃ q, q = wr.heap.size := ⟨_, rfl⟩
        rw [← hW] at hQ1 hR1 hB1 hRO1 g0 g1
        rw [← hqo] at g0 g1 HLO
        rw [← hW, ← hqo]
        have HQ1 := Lib.hid hQ1
        have HR1 := Lib.hid hR1
        have HB1 := Lib.hid hB1
        have HRO1 := Lib.hid hRO1
        clear hT1 hQ1 hR1 hB1 hRO1 hW hqo HQ HR HB HRO e0 e1 e2
        go_upto_block 2 with fail
        go_cut [10, 11, 12, 13, 14] from 59 to 109 (fun _ _ _ _ _ wx => Hid (PlI w F q m size wx))
        case first =>
          by_cases hk01 : kind = 0 ∨ kind = 1
          · have hq : ((kind == 0) = true) ∨ ((kind == 0) = false ∧ (kind == 1) = true) := by
              rcases hk01 with h | h
              · left; simp [h]
              · right; simp [h]
            have CC := Lib.hid (copies_t us qs oa on oc W HRO1.out (by have := HFO.out.1; simp only at this; omega) (fun p hp => by have := HFO.out.2 p hp; omega))
            clear hk01
            rcases hq with q1 | ⟨q1, q2⟩
            all_goals
              go_upto_region 17 with fail
              go_wp2_with fail
              refine CC.out.mono ?_
              rintro e w4 ⟨gc, cc, cs, rfl, hown, hcps, hap, hng, hb⟩
              have t4 := tch_new hb
              have hQ4 := HQ1.out.keep t4 (fun _ _ h => h) (fun _ _ _ _ h => h)
              have hR4 := HR1.out.keep t4 (fun h => h) (fun _ _ h => h)
              have g14 := cell_later hb g1
              have hFW : ∀ k, F k → k < W.heap.size := fun k hk => (HQ1.out.base k hk).2
              have hgc := (hown.lt gc rfl).1
              have hcb := hcps.blocks
              have hPI : ∀ U, Tch F w4 U → RsP U (some ⟨gc, 0, none⟩) on cs qs := fun U hU =>
                rsp_copies (hU.own hown (fun k hk hf => by cases hk; have := hFW gc hf; omega)) (hcps.keep hU (fun v hv k hk hf => by have := hFW k hf; have := (hcb v hv k hk).1; omega))
              have CP := Lib.hid (fun U (hU : Tch Non w4 U) => put_t w.heap.size F q size vs cs ps qs (some ⟨gc, 0, none⟩) on cc U (hQ4.keep hU (fun _ _ h => h) (fun _ _ _ _ h => h)) (Nat.le_trans (Nat.le_trans HB1.out.size hb.size) hU.size) (fun U2 hU2 => hPI U2 ((hU.mono (fun _ h => h.elim)).trans hU2)) (by have := HFO.out.1; simp only at this; omega) (fun p hp => by have := HFO.out.2 p hp; omega))
              have HQ4 := Lib.hid hQ4
              have HR4 := Lib.hid hR4
              have HCP := Lib.hid hcps
              have HOW := Lib.hid hown
              have HAP := Lib.hid hap
              have HNG := Lib.hid hng
              have HB4 := Lib.hid hb
              have hd0 : Tch Non w4 w4.drew := tch_new (Below.refl _ _).drew
              have hS0 : w4.drew.cell? ⟨qo, 1, none⟩ = some (.slice oa on oc) := g14
              clear hown hcps hap hng hb t4 hQ4 hR4 hPI hgc hcb
              have hpl := HPL.out
              subst hpl
              have CR := Lib.hid (fun U (hR : RfQ U w.heap.size m 0 size ra ps.length rc ws ps) (hb : Below w.heap.size w U) => refPut_t w.heap.size m 0 size ra ps.length rc ws us ps qs oa on oc w U hR hb.size HRW.out hb (Nat.le_refl _) HM.out hs HQ4.out.le (by have := HFO.out.1; simp only at this; omega) (fun p hp => by have := HFO.out.2 p hp; omega))
              have CK := Lib.hid (fun U (hb : Below w.heap.size w U) (hT : Tch (fun k => k < W.heap.size) w4 U) => keptC_t us cs qs oa on oc gc cc w U HRW.out hb (by have := HFO.out.1; simp only at this; omega) (fun p hp => by have := HFO.out.2 p hp; omega) (hT.own (own_base HOW.out HB1.out.size) (fun k hk hf => by have := (HOW.out.lt k hk).1; omega)) ((HCP.out.base HB1.out.size).keep hT (fun v hv k hk hf => by have := (HCP.out.blocks v hv k hk).1; omega)) HAP.out HNG.out)
              have HB14 : Hid (Below w.heap.size w w4) := Lib.hid (HB1.out.trans (HB4.out.mono HB1.out.size))
              have HG1 := Lib.hid g14
              have HFW := Lib.hid hFW
              have HMW : Hid (m < W.heap.size) := Lib.hid (World.block_lt_of_cell? _ _ HR1.out.c0)
              have HRB : Hid (∀ k, (Value.slice ra ps.length rc).ownBlock = some k → k < W.heap.size) := Lib.hid (fun k hk => (HR1.out.own.lt k hk).2)
              have HQC : Hid (¬ ∃ v ∈ cs, v.ownBlock = some qo) := Lib.hid (fun h => by
                obtain ⟨v, hv, hk⟩ := h
                have h1 := (HCP.out.blocks v hv qo hk).1
                have h2 := World.block_lt_of_cell? _ _ g1
                have h3 : qo < W.heap.size := h2
                omega)
              have HNS : Hid (¬ (qo = m ∨ (Value.slice ra ps.length rc).ownBlock = some qo)) := Lib.hid (fun h => by
                rcases h with h | h
                · have := HLO.out.2.2; omega
                · exact Nat.lt_irrefl _ (HLO.out.2.1 qo (.inl h)))
              have HTB : Hid (∀ k, (k = m ∨ (Value.slice ra ps.length rc).ownBlock = some k) → w.heap.size ≤ k) := Lib.hid (fun k hk => by
                rcases hk with hk | hk
                · have := HM.out; omega
                · exact (HR4.out.own.lt k hk).1)
              have HTW : Hid (∀ k, (k = m ∨ (Value.slice ra ps.length rc).ownBlock = some k) → k < W.heap.size) := Lib.hid (fun k hk => by
                rcases hk with hk | hk
                · have := HMW.out; omega
                · exact HRB.out k hk)
              clear hFW
              clear g14 CC
              go_upto_region 18 with fail
              go_region_held3 (fun wx => wx.cell? ⟨qo, 1, none⟩ = some (.slice oa on oc)) (first | (with_reducible exact hS0) | (with_reducible exact hS5) | (with_reducible exact hS6) | (with_reducible exact hS7) | fail)
                (first | (go_at_call 13; (with_reducible refine (CP.out _ hd0).mono ?_); rintro e w5 ⟨xs, rfl, hQ5, ht5, hu5⟩; have hd5 := (hd0.mono (fun _ h => h.elim)).trans ht5; have hS5 := hd5.cell HG1.out (fun h => Nat.lt_irrefl _ (HLO.out.1 qo (.inl h))); have hR5 := HR4.out.keep hd5 (fun h => (HS.out m (.inl h)).1 rfl) (fun k hk h => (HS.out k (.inl h)).2 hk); have hB5 := HB14.out.trans (hd5.below (fun k hk => (HQ4.out.base k hk).1) HB14.out.size)) | (go_at_call 14; (with_reducible refine (CR.out _ hR5 hB5).mono ?_); rintro e w6 ⟨ra2, rc2, ys, rfl, hR6, ho6, ht6, hx6, ha6⟩; have hS6 := ht6.cell hS5 HNS.out; have hB6 := hB5.trans (ht6.below HTB.out hB5.size); have hd6 := (hd5.mono HFW.out).trans' ht6 (fun k _ hk => HTW.out k hk)) | (go_at_call 15; (with_reducible refine (CK.out _ hB6 hd6).mono ?_); rintro e w7 ⟨rfl, ht7⟩; have hS7 := ht7.cell hS6 (fun h => HQC.out h)) | fail)
              rename_i hHeld
              have HPI := Lib.hid (pl_put HQ1.out HR1.out HS.out HM.out HB1.out HB4.out HCP.out.blocks hQ5 ((hd0.mono (fun _ h => h.elim)).trans ht5) hu5 hR6 ht6 hx6 ha6 ht7 (fun p hp => (List.mem_append.1 hp).elim (HPS.out p) (fun h => HFO.out.2 p (List.mem_of_mem_take h))))
              clear hHeld hQ5 ht5 hu5 hR6 ht6 hx6 ha6 ht7 hd0 hS0 hS5 hS6 hS7 hR5 hB5 hB6 hd5 hd6 ho6 CP CR CK g0 g1 HQ4 HR4 HB14 HG1
              go_wp2
              go_meet
              exact HPI
          · have q1 : (kind == 0) = false := by simp; omega
            have q2 : (kind == 1) = false := by simp; omega
            have hpl := HPL.out
            subst hpl
            by_cases hk2 : kind = 2
            · have q3 : (kind == 2) = true := by simp [hk2]
              clear hk01 hk2
              cases ps with
              | nil =>
                have hvs : vs = [] := List.eq_nil_of_length_eq_zero HQ1.out.rows.len
                have hws : ws = [] := List.eq_nil_of_length_eq_zero HR1.out.rows.len
                subst hvs hws
                have CG := Lib.hid (get0_t w.heap.size F q size W HQ1.out)
                go_upto_region 21 with fail
                go_wp2_with fail
                refine CG.out.mono ?_
                rintro e w5 ⟨rfl, ht5⟩
                have CR := Lib.hid (refGet_none w.heap.size m 0 size ra rc w5 (ht5.cell HR1.out.c0 (fun h => h)))
                have sA := str_of (At.nil w5 none 0) (rfl : ([] : List Int).length = 0)
                have CO := Lib.hid (over_t (w := w5) (B := 0) (n := 0) (l := []) (World.ownsRow_nil w5 0 5 1) (by omega))
                have HT5 := Lib.hid ht5
                clear ht5 CG g0 g1
                obtain ⟨s0, hs0⟩ : ∃ s, s = strOfNums [] := ⟨_, rfl⟩
                rw [← hs0] at sA
                clear hs0
                go_wp2_with fail
                refine CR.out.mono ?_
                rintro e w6 ⟨rfl, rfl⟩
                go_wp2_with fail
                refine CO.out.mono ?_
                rintro e w7 ⟨rfl, ht7⟩
                have HPI := Lib.hid (pl_same HQ1.out HR1.out HS.out HM.out HB1.out (HT5.out.trans (ht7.mono (fun k hk => by cases hk))) (fun p hp => by cases hp))
                clear ht7
                go_wp2
                go_meet
                exact HPI
              | cons p pt =>
                have hv1 := HQ1.out.rows.len
                have hw1 := HR1.out.rows.len
                cases vs with
                | nil => cases hv1
                | cons v vt =>
                cases ws with
                | nil => cases hw1
                | cons u wt =>
                have CG := Lib.hid (get_t w.heap.size F q size v vt p pt W HQ1.out)
                have hpl : p.length ≤ 4611686018427387904 := by have := HPS.out p List.mem_cons_self; omega
                go_upto_region 21 with fail
                go_wp2_with fail
                refine CG.out.mono ?_
                rintro e w5 ⟨rfl, hQ5, ht5, ho5⟩
                have hR5 := HR1.out.keep ht5 (fun h => (HS.out m (.inl h)).1 rfl) (fun k hk h => (HS.out k (.inl h)).2 hk)
                have CR := Lib.hid (refGet_some w.heap.size m 0 size pt.length ra rc u wt p pt w5 hR5 (Nat.le_trans HB1.out.size ht5.size) (by have := hQ5.le; omega))
                have HQ5 := Lib.hid hQ5
                have HT5 := Lib.hid ht5
                have HO5 := Lib.hid ho5
                have HR5 := Lib.hid hR5
                clear hQ5 ht5 ho5 hR5 CG g0 g1 hv1 hw1
                go_wp2_with fail
                refine CR.out.mono ?_
                rintro e w6 ⟨ra2, rc2, rfl, hR6, ho6, ht6, ha6⟩
                have ho6v := ht6.own HO5.out (fun k hk e => (HS.out k (.inr ⟨v, List.mem_cons_self, hk⟩)).1 e)
                have hu6 := ht6.own HR5.out.rows.1.1 (fun k hk e => HR5.out.away u List.mem_cons_self (by rw [hk, e]))
                obtain ⟨av, cv, hav⟩ := own_form ho6v
                obtain ⟨au, cu, hau⟩ := own_form hu6
                have sA := str_of (by rw [← hav]; exact At.own ho6v : At w6 (.slice av p.length cv) p) rfl
                have sB := str_of (by rw [← hau]; exact At.own hu6 : At w6 (.slice au p.length cu) p) rfl
                rw [← hav] at sA
                rw [← hau] at sB
                have CO := Lib.hid (over_t ho6v hpl)
                obtain ⟨s0, hs0⟩ : ∃ s, s = strOfNums p := ⟨_, rfl⟩
                rw [← hs0] at sA sB
                have HR6 := Lib.hid hR6
                have HT6 := Lib.hid ht6
                have HA6 := Lib.hid ha6
                clear hs0 hav hau ho6v hu6 hR6 ho6 ht6 ha6 CR
                go_wp2_with fail
                refine CO.out.mono ?_
                rintro e w7 ⟨rfl, ht7⟩
                have HPI := Lib.hid (pl_get HQ1.out HR1.out HS.out HM.out HB1.out HQ5.out HT5.out HR6.out HT6.out HA6.out ht7 (fun x hx => HPS.out x (List.mem_cons_of_mem _ hx)))
                clear ht7 sA sB
                go_wp2
                go_meet
                exact HPI
            · have q3 : (kind == 2) = false := by simp; omega
              clear hk01 hk2
              have CD := Lib.hid (drain_t w.heap.size F q size vs ps W HQ1.out hs)
              go_upto_region 13 with fail
              go_wp2_with fail
              refine CD.out.mono ?_
              rintro e w5 ⟨da, dc, rfl, ho5, hQ5, ht5⟩
              have hR5 := HR1.out.keep ht5 (fun h => (HS.out m (.inl h)).1 rfl) (fun k hk h => (HS.out k (.inl h)).2 hk)
              have CR := Lib.hid (refDrain_t w.heap.size m 0 size ps.length ra rc ws ps w5 hR5)
              have hv5 := HQ1.out.rows.keep ht5 HQ1.out.far
              have HQ5 := Lib.hid hQ5
              have HT5 := Lib.hid ht5
              have HR5 := Lib.hid hR5
              have HV5 := Lib.hid hv5
              have HO5 := Lib.hid ho5
              clear hQ5 ht5 hR5 hv5 ho5 CD g0 g1
              go_wp2_with fail
              refine CR.out.mono ?_
              rintro e w6 ⟨rfl, hR6, ho6, ht6⟩
              have hmW : m < W.heap.size := World.block_lt_of_cell? _ _ HR1.out.c0
              have hA := rsd_own (ht6.own HO5.out (fun k hk e => by have := (HO5.out.lt k hk).1; omega)) (HV5.out.keep ht6 (fun x hx k hk e => (HS.out k (.inr ⟨x, hx, hk⟩)).1 e))
              have hC := rsd_own (ht6.own HR5.out.own (fun k hk e => HR5.out.away0 (by rw [hk, e]))) (HR5.out.rows.keep ht6 (fun x hx k hk e => HR5.out.away x hx (by rw [hk, e])))
              have CW := Lib.hid (rows_t vs ws ps ps da ra ps.length dc ps.length rc w6 hA hC (by have := HQ1.out.le; omega) true (by simp))
              have HR6 := Lib.hid hR6
              have HT6 := Lib.hid ht6
              clear hmW hA hC hR6 ho6 ht6 CR
              go_wp2_with fail
              refine CW.out.mono ?_
              rintro e w7 ⟨rfl, hb7⟩
              have HPI := Lib.hid (pl_drain HQ1.out HS.out HM.out HB1.out HQ5.out HT5.out HR6.out HT6.out (tch_new hb7))
              clear hb7
              go_wp2
              go_meet
              exact HPI
        case rest =>
          obtain ⟨vs2, ps2, ra2, rn2, rc2, ws2, hQ, hR, hS, hm, hB, hps2⟩ := hcut.out
          have hrn := hR.len
          have hle := hQ.le
          have hc0 := hR.c0
          have CLn := Lib.hid (fun U (hU : Tch Non wc U) => len_t w.heap.size F q size vs2 ps2 U (hQ.keep hU (fun _ _ h => h) (fun _ _ _ _ h => h)))
          have CRm := Lib.hid (fun U (hU : Tch Non wc U) => room_t w.heap.size F q size vs2 ps2 U (hQ.keep hU (fun _ _ h => h) (fun _ _ _ _ h => h)) hs)
          rw [hrn] at CLn CRm hle
          have v1 : ∀ [Inhabited Nat], IntKind.i64.wrap ((size : Int) - (rn2 : Int)) = ((size - rn2 : Nat) : Int) := by intro _; rw [IntWalk.i64_in _ (by omega)]; omega
          have hd0 : Tch Non wc wc.drew := tch_new (Below.refl _ _).drew
          have hS0 : wc.drew.cell? ⟨m, 0, none⟩ = some (.slice ra2 rn2 rc2) := hc0
          have HP2 : Hid (∀ U, Tch Non wc U → PlI w F q m size U) := Lib.hid (fun U hU => ⟨vs2, ps2, ra2, rn2, rc2, ws2, hQ.keep hU (fun _ _ h => h) (fun _ _ _ _ h => h), hR.keep hU (fun h => h) (fun _ _ h => h), hS, hm, hB.trans (hU.below (fun _ h => h.elim) hB.size), hps2⟩)
          have hC0 := Lib.hid hc0
          clear hQ hR hS hm hB hrn hc0 hcut HQ1 HR1 HB1 HRO1 g0 g1
          go_upto_region 26 with fail
          go_region_held3 (fun wx => wx.cell? ⟨m, 0, none⟩ = some (.slice ra2 rn2 rc2)) (first | (with_reducible exact hS0) | (with_reducible exact hS4) | (with_reducible exact hS5) | fail)
            (first | (go_at_call 22; (with_reducible refine (CLn.out _ hd0).mono ?_); rintro e w4 ⟨rfl, ht4⟩; have hd4 := hd0.trans ht4; have hS4 := hd4.cell hC0.out (fun h => h)) | (go_at_call 23; (with_reducible refine (CRm.out _ hd4).mono ?_); rintro e w5 ⟨rfl, ht5⟩; have hd5 := hd4.trans ht5; have hS5 := hd5.cell hC0.out (fun h => h)) | fail)
          rename_i hHeld
          have HP5 := Lib.hid (HP2.out _ hd5)
          clear hHeld hS0 hS4 hS5 hd0 hd4 hd5 ht4 ht5 v1 CLn CRm
          go_wp2
          go_roundw
          case rel => exact ⟨j + 1, by omega, by go_num, HP5⟩
          case measure => simp [intOf]; omega
      · have ilj : ¬ ((j : Int) < (n : Int)) := by omega
        obtain ⟨_, _, _, _, _, _, _, _, _, _, hB, _⟩ := HP.out
        have HB := Lib.hid hB
        clear hB HP
        go_wp2
        go_ret
        exact ⟨rfl, HB.out⟩
end Go.Proofs.Ytdjeacmonlgdhaa
