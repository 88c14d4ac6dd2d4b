/- A listener's Receive.
 Conditions: those stated. -/
import Derived.Test.YtlmkmbpikhagiaaLiD
import Derived.Deep.RegionHeld3
import Derived.Deep.CutRange
import Derived.Deep.CutBlock
namespace Go.Proofs.Ytlmkmbpikhagiaa
open Go Go.RowKit Go.Lib
set_option linter.unusedVariables false
set_option linter.unusedSimpArgs false

/-- What a listener does with a word: its sessions behind it, its answer. -/
def recF (l : List Se) (fr : Int) (m : Mg) (now : Int) : List Se × Option Mg :=
  if OkR m ∧ IsMux fr ∧ IsTm now then
    (if m.kind = 10 then (putS ⟨fr, m.nums.getD 0 0, now, m.nums.drop 1⟩ l, some ⟨11, [m.nums.getD 0 0], []⟩)
     else if m.kind = 12 ∨ m.kind = 13 then
       (match findS fr l with
        | some e => if e.boot = m.nums.getD 0 0 then (putS ⟨fr, m.nums.getD 0 0, now, if m.kind = 13 then e.vips else m.nums.drop 1⟩ l, none) else (l, some ⟨14, [m.nums.getD 0 0], []⟩)
        | none => (l, some ⟨14, [m.nums.getD 0 0], []⟩))
     else (l, none))
  else (l, none)
/-- The answer in memory. -/
def AnsM (w : World) (B : Nat) (x : Option Mg) (e : Ending) : Prop := match x with
  | none => e = .returned (.tuple #[mval 0 none 0 0 none 0 0, .bool false])
  | some m => ∃ a n c, e = .returned (.tuple #[mval m.kind a n c none 0 0, .bool true]) ∧ n = m.nums.length ∧ w.ownsRow B 3 1 (.slice a n c) n (i64s m.nums)
def RecL (w : World) (F : Nat → Prop) (B p : Nat) (l : List Se) (fr : Int) (m : Mg) (now : Int) (e : Ending) (w' : World) : Prop :=
  LiTo w F B p (recF l fr m now).1 w' ∧ AnsM w' w.heap.size (recF l fr m now).2 e
theorem fit_put {l : List Se} (hf : ∀ e ∈ l, IsMux e.mux ∧ IsTm e.boot ∧ IsTm e.heard) (x : Se) (hx : IsMux x.mux ∧ IsTm x.boot ∧ IsTm x.heard) : ∀ e ∈ putS x l, IsMux e.mux ∧ IsTm e.boot ∧ IsTm e.heard := fun e he => by
  rcases mem_put.1 he with rfl | ⟨h, _⟩
  · exact hx
  · exact hf e h
/-- A session is put: the map turns. -/
theorem LiS.put {w w3 : World} {F G : Nat → Prop} {B p : Nat} {l : List Se} (hL : LiS w F B p l) (hb : Below w.heap.size w w3) (hFG : ∀ k, F k → G k) (hG : ∀ k, G k → B ≤ k ∧ k < w3.heap.size) {x : Se} (hx : IsMux x.mux ∧ IsTm x.boot ∧ IsTm x.heard) {v : SV} (hv : RowS w3 G B v x) :
    ∃ b w4, w3.cell? ⟨p, 0, none⟩ = some (.map (some b)) ∧ (Instr.mapUpdate tyMap (.map (some b)) (.int .i64 x.mux) v.v).run Try.prog w3 = .ok () w4 ∧ LiS w4 G B p (putS x l) ∧ Tch F w w4 ∧ Tch (· = b) w3 w4 ∧ F b ∧ b ≠ p ∧ w4.heap.size = w3.heap.size := by
  obtain ⟨b, hp, hm⟩ := (hL.below hb).at_
  obtain ⟨es, clock, hobj⟩ := hm.obj
  have hk : i64c x.mux := by have := hx.1; unfold IsMux at this; unfold i64c; omega
  have hfew := muxes_few hL.srt (fun e he => (hL.fit e he).1)
  obtain ⟨w4, hr, hm4, ht4, hs4⟩ := (hm.mono hFG).store hL.srt (by omega) hk hv
  have hbp : b ≠ p := fun e => by rw [e] at hobj; rw [hobj] at hp; cases hp
  refine ⟨b, w4, (cell_of_row w3 p 0 _ _ _ hp).trans rfl, hr, ⟨hFG p hL.here, fun k hk => by rw [hs4]; exact hG k hk, srt_put hL.srt x, fit_put hL.fit x hx, b, ht4.at hp (fun e => hbp e.symm), hm4⟩, ?_, ht4, hm.1, hbp, hs4⟩
  refine ((tch_new hb).mono (fun _ h => h.elim)).trans' ht4 (fun k hk e => ?_)
  rw [e]
  exact hm.1
theorem LiS.fin {w w5 w6 : World} {F G T : Nat → Prop} {B p : Nat} {l : List Se} (h : LiS w5 G B p l) (hB : B ≤ w.heap.size) (hG : ∀ k, G k → F k ∨ w.heap.size ≤ k) (ht : Tch F w w5) (h6 : Tch T w5 w6) (hT : ∀ k, T k → w.heap.size ≤ k ∧ ¬ G k) (hF : ∀ k, F k → k < w.heap.size) (hFB : ∀ k, F k → B ≤ k) : LiTo w F B p l w6 := by
  have h2 := h.tch h6 (fun k hg hT2 => (hT k hT2).2 hg)
  refine ⟨h2.gr (fun k hk => ?_) (fun k hk => ?_), ht.trans' h6 (fun k hk hT2 => by have := (hT k hT2).1; omega)⟩
  · rcases hG k hk with h | h
    · exact .inl h
    · exact .inr ⟨h, (h2.blocks k hk).2⟩
  · rcases hk with hk | hk
    · have := hF k hk
      have := ht.size
      have := h6.size
      exact ⟨hFB k hk, by omega⟩
    · exact ⟨by omega, hk.2⟩
theorem tch3 (w : World) (q : Nat) (v0 v1 v2 : Value) : Tch (· = q) w (((w.setCell ⟨q, 0, none⟩ v0).setCell ⟨q, 1, none⟩ v1).setCell ⟨q, 2, none⟩ v2) :=
  ((tch_set w ⟨q, 0, none⟩ v0).trans (tch_set _ ⟨q, 1, none⟩ v1)).trans (tch_set _ ⟨q, 2, none⟩ v2)
/-- Nothing was put: the zero answer's cells only. -/
theorem stay {w w2 : World} {F : Nat → Prop} {B p q8 : Nat} {l : List Se} (hL : LiS w F B p l) (hb : Below w.heap.size w w2) (hq : q8 = w.heap.size + 1) (hB : B ≤ w.heap.size) {v0 v1 v2 : Value} : LiTo w F B p l (((w2.setCell ⟨q8, 0, none⟩ v0).setCell ⟨q8, 1, none⟩ v1).setCell ⟨q8, 2, none⟩ v2) := by
  have ht : Tch (fun k => w.heap.size ≤ k) w (((w2.setCell ⟨q8, 0, none⟩ v0).setCell ⟨q8, 1, none⟩ v1).setCell ⟨q8, 2, none⟩ v2) := (tch_below hb).trans ((tch3 w2 q8 v0 v1 v2).mono (fun k hk => by rw [hk, hq]; exact Nat.le_succ _))
  refine ⟨(hL.tch ht (fun k hF hk => by have := (hL.blocks k hF).2; omega)).gr (fun k hk => .inl hk) (fun k hk => ?_), (Tch.refl F w).trans' ht (fun k hk h => by omega)⟩
  rcases hk with hk | hk
  · have h1 := hL.blocks k hk; have := ht.size; exact ⟨h1.1, by omega⟩
  · exact ⟨by omega, hk.2⟩
set_option maxRecDepth 100000 in
set_option maxHeartbeats 40000000 in
theorem recL_c (fr : Int) (m : Mg) (a : Option Addr) (n c : Nat) (b0 : Option Addr) (k d : Nat) (now : Int) (F : Nat → Prop) (B p : Nat) (l : List Se) (w : World) (hL : LiS w F B p l) (hB : B ≤ w.heap.size) (hI : InI w a n c m.nums) (hn : n ≤ 4611686018427387904) (hfr : i64c fr) :
    Calls Try.prog 30 #[.pointer (some ⟨p, 0, none⟩), .int .i64 fr, mval m.kind a n c b0 k d, .int .i64 now] w (RecL w F B p l fr m now) := by
  obtain ⟨W, hW⟩ : ∃ W, (w.alloc (mobj m.kind a n c b0 k d)).alloc (mobj 0 none 0 0 none 0 0) = W := ⟨_, rfl⟩
  have s1 : (w.alloc (mobj m.kind a n c b0 k d)).heap.size = w.heap.size + 1 := by simp
  have sW : W.heap.size = w.heap.size + 2 := by rw [← hW]; simp
  have hbw : Below w.heap.size w W := by rw [← hW]; exact bl_al (bl_al (Below.refl _ _) _) _
  have hat : MAt W w.heap.size m.kind a n c b0 k d := by rw [← hW]; exact (MAt.new w m.kind a n c b0 k d).below (bl_al (Below.refl _ _) _) (by omega)
  have hz : W.heap[w.heap.size + 1]? = some (.cells (mcs 0 none 0 0 none 0 0) 40 (0, 0)) := by rw [← hW, ← s1]; exact heap_alloc_new _ _
  have HBW := Lib.hid hbw
  have HL := Lib.hid hL
  have CR := Lib.hid (read_c m a n c b0 k d W (hI.below hbw) hn)
  have CMX := Lib.hid (mux_c fr hfr)
  have CTM := Lib.hid (time_c now)
  obtain ⟨q6, hq6⟩ : ∃ q, q = w.heap.size := ⟨_, rfl⟩
  obtain ⟨q8, hq8⟩ : ∃ q, q = w.heap.size + 1 := ⟨_, rfl⟩
  rw [← hq6] at hat
  rw [← hq8] at hz
  have HZ := Lib.hid hz
  have HQ6 := Lib.hid hq6
  have HQ8 := Lib.hid hq8
  have HW := Lib.hid hW
  have HSW := Lib.hid sW
  obtain ⟨e0, e1, e2⟩ := hat
  obtain ⟨kind, hkk⟩ : ∃ x, x = m.kind := ⟨_, rfl⟩
  have HK := Lib.hid hkk
  rw [← hkk] at e0 HW CR ⊢
  clear hW hq6 hq8 hI hkk hbw hL hz s1 sW
  go_enter Try.func30, Try.ntmps30
  go_upto_region 1 with fail
  rw [HW.out, ← HQ8.out, ← HQ6.out]
  go_wp2_with fail
  refine CR.out.mono ?_
  rintro e w2 ⟨hb2, ⟨hv, a2, c2, rfl, ho2⟩ | ⟨hv, rfl⟩⟩
  · have HB2 := Lib.hid (bl_tr HBW.out hb2)
    have HZ2 := Lib.hid ((hb2.block q8 (lt_of_block HZ.out)).trans HZ.out)
    have k0 : w2.cell? ⟨q6, 0, none⟩ = some (.int .i64 kind) := (hb2.cell (p := ⟨q6, 0, none⟩) (block_lt_of_cell e0)).trans e0
    have HK0 := Lib.hid k0
    obtain ⟨x, hx⟩ : ∃ x, x = m.nums.getD 0 0 := ⟨_, rfl⟩
    obtain ⟨nv, hnv⟩ : ∃ nv, nv = (m.nums.drop 1).length := ⟨_, rfl⟩
    rw [← hnv] at ho2
    rw [← hx, ← hnv]
    have HX := Lib.hid hx
    have HV := Lib.hid hv
    have HNV := Lib.hid hnv
    have HO2 := Lib.hid (own_base ho2 (Nat.le_trans hB HBW.out.size))
    have HO2' := Lib.hid (fun g hg => (ho2.lt g hg))
    have HSZ2 : Hid (w.heap.size + 2 ≤ w2.heap.size) := Lib.hid (by have := hb2.size; have := HSW.out; omega)
    obtain ⟨z0, z1, z2⟩ := MAt.of HZ2.out
    have zf := fun o => frozen_of_row w2 q8 o _ _ HZ2.out
    clear hx hnv hb2 ho2 CR e0 e1 e2 hv
    by_cases hmx : IsMux fr
    · rw [decide_eq_true hmx] at CMX
      by_cases htm : IsTm now
      · rw [decide_eq_true htm] at CTM
        have HPRE := Lib.hid (show OkR m ∧ IsMux fr ∧ IsTm now from ⟨HV.out, hmx, htm⟩)
        clear hmx htm
        have HFX := Lib.hid (show fitI [x] from fun z hz => by have h1 := HV.out.2.2.1; rw [← HX.out] at h1; unfold IsTm at h1; simp at hz; omega)
        obtain ⟨w3, hw3⟩ : ∃ v, v = w2.alloc (.cells #[.int .i64 x, .int .i64 now, .slice a2 nv c2] tyE) := ⟨_, rfl⟩
        have HB23 := Lib.hid (show Below w2.heap.size w2 w3 by rw [hw3]; exact bl_al (Below.refl _ _) _)
        have hq3 : w3.heap[w2.heap.size]? = some (.cells #[.int .i64 x, .int .i64 now, .slice a2 nv c2] tyE (0, 0)) := by rw [hw3]; exact heap_alloc_new _ _
        have HB3 := Lib.hid (bl_tr HB2.out HB23.out)
        obtain ⟨q, hq⟩ : ∃ q, q = w2.heap.size := ⟨_, rfl⟩
        rw [← hq] at hq3
        have HQ := Lib.hid hq
        have HQlt : Hid (w.heap.size + 2 ≤ q) := Lib.hid (by rw [hq]; exact HSZ2.out)
        have HQR := Lib.hid hq3
        obtain ⟨b3, hp3, hm3⟩ := (HL.out.below HB3.out).at_
        have cp3 : w3.cell? ⟨p, 0, none⟩ = some (.map (some b3)) := (cell_of_row w3 p 0 _ _ _ hp3).trans rfl
        obtain ⟨y, hlk, hlook⟩ := hm3.look hfr
        have HLK := Lib.hid hlook
        have HW3 := Lib.hid hw3
        rw [show y.v = .agg #[.int .i64 y.boot, .int .i64 y.heard, .slice y.a y.n y.c] from rfl] at hlk
        clear hw3 hq hp3 hm3 hlook hq3
        go_upto_region 5 with (first | (go_at_call 33; refine (CMX.out _).mono ?_; rintro e w1 ⟨rfl, rfl⟩) | (go_at_call 34; refine (CTM.out _).mono ?_; rintro e w1 ⟨rfl, rfl⟩))
        rw [← HW3.out, ← HQ.out]
        clear z0 z1 z2 zf k0
        obtain ⟨WW, hw4⟩ : ∃ v, v = w3.alloc (.cells #[.int .i64 y.boot, .int .i64 y.heard, .slice y.a y.n y.c] tyE) := ⟨_, rfl⟩
        have HB34 := Lib.hid (show Below w3.heap.size w3 WW by rw [hw4]; exact bl_al (Below.refl _ _) _)
        have hq4 : WW.heap[w3.heap.size]? = some (.cells #[.int .i64 y.boot, .int .i64 y.heard, .slice y.a y.n y.c] tyE (0, 0)) := by rw [hw4]; exact heap_alloc_new _ _
        have HBW4 := Lib.hid (bl_tr HB3.out HB34.out)
        obtain ⟨q4, hq4e⟩ : ∃ q, q = w3.heap.size := ⟨_, rfl⟩
        rw [← hq4e] at hq4
        have HQ4 := Lib.hid hq4e
        have HW4 := Lib.hid hw4
        obtain ⟨o0, o1, o2⟩ := SV.load hq4
        obtain ⟨r0, r1, r2⟩ := SV.load (x := ⟨x, now, a2, nv, c2⟩) ((HB34.out.block q (lt_of_block HQR.out)).trans HQR.out)
        have HZ4 := Lib.hid ((HB34.out.block q8 (by have := lt_of_block HZ2.out; have := HB23.out.size; omega)).trans ((HB23.out.block q8 (lt_of_block HZ2.out)).trans HZ2.out))
        have k4 : WW.cell? ⟨q6, 0, none⟩ = some (.int .i64 kind) := (HB34.out.cell (p := ⟨q6, 0, none⟩) (by have := World.block_lt_of_cell? _ _ HK0.out; have := HB23.out.size; simp at *; omega)).trans ((HB23.out.cell (p := ⟨q6, 0, none⟩) (World.block_lt_of_cell? _ _ HK0.out)).trans HK0.out)
        have HOW := Lib.hid (owns_bel (owns_bel HO2.out HB23.out) HB34.out)
        have HY := Lib.hid (show findS fr l = none ∨ ∃ e0, findS fr l = some e0 ∧ RowS w3 F B y e0 by
          have h := HLK.out
          unfold LookS at h
          cases hf : findS fr l with
          | none => exact .inl rfl
          | some e0 => rw [hf] at h; exact .inr ⟨e0, rfl, h⟩)
        have HRF := Lib.hid (show recF l fr m now = (if m.kind = 10 then (putS ⟨fr, m.nums.getD 0 0, now, m.nums.drop 1⟩ l, some ⟨11, [m.nums.getD 0 0], []⟩) else if m.kind = 12 ∨ m.kind = 13 then (match findS fr l with
                | some e => if e.boot = m.nums.getD 0 0 then (putS ⟨fr, m.nums.getD 0 0, now, if m.kind = 13 then e.vips else m.nums.drop 1⟩ l, none) else (l, some ⟨14, [m.nums.getD 0 0], []⟩)
                | none => (l, some ⟨14, [m.nums.getD 0 0], []⟩)) else (l, none)) by unfold recF; rw [if_pos HPRE.out])
        obtain ⟨fo, hfo⟩ : ∃ fo, fo = (findS fr l).isSome := ⟨_, rfl⟩
        rw [← hfo] at hlk
        have HFO := Lib.hid hfo
        clear hw4 hq4 hq4e hfo
        go_upto_region 6 with fail
        rw [← HW4.out, ← HQ4.out]
        clear hlk cp3
        by_cases h10 : kind = 10
        · have zk : (kind == 10) = true := by simp [h10]
          have HREC := Lib.hid (show recF l fr m now = (putS ⟨fr, x, now, m.nums.drop 1⟩ l, some ⟨11, [x], []⟩) by rw [HRF.out, ← HX.out, if_pos (by rw [← HK.out]; exact h10)])
          clear h10
          obtain ⟨b, w5, cpb, hr5, hL5, hT5, ht5, hFb, hbp, hs5⟩ := LiS.put (w := w) (w3 := WW.drew) (F := F) (G := (fun k => F k ∨ (Value.slice a2 nv c2).ownBlock = some k)) HL.out (HBW4.out.drew) (fun k hk => .inl hk) (fun k hk => by
            rcases hk with hk | hk
            · have h1 := HL.out.blocks k hk; have h2 := HBW4.out.size; exact ⟨h1.1, Nat.lt_of_lt_of_le h1.2 h2⟩
            · exact HOW.out.lt k hk) (x := ⟨fr, x, now, m.nums.drop 1⟩) ⟨HPRE.out.2.1, by rw [HX.out]; exact HV.out.2.2.1, HPRE.out.2.2⟩ (v := ⟨x, now, a2, nv, c2⟩) ⟨rfl, rfl, HNV.out, by exact HOW.out, HV.out.2.2.2.2.fit, fun g hg => .inr hg⟩
          have HL5 := Lib.hid hL5
          have HT5 := Lib.hid hT5
          have Hs5 := Lib.hid (show w5.heap.size = WW.heap.size from hs5)
          have HFb := Lib.hid hFb
          have HBq : Hid (b < w.heap.size) := Lib.hid ((HL.out.blocks b hFb).2)
          have HES0 : Hid (WW.drew.cell? ⟨p, 0, none⟩ = some (.map (some b)) ∧ WW.drew.cell? ⟨q, 0, none⟩ = some (.int .i64 x) ∧ WW.drew.cell? ⟨q, 1, none⟩ = some (.int .i64 now) ∧ WW.drew.cell? ⟨q, 2, none⟩ = some (.slice a2 nv c2)) := Lib.hid ⟨cpb, r0, r1, r2⟩
          have HES4 : Hid (w5.cell? ⟨p, 0, none⟩ = some (.map (some b)) ∧ w5.cell? ⟨q, 0, none⟩ = some (.int .i64 x) ∧ w5.cell? ⟨q, 1, none⟩ = some (.int .i64 now) ∧ w5.cell? ⟨q, 2, none⟩ = some (.slice a2 nv c2)) := Lib.hid ⟨ht5.cell cpb (fun e => hbp e.symm), ht5.cell HES0.out.2.1 (fun e => by have h1 := HQlt.out; have h2 := HBq.out; simp at e; omega), ht5.cell HES0.out.2.2.1 (fun e => by have h1 := HQlt.out; have h2 := HBq.out; simp at e; omega), ht5.cell HES0.out.2.2.2 (fun e => by have h1 := HQlt.out; have h2 := HBq.out; simp at e; omega)⟩
          have HZ5 := Lib.hid ((ht5.block q8 (lt_of_block (show WW.drew.heap[q8]? = _ from HZ4.out)) (fun e => by have := HBq.out; have := HQ8.out; omega)).trans (show WW.drew.heap[q8]? = _ from HZ4.out))
          have HB5 : Hid (w.heap.size ≤ w5.heap.size) := Lib.hid (by rw [Hs5.out]; exact HBW4.out.size)
          rw [show (⟨x, now, a2, nv, c2⟩ : SV).v = .agg #[.int .i64 x, .int .i64 now, .slice a2 nv c2] from rfl] at hr5
          clear hL5 hT5 ht5 hbp hs5 hFb cpb
          go_upto_region 8 with fail
          refine wp_region_held_drew (S := (fun wx => wx.cell? ⟨p, 0, none⟩ = some (.map (some b)) ∧ wx.cell? ⟨q, 0, none⟩ = some (.int .i64 x) ∧ wx.cell? ⟨q, 1, none⟩ = some (.int .i64 now) ∧ wx.cell? ⟨q, 2, none⟩ = some (.slice a2 nv c2))) (by kernel_rfl) HES0.out (fun hHeld => ?_)
          refine wpAnyH_take (i := 0) (v := ?_) rfl (by kernel_rfl) (by kernel_rfl) (by kernel_rfl) (fun _ _ _ h => h) (Or.inl ⟨by rfl, ?_⟩) (by assumption) ?_
          rotate_left
          · intro wz hSw; obtain ⟨s1, s2, s3, s4⟩ := hSw; (try dsimp only at s1 s2 s3 s4); (try simp only [List.getElem_toArray, List.getElem_cons_zero, List.getElem_cons_succ]); go_simp; first | done | with_reducible rfl
          try simp only [Act.put, List.setIfInBounds_toArray, List.set_cons_zero, List.set_cons_succ, List.getElem_toArray, List.getElem_cons_zero, List.getElem_cons_succ]
          refine wpAnyH_take (i := 1) (v := ?_) rfl (by kernel_rfl) (by kernel_rfl) (by kernel_rfl) (fun _ _ _ h => h) (Or.inl ⟨by rfl, ?_⟩) (by assumption) ?_
          rotate_left
          · intro wz hSw; obtain ⟨s1, s2, s3, s4⟩ := hSw; (try dsimp only at s1 s2 s3 s4); (try simp only [List.getElem_toArray, List.getElem_cons_zero, List.getElem_cons_succ]); go_simp; first | done | with_reducible rfl
          try simp only [Act.put, List.setIfInBounds_toArray, List.set_cons_zero, List.set_cons_succ, List.getElem_toArray, List.getElem_cons_zero, List.getElem_cons_succ]
          refine wpAnyH_take (i := 2) (v := ?_) rfl (by kernel_rfl) (by kernel_rfl) (by kernel_rfl) (fun _ _ _ h => h) (Or.inl ⟨by rfl, ?_⟩) (by assumption) ?_
          rotate_left
          · intro wz hSw; obtain ⟨s1, s2, s3, s4⟩ := hSw; (try dsimp only at s1 s2 s3 s4); (try simp only [List.getElem_toArray, List.getElem_cons_zero, List.getElem_cons_succ]); go_simp; first | done | with_reducible rfl
          try simp only [Act.put, List.setIfInBounds_toArray, List.set_cons_zero, List.set_cons_succ, List.getElem_toArray, List.getElem_cons_zero, List.getElem_cons_succ]
          refine wpAnyH_take (i := 3) (v := ?_) rfl (by kernel_rfl) (by kernel_rfl) (by kernel_rfl) (fun _ _ _ h => h) (Or.inl ⟨by rfl, ?_⟩) (by assumption) ?_
          rotate_left
          · intro wz hSw; obtain ⟨s1, s2, s3, s4⟩ := hSw; (try dsimp only at s1 s2 s3 s4); (try simp only [List.getElem_toArray, List.getElem_cons_zero, List.getElem_cons_succ]); go_simp; first | done | with_reducible rfl
          try simp only [Act.put, List.setIfInBounds_toArray, List.set_cons_zero, List.set_cons_succ, List.getElem_toArray, List.getElem_cons_zero, List.getElem_cons_succ]
          refine wpAnyH_take (i := 4) (v := ?_) rfl (by kernel_rfl) (by kernel_rfl) (by kernel_rfl) (fun _ _ _ h => h) (Or.inl ⟨by rfl, ?_⟩) (by assumption) ?_
          rotate_left
          · intro wz hSw; obtain ⟨s1, s2, s3, s4⟩ := hSw; (try dsimp only at s1 s2 s3 s4); (try simp only [List.getElem_toArray, List.getElem_cons_zero, List.getElem_cons_succ]); go_simp; first | done | with_reducible rfl
          try simp only [Act.put, List.setIfInBounds_toArray, List.set_cons_zero, List.set_cons_succ, List.getElem_toArray, List.getElem_cons_zero, List.getElem_cons_succ]
          refine wpAnyH_take (i := 5) (v := ?_) rfl (by kernel_rfl) (by kernel_rfl) (by kernel_rfl) (fun _ _ _ h => h) (Or.inl ⟨by rfl, ?_⟩) (by assumption) ?_
          rotate_left
          · intro wz hSw; obtain ⟨s1, s2, s3, s4⟩ := hSw; (try dsimp only at s1 s2 s3 s4); (try simp only [List.getElem_toArray, List.getElem_cons_zero, List.getElem_cons_succ]); go_simp; first | done | with_reducible rfl
          try simp only [Act.put, List.setIfInBounds_toArray, List.set_cons_zero, List.set_cons_succ, List.getElem_toArray, List.getElem_cons_zero, List.getElem_cons_succ]
          refine wpAnyH_ready (rs := [6]) (by kernel_rfl) (by simp) ?_
          refine (AllReadyH.cons rfl (fun K hK => ?_) AllReadyH.nil)
          try simp only [List.getElem_toArray, List.getElem_cons_zero, List.getElem_cons_succ]
          go_simp
          go_wp2_with fail
          refine hK.out _ _ ?_ (fun hHeld2 => ?_)
          · exact HES4.out
          clear hK K
          try simp only [Act.put, List.setIfInBounds_toArray, List.set_cons_zero, List.set_cons_succ, List.getElem_toArray, List.getElem_cons_zero, List.getElem_cons_succ]
          refine wpAnyH_done (by kernel_rfl) ?_ _
          clear hHeld hHeld2 r0 r1 r2 o0 o1 o2 k4
          obtain ⟨wA, hwA⟩ : ∃ v, v = w5.alloc (.cells #[.int .i64 x] 3) := ⟨_, rfl⟩
          have hoA : wA.ownsRow w5.heap.size 3 1 (.slice (some ⟨w5.heap.size, 0, none⟩) 1 1) 1 (i64s [x]) := by rw [hwA]; exact own_litI w5 [x] #[.int .i64 x] rfl 1 w5.heap.size rfl (Nat.le_refl _) (by unfold maxLen; omega)
          have CMK := Lib.hid (make_t 11 (some ⟨w5.heap.size, 0, none⟩) 1 1 [x] wA (own_inI hoA rfl HFX.out) (by omega))
          have HBA := Lib.hid (show Below w5.heap.size w5 wA by rw [hwA]; exact bl_al (Below.refl _ _) _)
          have HWA := Lib.hid hwA
          clear hoA hwA
          go_wp2_with fail
          rw [← HWA.out]
          refine CMK.out.mono ?_
          rintro e w7 ⟨a7, n7, c7, rfl, hn7, ho7, hb7⟩
          have HB7 := Lib.hid (bl_tr HBA.out hb7)
          have HN7 := Lib.hid hn7
          have HO7 := Lib.hid ho7
          have HZ7 := Lib.hid ((HB7.out.block q8 (lt_of_block HZ5.out)).trans HZ5.out)
          obtain ⟨y0, y1, y2⟩ := MAt.of HZ7.out
          have yf := fun o => frozen_of_row w7 q8 o _ _ HZ7.out
          clear hn7 ho7 hb7 CMK
          go_wp2
          refine bodyPost_ret (v := .tuple #[mval 11 a7 n7 c7 none 0 0, .bool true]) (by simp [results, Try.results30, go_sem, y0, y1, y2]) rfl ?_
          unfold RecL
          rw [HREC.out]
          refine ⟨LiS.fin (T := fun k => w5.heap.size ≤ k ∨ k = q8) HL5.out hB (fun k hk => by
            rcases hk with hk | hk
            · exact .inl hk
            · have := (HO2'.out k hk).1; have := HBW.out.size; exact .inr (by omega)) HT5.out ((((tch_below HB7.out).mono (fun k hk => .inl hk))).trans ((tch3 w7 q8 _ _ _).mono (fun k hk => .inr hk))) (fun k hk => by
            have h5 := HB5.out
            have h8 := HQ8.out
            have hs := HSW.out
            refine ⟨by omega, fun hg => ?_⟩
            rcases hg with hg | hg
            · have := (HL.out.blocks k hg).2; omega
            · have h9 := HO2'.out k hg
              have h3 := HB23.out.size
              have h4 := HB34.out.size
              have h6 := Hs5.out
              omega) (fun k hk => (HL.out.blocks k hk).2) (fun k hk => (HL.out.blocks k hk).1), a7, n7, c7, rfl, HN7.out, ?_⟩
          refine own_base (B := wA.heap.size) ?_ (Nat.le_trans HB5.out HBA.out.size)
          have hlt8 : q8 < wA.heap.size := Nat.lt_of_lt_of_le (lt_of_block HZ5.out) HBA.out.size
          iterate 3 (refine ownsRow_setCell_below ?_ hlt8 _)
          exact HO7.out
        · have zk : (kind == 10) = false := by simp [h10]
          have H10 := Lib.hid h10
          clear h10
          by_cases h12 : kind = 12
          · have z12 : (kind == 12) = true := by simp [h12]
            have z13 : (kind == 13) = false := by simp [h12]
            have H12 := Lib.hid h12
            clear h12
            cases fo with
            | false =>
              have HNF := Lib.hid (show findS fr l = none by
                rcases HY.out with h | ⟨e0, h, _⟩
                · exact h
                · rw [h] at HFO; exact absurd HFO.out (by simp))
              have HREC := Lib.hid (show recF l fr m now = (l, some ⟨14, [x], []⟩) by rw [HRF.out, ← HX.out, if_neg (by rw [← HK.out]; exact H10.out), if_pos (.inl (by rw [← HK.out]; exact H12.out)), HNF.out])
              have HLW := Lib.hid (HL.out.below HBW4.out)
              go_upto_region 13 with fail
              clear r0 r1 r2 o0 o1 o2 k4
              obtain ⟨wA, hwA⟩ : ∃ v, v = WW.alloc (.cells #[.int .i64 x] 3) := ⟨_, rfl⟩
              have hoA : wA.ownsRow WW.heap.size 3 1 (.slice (some ⟨WW.heap.size, 0, none⟩) 1 1) 1 (i64s [x]) := by rw [hwA]; exact own_litI WW [x] #[.int .i64 x] rfl 1 WW.heap.size rfl (Nat.le_refl _) (by unfold maxLen; omega)
              have CMK := Lib.hid (make_t 14 (some ⟨WW.heap.size, 0, none⟩) 1 1 [x] wA (own_inI hoA rfl HFX.out) (by omega))
              have HBA := Lib.hid (show Below WW.heap.size WW wA by rw [hwA]; exact bl_al (Below.refl _ _) _)
              have HWA := Lib.hid hwA
              clear hoA hwA
              go_wp2_with fail
              rw [← HWA.out]
              refine CMK.out.mono ?_
              rintro e w7 ⟨a7, n7, c7, rfl, hn7, ho7, hb7⟩
              have HB7 := Lib.hid (bl_tr HBA.out hb7)
              have HN7 := Lib.hid hn7
              have HO7 := Lib.hid ho7
              have HZ7 := Lib.hid ((HB7.out.block q8 (lt_of_block HZ4.out)).trans HZ4.out)
              obtain ⟨y0, y1, y2⟩ := MAt.of HZ7.out
              have yf := fun o => frozen_of_row w7 q8 o _ _ HZ7.out
              clear hn7 ho7 hb7 CMK
              go_wp2
              refine bodyPost_ret (v := .tuple #[mval 14 a7 n7 c7 none 0 0, .bool true]) (by simp [results, Try.results30, go_sem, y0, y1, y2]) rfl ?_
              unfold RecL
              rw [HREC.out]
              refine ⟨LiS.fin (T := fun k => WW.heap.size ≤ k ∨ k = q8) HLW.out hB (fun k hk => .inl hk) ((tch_new HBW4.out).mono (fun _ h => h.elim)) ((((tch_below HB7.out).mono (fun k hk => .inl hk))).trans ((tch3 w7 q8 _ _ _).mono (fun k hk => .inr hk))) (fun k hk => by
                have h5 := HBW4.out.size
                have h8 := HQ8.out
                refine ⟨by rcases hk with hk | hk <;> omega, fun hg => ?_⟩
                have h6 := (HL.out.blocks k hg).2
                rcases hk with hk | hk <;> omega) (fun k hk => (HL.out.blocks k hk).2) (fun k hk => (HL.out.blocks k hk).1), a7, n7, c7, rfl, HN7.out, ?_⟩
              refine own_base (B := wA.heap.size) ?_ (Nat.le_trans HBW4.out.size HBA.out.size)
              have hlt8 : q8 < wA.heap.size := Nat.lt_of_lt_of_le (lt_of_block HZ4.out) HBA.out.size
              iterate 3 (refine ownsRow_setCell_below ?_ hlt8 _)
              exact HO7.out
            | true =>
              rcases HY.out with hnn | ⟨e0, hf, hrow⟩
              · rw [hnn] at HFO; exact absurd HFO.out (by simp)
              have HF := Lib.hid hf
              have HROW := Lib.hid hrow
              clear hf hrow
              by_cases hbt : y.boot = x
              · have zb : (y.boot != x) = false := by simp [hbt]
                have HBT := Lib.hid (show e0.boot = x from HROW.out.1.symm.trans hbt)
                clear hbt
                have HREC := Lib.hid (show recF l fr m now = (putS ⟨fr, x, now, m.nums.drop 1⟩ l, none) by rw [HRF.out, ← HX.out, if_neg (by rw [← HK.out]; exact H10.out), if_pos (.inl (by rw [← HK.out]; exact H12.out)), HF.out]; show (if e0.boot = x then _ else _) = _; rw [if_pos HBT.out, if_neg (by rw [← HK.out, H12.out]; omega)])
                obtain ⟨b, w5, cpb, hr5, hL5, hT5, ht5, hFb, hbp, hs5⟩ := LiS.put (w := w) (w3 := WW.drew) (F := F) (G := (fun k => F k ∨ (Value.slice a2 nv c2).ownBlock = some k)) HL.out (HBW4.out.drew) (fun k hk => .inl hk) (fun k hk => by
                  rcases hk with hk | hk
                  · have h1 := HL.out.blocks k hk; have h2 := HBW4.out.size; exact ⟨h1.1, Nat.lt_of_lt_of_le h1.2 h2⟩
                  · exact HOW.out.lt k hk) (x := ⟨fr, x, now, m.nums.drop 1⟩) ⟨HPRE.out.2.1, by rw [HX.out]; exact HV.out.2.2.1, HPRE.out.2.2⟩ (v := ⟨x, now, a2, nv, c2⟩) ⟨rfl, rfl, HNV.out, by exact HOW.out, HV.out.2.2.2.2.fit, fun g hg => .inr hg⟩
                have HL5 := Lib.hid hL5
                have HT5 := Lib.hid hT5
                have Hs5 := Lib.hid (show w5.heap.size = WW.heap.size from hs5)
                have HFb := Lib.hid hFb
                have HBq : Hid (b < w.heap.size) := Lib.hid ((HL.out.blocks b hFb).2)
                have HES0 : Hid (WW.drew.cell? ⟨p, 0, none⟩ = some (.map (some b)) ∧ WW.drew.cell? ⟨q, 0, none⟩ = some (.int .i64 x) ∧ WW.drew.cell? ⟨q, 1, none⟩ = some (.int .i64 now) ∧ WW.drew.cell? ⟨q, 2, none⟩ = some (.slice a2 nv c2)) := Lib.hid ⟨cpb, r0, r1, r2⟩
                have HES4 : Hid (w5.cell? ⟨p, 0, none⟩ = some (.map (some b)) ∧ w5.cell? ⟨q, 0, none⟩ = some (.int .i64 x) ∧ w5.cell? ⟨q, 1, none⟩ = some (.int .i64 now) ∧ w5.cell? ⟨q, 2, none⟩ = some (.slice a2 nv c2)) := Lib.hid ⟨ht5.cell cpb (fun e => hbp e.symm), ht5.cell HES0.out.2.1 (fun e => by have h1 := HQlt.out; have h2 := HBq.out; simp at e; omega), ht5.cell HES0.out.2.2.1 (fun e => by have h1 := HQlt.out; have h2 := HBq.out; simp at e; omega), ht5.cell HES0.out.2.2.2 (fun e => by have h1 := HQlt.out; have h2 := HBq.out; simp at e; omega)⟩
                have HZ5 := Lib.hid ((ht5.block q8 (lt_of_block (show WW.drew.heap[q8]? = _ from HZ4.out)) (fun e => by have := HBq.out; have := HQ8.out; omega)).trans (show WW.drew.heap[q8]? = _ from HZ4.out))
                have HB5 : Hid (w.heap.size ≤ w5.heap.size) := Lib.hid (by rw [Hs5.out]; exact HBW4.out.size)
                rw [show (⟨x, now, a2, nv, c2⟩ : SV).v = .agg #[.int .i64 x, .int .i64 now, .slice a2 nv c2] from rfl] at hr5
                clear hL5 hT5 ht5 hbp hs5 hFb cpb
                go_upto_region 16 with fail
                refine wp_region_held_drew (S := (fun wx => wx.cell? ⟨p, 0, none⟩ = some (.map (some b)) ∧ wx.cell? ⟨q, 0, none⟩ = some (.int .i64 x) ∧ wx.cell? ⟨q, 1, none⟩ = some (.int .i64 now) ∧ wx.cell? ⟨q, 2, none⟩ = some (.slice a2 nv c2))) (by kernel_rfl) HES0.out (fun hHeld => ?_)
                refine wpAnyH_take (i := 0) (v := ?_) rfl (by kernel_rfl) (by kernel_rfl) (by kernel_rfl) (fun _ _ _ h => h) (Or.inl ⟨by rfl, ?_⟩) (by assumption) ?_
                rotate_left
                · intro wz hSw; obtain ⟨s1, s2, s3, s4⟩ := hSw; (try dsimp only at s1 s2 s3 s4); (try simp only [List.getElem_toArray, List.getElem_cons_zero, List.getElem_cons_succ]); go_simp; first | done | with_reducible rfl
                try simp only [Act.put, List.setIfInBounds_toArray, List.set_cons_zero, List.set_cons_succ, List.getElem_toArray, List.getElem_cons_zero, List.getElem_cons_succ]
                refine wpAnyH_take (i := 1) (v := ?_) rfl (by kernel_rfl) (by kernel_rfl) (by kernel_rfl) (fun _ _ _ h => h) (Or.inl ⟨by rfl, ?_⟩) (by assumption) ?_
                rotate_left
                · intro wz hSw; obtain ⟨s1, s2, s3, s4⟩ := hSw; (try dsimp only at s1 s2 s3 s4); (try simp only [List.getElem_toArray, List.getElem_cons_zero, List.getElem_cons_succ]); go_simp; first | done | with_reducible rfl
                try simp only [Act.put, List.setIfInBounds_toArray, List.set_cons_zero, List.set_cons_succ, List.getElem_toArray, List.getElem_cons_zero, List.getElem_cons_succ]
                refine wpAnyH_take (i := 2) (v := ?_) rfl (by kernel_rfl) (by kernel_rfl) (by kernel_rfl) (fun _ _ _ h => h) (Or.inl ⟨by rfl, ?_⟩) (by assumption) ?_
                rotate_left
                · intro wz hSw; obtain ⟨s1, s2, s3, s4⟩ := hSw; (try dsimp only at s1 s2 s3 s4); (try simp only [List.getElem_toArray, List.getElem_cons_zero, List.getElem_cons_succ]); go_simp; first | done | with_reducible rfl
                try simp only [Act.put, List.setIfInBounds_toArray, List.set_cons_zero, List.set_cons_succ, List.getElem_toArray, List.getElem_cons_zero, List.getElem_cons_succ]
                refine wpAnyH_take (i := 3) (v := ?_) rfl (by kernel_rfl) (by kernel_rfl) (by kernel_rfl) (fun _ _ _ h => h) (Or.inl ⟨by rfl, ?_⟩) (by assumption) ?_
                rotate_left
                · intro wz hSw; obtain ⟨s1, s2, s3, s4⟩ := hSw; (try dsimp only at s1 s2 s3 s4); (try simp only [List.getElem_toArray, List.getElem_cons_zero, List.getElem_cons_succ]); go_simp; first | done | with_reducible rfl
                try simp only [Act.put, List.setIfInBounds_toArray, List.set_cons_zero, List.set_cons_succ, List.getElem_toArray, List.getElem_cons_zero, List.getElem_cons_succ]
                refine wpAnyH_take (i := 4) (v := ?_) rfl (by kernel_rfl) (by kernel_rfl) (by kernel_rfl) (fun _ _ _ h => h) (Or.inl ⟨by rfl, ?_⟩) (by assumption) ?_
                rotate_left
                · intro wz hSw; obtain ⟨s1, s2, s3, s4⟩ := hSw; (try dsimp only at s1 s2 s3 s4); (try simp only [List.getElem_toArray, List.getElem_cons_zero, List.getElem_cons_succ]); go_simp; first | done | with_reducible rfl
                try simp only [Act.put, List.setIfInBounds_toArray, List.set_cons_zero, List.set_cons_succ, List.getElem_toArray, List.getElem_cons_zero, List.getElem_cons_succ]
                refine wpAnyH_take (i := 5) (v := ?_) rfl (by kernel_rfl) (by kernel_rfl) (by kernel_rfl) (fun _ _ _ h => h) (Or.inl ⟨by rfl, ?_⟩) (by assumption) ?_
                rotate_left
                · intro wz hSw; obtain ⟨s1, s2, s3, s4⟩ := hSw; (try dsimp only at s1 s2 s3 s4); (try simp only [List.getElem_toArray, List.getElem_cons_zero, List.getElem_cons_succ]); go_simp; first | done | with_reducible rfl
                try simp only [Act.put, List.setIfInBounds_toArray, List.set_cons_zero, List.set_cons_succ, List.getElem_toArray, List.getElem_cons_zero, List.getElem_cons_succ]
                refine wpAnyH_ready (rs := [6]) (by kernel_rfl) (by simp) ?_
                refine (AllReadyH.cons rfl (fun K hK => ?_) AllReadyH.nil)
                try simp only [List.getElem_toArray, List.getElem_cons_zero, List.getElem_cons_succ]
                go_simp
                go_wp2_with fail
                refine hK.out _ _ ?_ (fun hHeld2 => ?_)
                · exact HES4.out
                clear hK K
                try simp only [Act.put, List.setIfInBounds_toArray, List.set_cons_zero, List.set_cons_succ, List.getElem_toArray, List.getElem_cons_zero, List.getElem_cons_succ]
                refine wpAnyH_done (by kernel_rfl) ?_ _
                clear hHeld hHeld2 r0 r1 r2 o0 o1 o2 k4
                obtain ⟨y0, y1, y2⟩ := MAt.of HZ5.out
                have yf := fun o => frozen_of_row w5 q8 o _ _ HZ5.out
                go_wp2
                refine bodyPost_ret (v := .tuple #[mval 0 none 0 0 none 0 0, .bool false]) (by simp [results, Try.results30, go_sem, y0, y1, y2]) rfl ?_
                unfold RecL
                rw [HREC.out]
                exact ⟨LiS.fin (T := fun k => k = q8) HL5.out hB (fun k hk => by
                  rcases hk with hk | hk
                  · exact .inl hk
                  · have := (HO2'.out k hk).1; have := HBW.out.size; exact .inr (by omega)) HT5.out (tch3 w5 q8 _ _ _) (fun k hk => by
                  have h5 := HB5.out
                  have h8 := HQ8.out
                  have hs := HSW.out
                  refine ⟨by omega, fun hg => ?_⟩
                  rw [hk] at hg
                  rcases hg with hg | hg
                  · have := (HL.out.blocks q8 hg).2; omega
                  · have h9 := HO2'.out q8 hg
                    have := HSZ2.out
                    omega) (fun k hk => (HL.out.blocks k hk).2) (fun k hk => (HL.out.blocks k hk).1), rfl⟩
              · have zb : (y.boot != x) = true := by simp [hbt]
                have HBT := Lib.hid (show ¬ e0.boot = x from fun e => hbt (HROW.out.1.trans e))
                clear hbt
                have HREC := Lib.hid (show recF l fr m now = (l, some ⟨14, [x], []⟩) by rw [HRF.out, ← HX.out, if_neg (by rw [← HK.out]; exact H10.out), if_pos (.inl (by rw [← HK.out]; exact H12.out)), HF.out]; show (if e0.boot = x then _ else _) = _; rw [if_neg HBT.out])
                have HLW := Lib.hid (HL.out.below HBW4.out)
                go_upto_region 13 with fail
                clear r0 r1 r2 o0 o1 o2 k4
                obtain ⟨wA, hwA⟩ : ∃ v, v = WW.alloc (.cells #[.int .i64 x] 3) := ⟨_, rfl⟩
                have hoA : wA.ownsRow WW.heap.size 3 1 (.slice (some ⟨WW.heap.size, 0, none⟩) 1 1) 1 (i64s [x]) := by rw [hwA]; exact own_litI WW [x] #[.int .i64 x] rfl 1 WW.heap.size rfl (Nat.le_refl _) (by unfold maxLen; omega)
                have CMK := Lib.hid (make_t 14 (some ⟨WW.heap.size, 0, none⟩) 1 1 [x] wA (own_inI hoA rfl HFX.out) (by omega))
                have HBA := Lib.hid (show Below WW.heap.size WW wA by rw [hwA]; exact bl_al (Below.refl _ _) _)
                have HWA := Lib.hid hwA
                clear hoA hwA
                go_wp2_with fail
                rw [← HWA.out]
                refine CMK.out.mono ?_
                rintro e w7 ⟨a7, n7, c7, rfl, hn7, ho7, hb7⟩
                have HB7 := Lib.hid (bl_tr HBA.out hb7)
                have HN7 := Lib.hid hn7
                have HO7 := Lib.hid ho7
                have HZ7 := Lib.hid ((HB7.out.block q8 (lt_of_block HZ4.out)).trans HZ4.out)
                obtain ⟨y0, y1, y2⟩ := MAt.of HZ7.out
                have yf := fun o => frozen_of_row w7 q8 o _ _ HZ7.out
                clear hn7 ho7 hb7 CMK
                go_wp2
                refine bodyPost_ret (v := .tuple #[mval 14 a7 n7 c7 none 0 0, .bool true]) (by simp [results, Try.results30, go_sem, y0, y1, y2]) rfl ?_
                unfold RecL
                rw [HREC.out]
                refine ⟨LiS.fin (T := fun k => WW.heap.size ≤ k ∨ k = q8) HLW.out hB (fun k hk => .inl hk) ((tch_new HBW4.out).mono (fun _ h => h.elim)) ((((tch_below HB7.out).mono (fun k hk => .inl hk))).trans ((tch3 w7 q8 _ _ _).mono (fun k hk => .inr hk))) (fun k hk => by
                  have h5 := HBW4.out.size
                  have h8 := HQ8.out
                  refine ⟨by rcases hk with hk | hk <;> omega, fun hg => ?_⟩
                  have h6 := (HL.out.blocks k hg).2
                  rcases hk with hk | hk <;> omega) (fun k hk => (HL.out.blocks k hk).2) (fun k hk => (HL.out.blocks k hk).1), a7, n7, c7, rfl, HN7.out, ?_⟩
                refine own_base (B := wA.heap.size) ?_ (Nat.le_trans HBW4.out.size HBA.out.size)
                have hlt8 : q8 < wA.heap.size := Nat.lt_of_lt_of_le (lt_of_block HZ4.out) HBA.out.size
                iterate 3 (refine ownsRow_setCell_below ?_ hlt8 _)
                exact HO7.out
          · have z12 : (kind == 12) = false := by simp [h12]
            have H12 := Lib.hid h12
            clear h12
            by_cases h13 : kind = 13
            · have z13 : (kind == 13) = true := by simp [h13]
              have H13 := Lib.hid h13
              clear h13
              cases fo with
              | false =>
                have HNF := Lib.hid (show findS fr l = none by
                  rcases HY.out with h | ⟨e0, h, _⟩
                  · exact h
                  · rw [h] at HFO; exact absurd HFO.out (by simp))
                have HREC := Lib.hid (show recF l fr m now = (l, some ⟨14, [x], []⟩) by rw [HRF.out, ← HX.out, if_neg (by rw [← HK.out]; exact H10.out), if_pos (.inr (by rw [← HK.out]; exact H13.out)), HNF.out])
                have HLW := Lib.hid (HL.out.below HBW4.out)
                go_upto_region 13 with fail
                clear r0 r1 r2 o0 o1 o2 k4
                obtain ⟨wA, hwA⟩ : ∃ v, v = WW.alloc (.cells #[.int .i64 x] 3) := ⟨_, rfl⟩
                have hoA : wA.ownsRow WW.heap.size 3 1 (.slice (some ⟨WW.heap.size, 0, none⟩) 1 1) 1 (i64s [x]) := by rw [hwA]; exact own_litI WW [x] #[.int .i64 x] rfl 1 WW.heap.size rfl (Nat.le_refl _) (by unfold maxLen; omega)
                have CMK := Lib.hid (make_t 14 (some ⟨WW.heap.size, 0, none⟩) 1 1 [x] wA (own_inI hoA rfl HFX.out) (by omega))
                have HBA := Lib.hid (show Below WW.heap.size WW wA by rw [hwA]; exact bl_al (Below.refl _ _) _)
                have HWA := Lib.hid hwA
                clear hoA hwA
                go_wp2_with fail
                rw [← HWA.out]
                refine CMK.out.mono ?_
                rintro e w7 ⟨a7, n7, c7, rfl, hn7, ho7, hb7⟩
                have HB7 := Lib.hid (bl_tr HBA.out hb7)
                have HN7 := Lib.hid hn7
                have HO7 := Lib.hid ho7
                have HZ7 := Lib.hid ((HB7.out.block q8 (lt_of_block HZ4.out)).trans HZ4.out)
                obtain ⟨y0, y1, y2⟩ := MAt.of HZ7.out
                have yf := fun o => frozen_of_row w7 q8 o _ _ HZ7.out
                clear hn7 ho7 hb7 CMK
                go_wp2
                refine bodyPost_ret (v := .tuple #[mval 14 a7 n7 c7 none 0 0, .bool true]) (by simp [results, Try.results30, go_sem, y0, y1, y2]) rfl ?_
                unfold RecL
                rw [HREC.out]
                refine ⟨LiS.fin (T := fun k => WW.heap.size ≤ k ∨ k = q8) HLW.out hB (fun k hk => .inl hk) ((tch_new HBW4.out).mono (fun _ h => h.elim)) ((((tch_below HB7.out).mono (fun k hk => .inl hk))).trans ((tch3 w7 q8 _ _ _).mono (fun k hk => .inr hk))) (fun k hk => by
                  have h5 := HBW4.out.size
                  have h8 := HQ8.out
                  refine ⟨by rcases hk with hk | hk <;> omega, fun hg => ?_⟩
                  have h6 := (HL.out.blocks k hg).2
                  rcases hk with hk | hk <;> omega) (fun k hk => (HL.out.blocks k hk).2) (fun k hk => (HL.out.blocks k hk).1), a7, n7, c7, rfl, HN7.out, ?_⟩
                refine own_base (B := wA.heap.size) ?_ (Nat.le_trans HBW4.out.size HBA.out.size)
                have hlt8 : q8 < wA.heap.size := Nat.lt_of_lt_of_le (lt_of_block HZ4.out) HBA.out.size
                iterate 3 (refine ownsRow_setCell_below ?_ hlt8 _)
                exact HO7.out
              | true =>
                rcases HY.out with hnn | ⟨e0, hf, hrow⟩
                · rw [hnn] at HFO; exact absurd HFO.out (by simp)
                have HF := Lib.hid hf
                have HROW := Lib.hid hrow
                clear hf hrow
                by_cases hbt : y.boot = x
                · have zb : (y.boot != x) = false := by simp [hbt]
                  have HBT := Lib.hid (show e0.boot = x from HROW.out.1.symm.trans hbt)
                  clear hbt
                  have HREC := Lib.hid (show recF l fr m now = (putS ⟨fr, x, now, e0.vips⟩ l, none) by rw [HRF.out, ← HX.out, if_neg (by rw [← HK.out]; exact H10.out), if_pos (.inr (by rw [← HK.out]; exact H13.out)), HF.out]; show (if e0.boot = x then _ else _) = _; rw [if_pos HBT.out, if_pos (by rw [← HK.out]; exact H13.out)])
                  obtain ⟨WX, hwx⟩ : ∃ v, v = WW.setCell ⟨q, 2, none⟩ (.slice y.a y.n y.c) := ⟨_, rfl⟩
                  have HWX := Lib.hid hwx
                  have hq3 : WW.heap[q]? = some (.cells #[.int .i64 x, .int .i64 now, .slice a2 nv c2] tyE (0, 0)) := (HB34.out.block q (lt_of_block HQR.out)).trans HQR.out
                  have rf := fun o => frozen_of_row WW q o _ _ hq3
                  have hTX : Tch (· = q) WW WX := by rw [hwx]; exact tch_set WW ⟨q, 2, none⟩ _
                  have HSX := Lib.hid (show WX.heap.size = WW.heap.size by rw [hwx]; simp)
                  have HBWX := Lib.hid (show Below w.heap.size w WX from ((tch_below HBW4.out).trans (hTX.mono (fun k hk => by rw [hk]; have := HQlt.out; omega))).below (fun _ h => h) (Nat.le_refl _))
                  have hq8q : q8 ≠ q := fun e => by have := HQlt.out; have := HQ8.out; omega
                  have HZX := Lib.hid (hTX.at HZ4.out hq8q)
                  have rx0 : WX.cell? ⟨q, 0, none⟩ = some (.int .i64 x) := by rw [hwx]; go_simp <;> exact r0
                  have rx1 : WX.cell? ⟨q, 1, none⟩ = some (.int .i64 now) := by rw [hwx]; go_simp <;> exact r1
                  have rx2 : WX.cell? ⟨q, 2, none⟩ = some (.slice y.a y.n y.c) := by rw [hwx]; exact World.cell?_setCell_same' _ _ _ (by rw [r2]; rfl)
                  have HRX := Lib.hid (show RowS WX F B y e0 from HROW.out.tch (T := fun k => w.heap.size ≤ k) (((tch_below HB34.out).mono (fun k hk => Nat.le_trans HB3.out.size hk)).trans (hTX.mono (fun k hk => by rw [hk]; have := HQlt.out; omega))) (fun g hg hk => by have := (HL.out.blocks g (HROW.out.2.2.2.2.2 g hg)).2; omega))
                  clear hwx hTX hq8q hq3
                  obtain ⟨b, w5, cpb, hr5, hL5, hT5, ht5, hFb, hbp, hs5⟩ := LiS.put (w := w) (w3 := WX.drew) (F := F) (G := F) HL.out (HBWX.out.drew) (fun _ h => h) (fun k hk => by
                    have h1 := HL.out.blocks k hk; have h2 := HBWX.out.size; exact ⟨h1.1, Nat.lt_of_lt_of_le h1.2 h2⟩) (x := ⟨fr, x, now, e0.vips⟩) ⟨HPRE.out.2.1, by rw [HX.out]; exact HV.out.2.2.1, HPRE.out.2.2⟩ (v := ⟨x, now, y.a, y.n, y.c⟩) ⟨rfl, rfl, HRX.out.2.2.1, HRX.out.2.2.2.1, HRX.out.2.2.2.2.1, HRX.out.2.2.2.2.2⟩
                  have HL5 := Lib.hid hL5
                  have HT5 := Lib.hid hT5
                  have Hs5 := Lib.hid (show w5.heap.size = WX.heap.size from hs5)
                  have HFb := Lib.hid hFb
                  have HBq : Hid (b < w.heap.size) := Lib.hid ((HL.out.blocks b hFb).2)
                  have HES0 : Hid (WX.drew.cell? ⟨p, 0, none⟩ = some (.map (some b)) ∧ WX.drew.cell? ⟨q, 0, none⟩ = some (.int .i64 x) ∧ WX.drew.cell? ⟨q, 1, none⟩ = some (.int .i64 now) ∧ WX.drew.cell? ⟨q, 2, none⟩ = some (.slice y.a y.n y.c)) := Lib.hid ⟨cpb, rx0, rx1, rx2⟩
                  have HES4 : Hid (w5.cell? ⟨p, 0, none⟩ = some (.map (some b)) ∧ w5.cell? ⟨q, 0, none⟩ = some (.int .i64 x) ∧ w5.cell? ⟨q, 1, none⟩ = some (.int .i64 now) ∧ w5.cell? ⟨q, 2, none⟩ = some (.slice y.a y.n y.c)) := Lib.hid ⟨ht5.cell cpb (fun e => hbp e.symm), ht5.cell HES0.out.2.1 (fun e => by have h1 := HQlt.out; have h2 := HBq.out; simp at e; omega), ht5.cell HES0.out.2.2.1 (fun e => by have h1 := HQlt.out; have h2 := HBq.out; simp at e; omega), ht5.cell HES0.out.2.2.2 (fun e => by have h1 := HQlt.out; have h2 := HBq.out; simp at e; omega)⟩
                  have HZ5 := Lib.hid ((ht5.block q8 (lt_of_block (show WX.drew.heap[q8]? = _ from HZX.out)) (fun e => by have := HBq.out; have := HQ8.out; omega)).trans (show WX.drew.heap[q8]? = _ from HZX.out))
                  have HB5 : Hid (w.heap.size ≤ w5.heap.size) := Lib.hid (by rw [Hs5.out]; exact HBWX.out.size)
                  rw [show (⟨x, now, y.a, y.n, y.c⟩ : SV).v = .agg #[.int .i64 x, .int .i64 now, .slice y.a y.n y.c] from rfl] at hr5
                  clear hL5 hT5 ht5 hbp hs5 hFb cpb
                  clear rx0 rx1 rx2
                  go_upto_region 16 with fail
                  rw [← HWX.out]
                  refine wp_region_held_drew (S := (fun wx => wx.cell? ⟨p, 0, none⟩ = some (.map (some b)) ∧ wx.cell? ⟨q, 0, none⟩ = some (.int .i64 x) ∧ wx.cell? ⟨q, 1, none⟩ = some (.int .i64 now) ∧ wx.cell? ⟨q, 2, none⟩ = some (.slice y.a y.n y.c))) (by kernel_rfl) HES0.out (fun hHeld => ?_)
                  refine wpAnyH_take (i := 0) (v := ?_) rfl (by kernel_rfl) (by kernel_rfl) (by kernel_rfl) (fun _ _ _ h => h) (Or.inl ⟨by rfl, ?_⟩) (by assumption) ?_
                  rotate_left
                  · intro wz hSw; obtain ⟨s1, s2, s3, s4⟩ := hSw; (try dsimp only at s1 s2 s3 s4); (try simp only [List.getElem_toArray, List.getElem_cons_zero, List.getElem_cons_succ]); go_simp; first | done | with_reducible rfl
                  try simp only [Act.put, List.setIfInBounds_toArray, List.set_cons_zero, List.set_cons_succ, List.getElem_toArray, List.getElem_cons_zero, List.getElem_cons_succ]
                  refine wpAnyH_take (i := 1) (v := ?_) rfl (by kernel_rfl) (by kernel_rfl) (by kernel_rfl) (fun _ _ _ h => h) (Or.inl ⟨by rfl, ?_⟩) (by assumption) ?_
                  rotate_left
                  · intro wz hSw; obtain ⟨s1, s2, s3, s4⟩ := hSw; (try dsimp only at s1 s2 s3 s4); (try simp only [List.getElem_toArray, List.getElem_cons_zero, List.getElem_cons_succ]); go_simp; first | done | with_reducible rfl
                  try simp only [Act.put, List.setIfInBounds_toArray, List.set_cons_zero, List.set_cons_succ, List.getElem_toArray, List.getElem_cons_zero, List.getElem_cons_succ]
                  refine wpAnyH_take (i := 2) (v := ?_) rfl (by kernel_rfl) (by kernel_rfl) (by kernel_rfl) (fun _ _ _ h => h) (Or.inl ⟨by rfl, ?_⟩) (by assumption) ?_
                  rotate_left
                  · intro wz hSw; obtain ⟨s1, s2, s3, s4⟩ := hSw; (try dsimp only at s1 s2 s3 s4); (try simp only [List.getElem_toArray, List.getElem_cons_zero, List.getElem_cons_succ]); go_simp; first | done | with_reducible rfl
                  try simp only [Act.put, List.setIfInBounds_toArray, List.set_cons_zero, List.set_cons_succ, List.getElem_toArray, List.getElem_cons_zero, List.getElem_cons_succ]
                  refine wpAnyH_take (i := 3) (v := ?_) rfl (by kernel_rfl) (by kernel_rfl) (by kernel_rfl) (fun _ _ _ h => h) (Or.inl ⟨by rfl, ?_⟩) (by assumption) ?_
                  rotate_left
                  · intro wz hSw; obtain ⟨s1, s2, s3, s4⟩ := hSw; (try dsimp only at s1 s2 s3 s4); (try simp only [List.getElem_toArray, List.getElem_cons_zero, List.getElem_cons_succ]); go_simp; first | done | with_reducible rfl
                  try simp only [Act.put, List.setIfInBounds_toArray, List.set_cons_zero, List.set_cons_succ, List.getElem_toArray, List.getElem_cons_zero, List.getElem_cons_succ]
                  refine wpAnyH_take (i := 4) (v := ?_) rfl (by kernel_rfl) (by kernel_rfl) (by kernel_rfl) (fun _ _ _ h => h) (Or.inl ⟨by rfl, ?_⟩) (by assumption) ?_
                  rotate_left
                  · intro wz hSw; obtain ⟨s1, s2, s3, s4⟩ := hSw; (try dsimp only at s1 s2 s3 s4); (try simp only [List.getElem_toArray, List.getElem_cons_zero, List.getElem_cons_succ]); go_simp; first | done | with_reducible rfl
                  try simp only [Act.put, List.setIfInBounds_toArray, List.set_cons_zero, List.set_cons_succ, List.getElem_toArray, List.getElem_cons_zero, List.getElem_cons_succ]
                  refine wpAnyH_take (i := 5) (v := ?_) rfl (by kernel_rfl) (by kernel_rfl) (by kernel_rfl) (fun _ _ _ h => h) (Or.inl ⟨by rfl, ?_⟩) (by assumption) ?_
                  rotate_left
                  · intro wz hSw; obtain ⟨s1, s2, s3, s4⟩ := hSw; (try dsimp only at s1 s2 s3 s4); (try simp only [List.getElem_toArray, List.getElem_cons_zero, List.getElem_cons_succ]); go_simp; first | done | with_reducible rfl
                  try simp only [Act.put, List.setIfInBounds_toArray, List.set_cons_zero, List.set_cons_succ, List.getElem_toArray, List.getElem_cons_zero, List.getElem_cons_succ]
                  refine wpAnyH_ready (rs := [6]) (by kernel_rfl) (by simp) ?_
                  refine (AllReadyH.cons rfl (fun K hK => ?_) AllReadyH.nil)
                  try simp only [List.getElem_toArray, List.getElem_cons_zero, List.getElem_cons_succ]
                  go_simp
                  go_wp2_with fail
                  refine hK.out _ _ ?_ (fun hHeld2 => ?_)
                  · exact HES4.out
                  clear hK K
                  try simp only [Act.put, List.setIfInBounds_toArray, List.set_cons_zero, List.set_cons_succ, List.getElem_toArray, List.getElem_cons_zero, List.getElem_cons_succ]
                  refine wpAnyH_done (by kernel_rfl) ?_ _
                  clear hHeld hHeld2 r0 r1 r2 o0 o1 o2 k4 rf
                  obtain ⟨y0, y1, y2⟩ := MAt.of HZ5.out
                  have yf := fun o => frozen_of_row w5 q8 o _ _ HZ5.out
                  go_wp2
                  refine bodyPost_ret (v := .tuple #[mval 0 none 0 0 none 0 0, .bool false]) (by simp [results, Try.results30, go_sem, y0, y1, y2]) rfl ?_
                  unfold RecL
                  rw [HREC.out]
                  exact ⟨LiS.fin (T := fun k => k = q8) HL5.out hB (fun k hk => .inl hk) HT5.out (tch3 w5 q8 _ _ _) (fun k hk => by
                    have h5 := HB5.out
                    have h8 := HQ8.out
                    have hs := HSW.out
                    refine ⟨by omega, fun hg => ?_⟩
                    rw [hk] at hg
                    have := (HL.out.blocks q8 hg).2; omega) (fun k hk => (HL.out.blocks k hk).2) (fun k hk => (HL.out.blocks k hk).1), rfl⟩
                · have zb : (y.boot != x) = true := by simp [hbt]
                  have HBT := Lib.hid (show ¬ e0.boot = x from fun e => hbt (HROW.out.1.trans e))
                  clear hbt
                  have HREC := Lib.hid (show recF l fr m now = (l, some ⟨14, [x], []⟩) by rw [HRF.out, ← HX.out, if_neg (by rw [← HK.out]; exact H10.out), if_pos (.inr (by rw [← HK.out]; exact H13.out)), HF.out]; show (if e0.boot = x then _ else _) = _; rw [if_neg HBT.out])
                  have HLW := Lib.hid (HL.out.below HBW4.out)
                  go_upto_region 13 with fail
                  clear r0 r1 r2 o0 o1 o2 k4
                  obtain ⟨wA, hwA⟩ : ∃ v, v = WW.alloc (.cells #[.int .i64 x] 3) := ⟨_, rfl⟩
                  have hoA : wA.ownsRow WW.heap.size 3 1 (.slice (some ⟨WW.heap.size, 0, none⟩) 1 1) 1 (i64s [x]) := by rw [hwA]; exact own_litI WW [x] #[.int .i64 x] rfl 1 WW.heap.size rfl (Nat.le_refl _) (by unfold maxLen; omega)
                  have CMK := Lib.hid (make_t 14 (some ⟨WW.heap.size, 0, none⟩) 1 1 [x] wA (own_inI hoA rfl HFX.out) (by omega))
                  have HBA := Lib.hid (show Below WW.heap.size WW wA by rw [hwA]; exact bl_al (Below.refl _ _) _)
                  have HWA := Lib.hid hwA
                  clear hoA hwA
                  go_wp2_with fail
                  rw [← HWA.out]
                  refine CMK.out.mono ?_
                  rintro e w7 ⟨a7, n7, c7, rfl, hn7, ho7, hb7⟩
                  have HB7 := Lib.hid (bl_tr HBA.out hb7)
                  have HN7 := Lib.hid hn7
                  have HO7 := Lib.hid ho7
                  have HZ7 := Lib.hid ((HB7.out.block q8 (lt_of_block HZ4.out)).trans HZ4.out)
                  obtain ⟨y0, y1, y2⟩ := MAt.of HZ7.out
                  have yf := fun o => frozen_of_row w7 q8 o _ _ HZ7.out
                  clear hn7 ho7 hb7 CMK
                  go_wp2
                  refine bodyPost_ret (v := .tuple #[mval 14 a7 n7 c7 none 0 0, .bool true]) (by simp [results, Try.results30, go_sem, y0, y1, y2]) rfl ?_
                  unfold RecL
                  rw [HREC.out]
                  refine ⟨LiS.fin (T := fun k => WW.heap.size ≤ k ∨ k = q8) HLW.out hB (fun k hk => .inl hk) ((tch_new HBW4.out).mono (fun _ h => h.elim)) ((((tch_below HB7.out).mono (fun k hk => .inl hk))).trans ((tch3 w7 q8 _ _ _).mono (fun k hk => .inr hk))) (fun k hk => by
                    have h5 := HBW4.out.size
                    have h8 := HQ8.out
                    refine ⟨by rcases hk with hk | hk <;> omega, fun hg => ?_⟩
                    have h6 := (HL.out.blocks k hg).2
                    rcases hk with hk | hk <;> omega) (fun k hk => (HL.out.blocks k hk).2) (fun k hk => (HL.out.blocks k hk).1), a7, n7, c7, rfl, HN7.out, ?_⟩
                  refine own_base (B := wA.heap.size) ?_ (Nat.le_trans HBW4.out.size HBA.out.size)
                  have hlt8 : q8 < wA.heap.size := Nat.lt_of_lt_of_le (lt_of_block HZ4.out) HBA.out.size
                  iterate 3 (refine ownsRow_setCell_below ?_ hlt8 _)
                  exact HO7.out
            · have z13 : (kind == 13) = false := by simp [h13]
              have H13 := Lib.hid h13
              clear h13
              have HN := Lib.hid (show recF l fr m now = (l, none) by rw [HRF.out, if_neg (by rw [← HK.out]; exact H10.out), if_neg (by rw [← HK.out]; exact fun h => h.elim H12.out H13.out)])
              obtain ⟨y0, y1, y2⟩ := MAt.of HZ4.out
              have yf := fun o => frozen_of_row WW q8 o _ _ HZ4.out
              go_wp2
              refine bodyPost_ret (v := .tuple #[mval 0 none 0 0 none 0 0, .bool false]) (by simp [results, Try.results30, go_sem, y0, y1, y2]) rfl ?_
              unfold RecL
              rw [HN.out]
              exact ⟨stay HL.out HBW4.out HQ8.out hB, rfl⟩
      · rw [decide_eq_false htm] at CTM
        have HN := Lib.hid (show recF l fr m now = (l, none) by unfold recF; rw [if_neg (fun h => htm h.2.2)])
        try clear CR e0 e1 e2
        go_wp2_with (first | (go_at_call 33; refine (CMX.out _).mono ?_; rintro e w1 ⟨rfl, rfl⟩) | (go_at_call 34; refine (CTM.out _).mono ?_; rintro e w1 ⟨rfl, rfl⟩))
        refine bodyPost_ret (v := .tuple #[mval 0 none 0 0 none 0 0, .bool false]) (by simp [results, Try.results30, go_sem, z0, z1, z2]) rfl ?_
        unfold RecL
        rw [HN.out]
        exact ⟨stay HL.out HB2.out HQ8.out hB, rfl⟩
    · rw [decide_eq_false hmx] at CMX
      have HN := Lib.hid (show recF l fr m now = (l, none) by unfold recF; rw [if_neg (fun h => hmx h.2.1)])
      try clear CR e0 e1 e2
      go_wp2_with (first | (go_at_call 33; refine (CMX.out _).mono ?_; rintro e w1 ⟨rfl, rfl⟩) | (go_at_call 34; refine (CTM.out _).mono ?_; rintro e w1 ⟨rfl, rfl⟩))
      refine bodyPost_ret (v := .tuple #[mval 0 none 0 0 none 0 0, .bool false]) (by simp [results, Try.results30, go_sem, z0, z1, z2]) rfl ?_
      unfold RecL
      rw [HN.out]
      exact ⟨stay HL.out HB2.out HQ8.out hB, rfl⟩
  · have HB2 := Lib.hid (bl_tr HBW.out hb2)
    have HZ2 := Lib.hid ((hb2.block q8 (lt_of_block HZ.out)).trans HZ.out)
    obtain ⟨z0, z1, z2⟩ := MAt.of HZ2.out
    have zf := fun o => frozen_of_row w2 q8 o _ _ HZ2.out
    have HN := Lib.hid (show recF l fr m now = (l, none) by unfold recF; rw [if_neg (fun h => hv h.1)])
    have hmx := True.intro
    try clear CR e0 e1 e2
    go_wp2_with (first | (go_at_call 33; refine (CMX.out _).mono ?_; rintro e w1 ⟨rfl, rfl⟩) | (go_at_call 34; refine (CTM.out _).mono ?_; rintro e w1 ⟨rfl, rfl⟩))
    refine bodyPost_ret (v := .tuple #[mval 0 none 0 0 none 0 0, .bool false]) (by simp [results, Try.results30, go_sem, z0, z1, z2]) rfl ?_
    unfold RecL
    rw [HN.out]
    exact ⟨stay HL.out HB2.out HQ8.out hB, rfl⟩
set_option maxRecDepth 100000 in
set_option maxHeartbeats 4000000 in
theorem recL_n (fr : Int) (m : Mg) (a : Option Addr) (n c : Nat) (b0 : Option Addr) (k d : Nat) (now : Int) (w : World) (hI : InI w a n c m.nums) (hn : n ≤ 4611686018427387904) :
    Calls Try.prog 30 #[.pointer none, .int .i64 fr, mval m.kind a n c b0 k d, .int .i64 now] w (fun e w' => e = .returned (.tuple #[mval 0 none 0 0 none 0 0, .bool false]) ∧ Below w.heap.size w w') := by
  obtain ⟨W, hW⟩ : ∃ W, (w.alloc (mobj m.kind a n c b0 k d)).alloc (mobj 0 none 0 0 none 0 0) = W := ⟨_, rfl⟩
  have s1 : (w.alloc (mobj m.kind a n c b0 k d)).heap.size = w.heap.size + 1 := by simp
  have hbw : Below w.heap.size w W := by rw [← hW]; exact bl_al (bl_al (Below.refl _ _) _) _
  have hat : MAt W w.heap.size m.kind a n c b0 k d := by rw [← hW]; exact (MAt.new w m.kind a n c b0 k d).below (bl_al (Below.refl _ _) _) (by omega)
  have hz : W.heap[w.heap.size + 1]? = some (.cells (mcs 0 none 0 0 none 0 0) 40 (0, 0)) := by rw [← hW, ← s1]; exact heap_alloc_new _ _
  have HBW := Lib.hid hbw
  have CR := Lib.hid (read_c m a n c b0 k d W (hI.below hbw) hn)
  obtain ⟨q6, hq6⟩ : ∃ q, q = w.heap.size := ⟨_, rfl⟩
  obtain ⟨q8, hq8⟩ : ∃ q, q = w.heap.size + 1 := ⟨_, rfl⟩
  rw [← hq6] at hat
  rw [← hq8] at hz
  have HZ := Lib.hid hz
  have HQ6 := Lib.hid hq6
  have HQ8 := Lib.hid hq8
  have HW := Lib.hid hW
  obtain ⟨e0, e1, e2⟩ := hat
  clear hW hq6 hq8 hI hbw hz s1
  go_enter Try.func30, Try.ntmps30
  go_upto_region 1 with fail
  rw [HW.out, ← HQ8.out, ← HQ6.out]
  go_wp2_with fail
  refine CR.out.mono ?_
  rintro e w2 ⟨hb2, hh⟩
  have HB2 := Lib.hid (bl_tr HBW.out hb2)
  have HZ2 := Lib.hid ((hb2.block q8 (lt_of_block HZ.out)).trans HZ.out)
  obtain ⟨z0, z1, z2⟩ := MAt.of HZ2.out
  have zf := fun o => frozen_of_row w2 q8 o _ _ HZ2.out
  have hend : Below w.heap.size w (((w2.setCell ⟨q8, 0, none⟩ (.int .i64 0)).setCell ⟨q8, 1, none⟩ (.slice none 0 0)).setCell ⟨q8, 2, none⟩ (.slice none 0 0)) :=
    ((tch_below HB2.out).trans ((tch3 w2 q8 _ _ _).mono (fun k hk => by rw [hk, HQ8.out]; exact Nat.le_succ _))).below (fun _ h => h) (Nat.le_refl _)
  have HE := Lib.hid hend
  clear e0 e1 e2 hend hb2 CR
  rcases hh with ⟨hv, a2, c2, rfl, ho2⟩ | ⟨hv, rfl⟩
  · clear ho2 hv
    go_wp2
    exact bodyPost_ret (v := .tuple #[mval 0 none 0 0 none 0 0, .bool false]) (by simp [results, Try.results30, go_sem, z0, z1, z2]) rfl ⟨rfl, HE.out⟩
  · clear hv
    go_wp2
    exact bodyPost_ret (v := .tuple #[mval 0 none 0 0 none 0 0, .bool false]) (by simp [results, Try.results30, go_sem, z0, z1, z2]) rfl ⟨rfl, HE.out⟩
end Go.Proofs.Ytlmkmbpikhagiaa
