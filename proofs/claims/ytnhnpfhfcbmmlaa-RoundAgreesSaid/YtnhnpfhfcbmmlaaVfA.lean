/- A voter of the call's own; Promised, Accepted, hear. Conditions: those stated. -/
import Derived.Test.YtnhnpfhfcbmmlaaVeS
namespace Go.Proofs.Ytnhnpfhfcbmmlaa
open Go Go.RowKit
set_option linter.unusedVariables false
set_option linter.unusedSimpArgs false

abbrev tyVt : TypeId := 148
abbrev vtA (pr ac : Bl) (v : Value) (s : Option Addr) (node : Int) : Array Value := #[.int .i64 pr.n, .int .i64 pr.node, .int .i64 ac.n, .int .i64 ac.node, v, .pointer s, .int .i64 node]
def VOb (w : World) (p : Nat) (pr ac : Bl) (v : Value) (s : Nat) (node : Int) : Prop := w.heap[p]? = some (.cells (vtA pr ac v (some ⟨s, 0, none⟩) node) tyVt (0, 0))
theorem VOb.cs {w : World} {p s : Nat} {pr ac : Bl} {v : Value} {node : Int} (h : VOb w p pr ac v s node) : w.cell? ⟨p, 0, none⟩ = some (.int .i64 pr.n) ∧ w.cell? ⟨p, 1, none⟩ = some (.int .i64 pr.node) ∧ w.cell? ⟨p, 2, none⟩ = some (.int .i64 ac.n) ∧ w.cell? ⟨p, 3, none⟩ = some (.int .i64 ac.node) ∧ w.cell? ⟨p, 4, none⟩ = some v ∧ w.cell? ⟨p, 5, none⟩ = some (.pointer (some ⟨s, 0, none⟩)) ∧ w.cell? ⟨p, 6, none⟩ = some (.int .i64 node) := by
  refine ⟨?_, ?_, ?_, ?_, ?_, ?_, ?_⟩ <;> (rw [cell_of_row w p _ _ _ _ h]; rfl)
theorem VOb.free {w : World} {p s : Nat} {pr ac : Bl} {v : Value} {node : Int} (h : VOb w p pr ac v s node) (o : Nat) : w.frozen? ⟨p, o, none⟩ = false := frozen_of_row w p o _ _ h
theorem VOb.lt {w : World} {p s : Nat} {pr ac : Bl} {v : Value} {node : Int} (h : VOb w p pr ac v s node) : p < w.heap.size := lt_of_block h
/-- The voter's blocks: its own, its log's. -/
def VBk (p : Nat) (a : Option Addr) (vs : List Value) (k : Nat) : Prop := k = p ∨ BkC a vs k
/-- A voter of the call's own, in which blocks K have no part. -/
structure VX (w0 w : World) (p s : Nat) (size : Int) (l m : List Pr) (pr ac : Bl) (ls : List Cm) (node : Int) (K : Nat → Prop) (ao : Option Addr) (c : Nat) (vs : List Value) : Prop where
  ob : VOb w p pr ac (.slice ao ls.length c) s node
  log : InC w ao ls.length c ls vs
  st : SOn w0 w s size l m (fun k => K k ∨ VBk p ao vs k)
  apart : ∀ k, VBk p ao vs k → ¬ K k
  base : w0.heap.size ≤ p
  typ : TyB pr ∧ TyB ac ∧ i64c node
  few : ls.length ≤ 256 ∧ ∀ x ∈ ls, x.es.length ≤ 64
  sep : ∀ k, BkC ao vs k → k ≠ p
def VOn (w0 w : World) (p s : Nat) (size : Int) (l m : List Pr) (pr ac : Bl) (ls : List Cm) (node : Int) (K : Nat → Prop) : Prop := ∃ ao c vs, VX w0 w p s size l m pr ac ls node K ao c vs
theorem VX.kpt {w0 w w' : World} {p s : Nat} {size : Int} {l m l' m' : List Pr} {pr ac : Bl} {ls : List Cm} {node : Int} {K : Nat → Prop} {ao : Option Addr} {c : Nat} {vs : List Value} (h : VX w0 w p s size l m pr ac ls node K ao c vs) (hst : SOn w0 w' s size l' m' (fun k => K k ∨ VBk p ao vs k)) (hk : Kpt (fun k => K k ∨ VBk p ao vs k) w w') : VX w0 w' p s size l' m' pr ac ls node K ao c vs := by
  refine ⟨(hk p (.inr (.inl rfl))).trans h.ob, ?_, hst, h.apart, h.base, h.typ, h.few, h.sep⟩
  have hlog := h.log
  refine ⟨hlog.len, hlog.vlen, hlog.room, hlog.none, ?_, fun j hj => ?_, hlog.typ⟩
  · rcases hlog.here with h0 | ⟨b, off, ha, hc⟩
    · exact .inl h0
    · exact .inr ⟨b, off, ha, fun t u hu => hk.cell (hc t u hu) (.inr (.inr (.inl ⟨_, ha, rfl⟩)))⟩
  · obtain ⟨a2, k2, c2, e, hE⟩ := hlog.ends j hj
    refine ⟨a2, k2, c2, e, hE.kpt hk (fun ad e2 h2 => .inr (.inr (.inr ⟨vs.getD j undef, memV (by rw [hlog.vlen, hlog.len]; exact hj), ad, k2, c2, by rw [e, e2], rfl⟩)))⟩
theorem VOn.new {w0 w w' : World} {p s : Nat} {size : Int} {l m : List Pr} {pr ac : Bl} {ls : List Cm} {node : Int} {K : Nat → Prop} (h : VOn w0 w p s size l m pr ac ls node K) (hb : Below w.heap.size w w') : VOn w0 w' p s size l m pr ac ls node K ∧ Kpt K w w' := by
  obtain ⟨ao, c, vs, h⟩ := h
  obtain ⟨h1, h2⟩ := h.st.new hb
  exact ⟨⟨ao, c, vs, h.kpt h1 h2⟩, h2.less (fun k hk => .inl hk)⟩
theorem VX.lts {w0 w : World} {p s : Nat} {size : Int} {l m : List Pr} {pr ac : Bl} {ls : List Cm} {node : Int} {K : Nat → Prop} {ao : Option Addr} {c : Nat} {vs : List Value} (h : VX w0 w p s size l m pr ac ls node K ao c vs) : ∀ k, K k ∨ VBk p ao vs k → k < w.heap.size := h.st.lt
theorem VOn.grow {w0 w w' : World} {p s : Nat} {size : Int} {l m : List Pr} {pr ac : Bl} {ls : List Cm} {node : Int} {K : Nat → Prop} (h : VOn w0 w p s size l m pr ac ls node K) (hb : Below w.heap.size w w') : VOn w0 w' p s size l m pr ac ls node (fun k => K k ∨ (w.heap.size ≤ k ∧ k < w'.heap.size)) := by
  obtain ⟨ao, c, vs, h⟩ := h
  have h1 := h.st.grow hb
  obtain ⟨h3, h2⟩ := h.st.new hb
  have hx := h.kpt h3 h2
  refine ⟨ao, c, vs, hx.ob, hx.log, h1.less (fun k hk => ?_), fun k hk hK => ?_, h.base, h.typ, h.few, h.sep⟩
  · rcases hk with (hk | hk) | hk
    · exact .inl (.inl hk)
    · exact .inr hk
    · exact .inl (.inr hk)
  · rcases hK with hK | hK
    · exact h.apart k hk hK
    · have := h.lts k (.inr hk); omega
theorem VOn.less {w0 w : World} {p s : Nat} {size : Int} {l m : List Pr} {pr ac : Bl} {ls : List Cm} {node : Int} {K K2 : Nat → Prop} (h : VOn w0 w p s size l m pr ac ls node K) (hk : ∀ k, K2 k → K k) : VOn w0 w p s size l m pr ac ls node K2 := by
  obtain ⟨ao, c, vs, h⟩ := h
  exact ⟨ao, c, vs, h.ob, h.log, h.st.less (fun k h2 => h2.imp (hk k) (fun h => h)), fun k h1 h2 => h.apart k h1 (hk k h2), h.base, h.typ, h.few, h.sep⟩
theorem VOn.bel {w0 w : World} {p s : Nat} {size : Int} {l m : List Pr} {pr ac : Bl} {ls : List Cm} {node : Int} {K : Nat → Prop} (h : VOn w0 w p s size l m pr ac ls node K) : Below w0.heap.size w0 w := by
  obtain ⟨ao, c, vs, h⟩ := h
  exact h.st.bel
/-- What writes blocks of K leaves the voter alone. -/
theorem VOn.write {w0 w w' : World} {p s : Nat} {size : Int} {l m : List Pr} {pr ac : Bl} {ls : List Cm} {node : Int} {K T : Nat → Prop} (h : VOn w0 w p s size l m pr ac ls node K) (ht : Tch T w w') (hT : ∀ k, T k → K k ∧ w0.heap.size ≤ k) : VOn w0 w' p s size l m pr ac ls node K := by
  obtain ⟨ao, c, vs, h⟩ := h
  have h1 := h.st.write ht (fun k hk => ⟨.inl (hT k hk).1, (hT k hk).2⟩)
  have hn : ∀ k, VBk p ao vs k → ¬ T k := fun k hk hT2 => h.apart k hk (hT k hT2).1
  refine ⟨ao, c, vs, ht.at h.ob (hn p (.inl rfl)), h.log.keep ht (fun k hk => hn k (.inr hk)), h1, h.apart, h.base, h.typ, h.few, h.sep⟩
theorem cell_set2 {w : World} {p i q : Nat} {v : Value} (h : w.cell? ⟨p, i, none⟩ = some v) (hne : p ≠ q) (a b : Value) : ((w.setCell ⟨q, 0, none⟩ a).setCell ⟨q, 1, none⟩ b).cell? ⟨p, i, none⟩ = some v := by
  have h1 : (w.setCell ⟨q, 0, none⟩ a).cell? ⟨p, i, none⟩ = some v := (tch_set w ⟨q, 0, none⟩ a).cell h hne
  exact (tch_set _ ⟨q, 1, none⟩ b).cell h1 hne
set_option maxRecDepth 100000 in
set_option maxHeartbeats 4000000 in
theorem promised_c (w : World) (p s : Nat) (pr ac : Bl) (v : Value) (node : Int) (h : VOb w p pr ac v s node) :
    Calls Try.prog 40 #[.pointer (some ⟨p, 0, none⟩)] w fun e w' => e = .returned pr.val ∧ Below w.heap.size w w' := by
  obtain ⟨w1, hw1⟩ : ∃ W, W = w.alloc bl0.obj := ⟨_, rfl⟩
  have hA := bxB_new w bl0
  rw [← hw1] at hA
  have hb1 : Below w.heap.size w w1 := by rw [hw1]; exact bl_al (Below.refl _ _) _
  have hV : VOb w1 p pr ac v s node := (hb1.block p h.lt).trans h
  obtain ⟨q, hq⟩ : ∃ p, p = w.heap.size := ⟨_, rfl⟩
  rw [← hq] at hA
  have HQ : Hid (q = w.heap.size ∧ p < q) := Lib.hid ⟨hq, by have := h.lt; omega⟩
  have HW1 := Lib.hid (And.intro hw1 hq)
  have HB := Lib.hid hb1
  have HA := Lib.hid hA
  obtain ⟨c0, c1, c2, c3, c4, c5, c6⟩ := hV.cs
  obtain ⟨z0, z1⟩ := hA.at
  have f0 := hA.free 0
  have f1 := hA.free 1
  have hne : ((some (⟨p, 0, none⟩ : Addr)) == none) = false := rfl
  obtain ⟨x, y⟩ := pr
  clear hw1 hA hb1 hV hq h
  go_enter Try.func40, Try.ntmps40
  go_upto_region 1 with fail
  rw [show w.alloc (.cells #[.int .i64 0, .int .i64 0] tyB2) = w1 from HW1.out.1.symm, ← HW1.out.2]
  go_wp2
  have hA6 := HA.out.put x y
  have hb6 : Below w.heap.size w ((w1.setCell ⟨q, 0, none⟩ (.int .i64 x)).setCell ⟨q, 1, none⟩ (.int .i64 y)) := bl_set (bl_set HB.out (by have := HQ.out; omega) _) (by have := HQ.out; omega) _
  obtain ⟨w6, hw6⟩ : ∃ v, v = (w1.setCell ⟨q, 0, none⟩ (.int .i64 x)).setCell ⟨q, 1, none⟩ (.int .i64 y) := ⟨_, rfl⟩
  rw [← hw6] at hA6 hb6 ⊢
  obtain ⟨y0, y1⟩ := hA6.at
  refine bodyPost_ret (v := Bl.val ⟨x, y⟩) (by simp [results, Try.results40, go_sem, y0, y1]) rfl ?_
  exact ⟨rfl, hb6⟩
/-- What Accepted answers. -/
def GotA (w : World) (ac : Bl) (ls : List Cm) (e : Ending) (w' : World) : Prop := (∃ ao c vs, e = .returned (.tuple #[ac.val, .slice ao ls.length c]) ∧ OwC w' w.heap.size ls ao c vs) ∧ Below w.heap.size w w'
set_option maxRecDepth 100000 in
set_option maxHeartbeats 4000000 in
theorem accepted_c (w : World) (p s : Nat) (pr ac : Bl) (ls : List Cm) (ao : Option Addr) (c : Nat) (vs : List Value) (node : Int) (h : VOb w p pr ac (.slice ao ls.length c) s node) (hI : InC w ao ls.length c ls vs) (hf : ls.length ≤ 256 ∧ ∀ x ∈ ls, x.es.length ≤ 64) :
    Calls Try.prog 39 #[.pointer (some ⟨p, 0, none⟩)] w (GotA w ac ls) := by
  obtain ⟨w1, hw1⟩ : ∃ W, W = w.alloc bl0.obj := ⟨_, rfl⟩
  have hA := bxB_new w bl0
  rw [← hw1] at hA
  have hb1 : Below w.heap.size w w1 := by rw [hw1]; exact bl_al (Below.refl _ _) _
  have hV : VOb w1 p pr ac (.slice ao ls.length c) s node := (hb1.block p h.lt).trans h
  have hI1 := hI.below hb1
  obtain ⟨q, hq⟩ : ∃ p, p = w.heap.size := ⟨_, rfl⟩
  rw [← hq] at hA
  have HQ : Hid (q = w.heap.size ∧ p < q) := Lib.hid ⟨hq, by have := h.lt; omega⟩
  have HW1 := Lib.hid (And.intro hw1 hq)
  have HB := Lib.hid hb1
  have HA := Lib.hid hA
  obtain ⟨n, hn⟩ : ∃ n, n = ls.length := ⟨_, rfl⟩
  have HN := Lib.hid hn
  have CC0 := copyLog_c ls vs ao ls.length c w1.drew (hI1.below (Below.refl _ _).drew) (by omega) (fun x hx => by have := hf.2 x hx; omega)
  rw [← hn] at CC0 hV
  have CC := Lib.hid CC0
  obtain ⟨c0, c1, c2, c3, c4, c5, c6⟩ := hV.cs
  have hne : ((some (⟨p, 0, none⟩ : Addr)) == none) = false := rfl
  obtain ⟨x, y⟩ := ac
  have hpq : p ≠ q := by have := HQ.out; omega
  clear hw1 hA hb1 hV hq h hI hI1 hf hn CC0 c0 c1 c5 c6
  go_enter Try.func39, Try.ntmps39
  go_upto_region 1 with fail
  rw [show w.alloc (.cells #[.int .i64 0, .int .i64 0] tyB2) = w1 from HW1.out.1.symm, ← HW1.out.2]
  go_upto_region 3 with fail
  have hS0 : w1.drew.cell? ⟨p, 2, none⟩ = some (.int .i64 x) ∧ w1.drew.cell? ⟨p, 3, none⟩ = some (.int .i64 y) ∧ w1.drew.cell? ⟨p, 4, none⟩ = some (.slice ao n c) := ⟨c2, c3, c4⟩
  clear c2 c3 c4
  go_region_held3 (fun wx => wx.cell? ⟨p, 2, none⟩ = some (.int .i64 x) ∧ wx.cell? ⟨p, 3, none⟩ = some (.int .i64 y) ∧ wx.cell? ⟨p, 4, none⟩ = some (.slice ao n c)) (first | (with_reducible exact hS0) | (with_reducible assumption) | (with_reducible exact hS2 _ _) | fail)
    (first
      | (go_at_call 83; (with_reducible refine CC.out.mono ?_); rintro e w5 ⟨⟨a5, c5, v5, rfl, hO5⟩, hb5⟩; have hS1 := (show w5.cell? ⟨p, 2, none⟩ = some (.int .i64 x) ∧ w5.cell? ⟨p, 3, none⟩ = some (.int .i64 y) ∧ w5.cell? ⟨p, 4, none⟩ = some (.slice ao n c) from ⟨cell_later hb5 hS0.1, cell_later hb5 hS0.2.1, cell_later hb5 hS0.2.2⟩); have hA5 := (HA.out.later (Below.refl _ _).drew).later hb5; have z0 := hA5.at.1; have z1 := hA5.at.2; have f0 := hA5.free 0; have f1 := hA5.free 1; have hS2 := (fun (a b : Value) => (show ((w5.setCell ⟨q, 0, none⟩ a).setCell ⟨q, 1, none⟩ b).cell? ⟨p, 2, none⟩ = some (.int .i64 x) ∧ ((w5.setCell ⟨q, 0, none⟩ a).setCell ⟨q, 1, none⟩ b).cell? ⟨p, 3, none⟩ = some (.int .i64 y) ∧ ((w5.setCell ⟨q, 0, none⟩ a).setCell ⟨q, 1, none⟩ b).cell? ⟨p, 4, none⟩ = some (.slice ao n c) from ⟨cell_set2 hS1.1 hpq a b, cell_set2 hS1.2.1 hpq a b, cell_set2 hS1.2.2 hpq a b⟩)))
      | fail)
  all_goals
    have hA6 := hA5.put x y
    have hb15 : Below w.heap.size w w5 := bl_tr (bl_tr HB.out (Below.refl _ _).drew) hb5
    have hb6 : Below w.heap.size w ((w5.setCell ⟨q, 0, none⟩ (.int .i64 x)).setCell ⟨q, 1, none⟩ (.int .i64 y)) := bl_set (bl_set hb15 (by have := HQ.out; omega) _) (by have := HQ.out; omega) _
    have hT6 : Tch (· = q) w5 ((w5.setCell ⟨q, 0, none⟩ (.int .i64 x)).setCell ⟨q, 1, none⟩ (.int .i64 y)) := (tch_set w5 ⟨q, 0, none⟩ _).trans (tch_set _ ⟨q, 1, none⟩ _)
    have hO6 := (hO5.base (show w.heap.size ≤ w1.drew.heap.size from HB.out.size)).one hT6 hA5 (by decide) (by decide)
    obtain ⟨w6, hw6⟩ : ∃ v, v = (w5.setCell ⟨q, 0, none⟩ (.int .i64 x)).setCell ⟨q, 1, none⟩ (.int .i64 y) := ⟨_, rfl⟩
    rw [← hw6] at hA6 hb6 hO6 ⊢
    obtain ⟨y0, y1⟩ := hA6.at
    clear hS0 hS1 hS2 hT6 hO5 hb5 z0 z1 f0 f1 hA5 hb15 hw6
    go_wp2
    refine bodyPost_ret (v := .tuple #[Bl.val ⟨x, y⟩, .slice a5 ls.length c5]) (by simp [results, Try.results39, go_sem, y0, y1]) rfl ?_
    exact ⟨⟨a5, c5, v5, rfl, hO6⟩, hb6⟩
/-- What hear answers. -/
def hearN (b pr : Bl) : Int := if OkB b then (if LtB b pr then 8 else 0) else 9
set_option maxRecDepth 100000 in
set_option maxHeartbeats 4000000 in
theorem hear_c (w : World) (p s : Nat) (pr ac : Bl) (v : Value) (node : Int) (b : Bl) (hb : TyB b) (h : VOb w p pr ac v s node) :
    Calls Try.prog 77 #[.pointer (some ⟨p, 0, none⟩), b.val] w fun e w' => e = .returned (errF (hearN b pr)) ∧ Below w.heap.size w w' := by
  obtain ⟨w1, hw1⟩ : ∃ W, W = w.alloc b.obj := ⟨_, rfl⟩
  have hA := bxB_new w b
  rw [← hw1] at hA
  have hb1 : Below w.heap.size w w1 := by rw [hw1]; exact bl_al (Below.refl _ _) _
  have hV : VOb w1 p pr ac v s node := (hb1.block p h.lt).trans h
  obtain ⟨q, hq⟩ : ∃ p, p = w.heap.size := ⟨_, rfl⟩
  rw [← hq] at hA
  have HW1 := Lib.hid (And.intro hw1 hq)
  have HB := Lib.hid hb1
  have HA := Lib.hid hA
  have HV := Lib.hid hV
  have CB := Lib.hid (isBallot_c b hb w1)
  obtain ⟨zb, hzb⟩ : ∃ zb, zb = decide (OkB b) := ⟨_, rfl⟩
  rw [← hzb] at CB
  have HZ := Lib.hid hzb
  have CL := Lib.hid (fun W => less_c b pr W)
  obtain ⟨zl, hzl⟩ : ∃ zl, zl = decide (LtB b pr) := ⟨_, rfl⟩
  rw [← hzl] at CL
  have HL := Lib.hid hzl
  have HN : Hid (hearN b pr = if zb then (if zl then 8 else 0) else 9) := Lib.hid (by
    unfold hearN
    rw [hzb, hzl]
    by_cases h1 : OkB b
    · by_cases h2 : LtB b pr
      · simp [h1, h2]
      · simp [h1, h2]
    · simp [h1])
  obtain ⟨R, hR⟩ : ∃ R, R = hearN b pr := ⟨_, rfl⟩
  rw [← hR] at HN ⊢
  obtain ⟨z0, z1⟩ := hA.at
  have hne : ((some (⟨p, 0, none⟩ : Addr)) == none) = false := rfl
  obtain ⟨x, y⟩ := b
  clear hw1 hA hb1 hV hq h hb hzb hzl hR
  go_enter Try.func77, Try.ntmps77
  go_upto_region 1 with fail
  rw [show w.alloc (.cells #[.int .i64 x, .int .i64 y] tyB2) = w1 from HW1.out.1.symm, ← HW1.out.2]
  go_wp2_with fail
  refine CB.out.mono ?_
  rintro e w2 ⟨rfl, hb2⟩
  have HB2 := Lib.hid (bl_tr HB.out hb2)
  have hA2 := HA.out.later hb2
  have hV2 : VOb w2 p pr ac v s node := (hb2.block p HV.out.lt).trans HV.out
  clear hb2 z0 z1
  cases zb with
  | false =>
    go_wp2
    go_ret
    exact ⟨by rw [HN.out]; rfl, HB2.out⟩
  | true =>
    obtain ⟨z0, z1⟩ := hA2.at
    obtain ⟨c0, c1, _, _, _, _, _⟩ := hV2.cs
    obtain ⟨u, t⟩ := pr
    clear hA2 hV2
    go_upto_region 3 with fail
    have hS0 : w2.drew.cell? ⟨q, 0, none⟩ = some (.int .i64 x) ∧ w2.drew.cell? ⟨q, 1, none⟩ = some (.int .i64 y) ∧ w2.drew.cell? ⟨p, 0, none⟩ = some (.int .i64 u) ∧ w2.drew.cell? ⟨p, 1, none⟩ = some (.int .i64 t) := ⟨z0, z1, c0, c1⟩
    clear z0 z1 c0 c1
    go_region_held3 (fun wx => wx.cell? ⟨q, 0, none⟩ = some (.int .i64 x) ∧ wx.cell? ⟨q, 1, none⟩ = some (.int .i64 y) ∧ wx.cell? ⟨p, 0, none⟩ = some (.int .i64 u) ∧ wx.cell? ⟨p, 1, none⟩ = some (.int .i64 t)) (first | (with_reducible exact hS0) | (with_reducible assumption) | fail)
      (first
        | (go_at_call 42; (with_reducible refine (CL.out _).mono ?_); rintro e w5 ⟨rfl, hb5⟩; have hS1 := (show w5.cell? ⟨q, 0, none⟩ = some (.int .i64 x) ∧ w5.cell? ⟨q, 1, none⟩ = some (.int .i64 y) ∧ w5.cell? ⟨p, 0, none⟩ = some (.int .i64 u) ∧ w5.cell? ⟨p, 1, none⟩ = some (.int .i64 t) from ⟨cell_later hb5 hS0.1, cell_later hb5 hS0.2.1, cell_later hb5 hS0.2.2.1, cell_later hb5 hS0.2.2.2⟩))
        | fail)
    all_goals
      have HB5 := Lib.hid (bl_tr (bl_tr HB2.out (Below.refl _ _).drew) hb5)
      clear hS0 hS1 hb5
      cases zl with
      | true =>
        go_wp2
        go_ret
        exact ⟨by rw [HN.out]; rfl, HB5.out⟩
      | false =>
        go_wp2
        go_ret
        exact ⟨by rw [HN.out]; rfl, HB5.out⟩
theorem hear_n (w : World) (b : Bl) : Calls Try.prog 77 #[.pointer none, b.val] w fun e w' => e = .returned (errnoF 9) ∧ Below w.heap.size w w' := by
  have hb1 := bl_al (Below.refl w.heap.size w) b.obj
  have HB := Lib.hid hb1
  obtain ⟨x, y⟩ := b
  clear hb1
  go_enter Try.func77, Try.ntmps77
  go_wp2
  go_ret
  exact ⟨rfl, HB.out⟩
end Go.Proofs.Ytnhnpfhfcbmmlaa
