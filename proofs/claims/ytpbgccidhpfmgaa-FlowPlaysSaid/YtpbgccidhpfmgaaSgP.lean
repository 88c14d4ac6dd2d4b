/- Contracts of sort's order2_func, median_func, medianAdjacent_func, choosePivot_func where 'less' may make blocks of its own. Conditions: as stated. -/
import Derived.Test.YtpbgccidhpfmgaaSgI
import Derived.Sort.LotD4
import Derived.Sort.Walk13
namespace Go.Proofs.Ytpbgccidhpfmgaa
open Go Go.RowKit Go.Sort
set_option linter.unusedVariables false
set_option linter.unusedSimpArgs false

variable {α : Type} [Inhabited α] {enc : α → List Value} {k : Nat} {lt : α → α → Bool} {g : Nat} {lb : Array Value} {sf : Nat} {sb : Array Value} {blk n : Nat} {w0 : World} {d0 : Array α}
/-- A counter in a block of the call's own. -/
def Cnt (w : World) (b : Nat) (v : Nat) : Prop := w.cell? ⟨b, 0, none⟩ = some (.int .i64 (v : Int)) ∧ w.frozen? ⟨b, 0, none⟩ = false
theorem Cnt.tch {T : Nat → Prop} {w w' : World} {b v : Nat} (h : Cnt w b v) (ht : Tch T w w') (hn : ¬ T b) : Cnt w' b v := by
  have hb : w'.heap[b]? = w.heap[b]? := ht.block b (block_lt_of_cell h.1) hn
  refine ⟨ht.cell h.1 hn, ?_⟩
  rw [← h.2]
  unfold World.frozen?
  simp only [hb]
theorem Cnt.set {w : World} {b v : Nat} (h : Cnt w b v) (u : Nat) : Cnt (w.setCell ⟨b, 0, none⟩ (.int .i64 (u : Int))) b u :=
  ⟨World.cell?_setCell_same' _ _ _ (by rw [h.1]; rfl), by rw [World.frozen?_setCell]; exact h.2⟩
set_option maxRecDepth 100000 in
set_option maxHeartbeats 2000000 in
theorem ord_g (S : Sgt enc k lt g lb sf sb blk n w0 d0) (a b c v : Nat) (d : Array α) (w : World) (hw : SWK enc k w0 blk 0 d w) (hl : d.size = n) (ha : a < n) (hb : b < n) (hc : Cnt w c v) (hcb : w0.heap.size ≤ c) (hv : v < 4611686018427387904) :
    Calls Try.prog 139 #[.agg #[.func (.func g) #[] lb, .func (.func sf) #[] sb], .int .i64 a, .int .i64 b, .pointer (some ⟨c, 0, none⟩)] w fun e w' => e = .returned (.tuple #[.int .i64 (order2 lt d a b v).1, .int .i64 (order2 lt d a b v).2.1]) ∧ SWK enc k w0 blk 0 d w' ∧ Cnt w' c (order2 lt d a b v).2.2 ∧ Tch (· = c) w w' := by
  have eg := S.eg
  have hcl : c < w.heap.size := block_lt_of_cell hc.1
  have hne : w.heap.size ≠ blk := by have := hw.lt S.inb; omega
  have H0 := Lib.hid (Sgw.start (n := n) hw hl 154 (.func (.func g) #[] lb) (.func (.func sf) #[] sb))
  obtain ⟨W, hW⟩ : ∃ W, W = w.alloc (.cells #[(.func (.func g) #[] lb), (.func (.func sf) #[] sb)] 154) := ⟨_, rfl⟩
  rw [← hW] at H0
  have c0 := H0.out.c0
  have HC := Lib.hid (hc.tch (w' := W) (by rw [hW]; exact tch_grw Non ((Grw.refl w).alloc _)) (fun h => h))
  have HT := Lib.hid (show Tch Non w W by rw [hW]; exact tch_grw Non ((Grw.refl w).alloc _))
  have hl1 := S.less' H0.out.sw H0.out.len b a hb ha
  have HW := Lib.hid hW
  have hcnb : c ≠ blk := by have := S.inb; omega
  clear hw hl hW hc
  cases hlv : lt d[b]! d[a]! with
  | true =>
    rw [hlv] at hl1
    have hr : order2 lt d a b v = (b, a, v + 1) := if_pos hlv
    rw [hr]
    clear hr
    go_enter Try.func139, Try.ntmps139
    go_upto_region 1 with fail
    rw [← HW.out]
    go_wp2_with fail
    refine hl1.mono ?_
    rintro e w4 ⟨rfl, hg4⟩
    have H4 := Lib.hid (H0.out.grw hne hg4)
    have HC4 := Lib.hid (HC.out.tch (tch_grw Non hg4) (fun h => h))
    have HT4 := Lib.hid (HT.out.trans (tch_grw Non hg4))
    have q0 := HC4.out.1
    have q1 := HC4.out.2
    clear hg4 hl1 c0
    go_wp2
    go_ret2
    have ev : ((v : Int) + 1) = ((v + 1 : Nat) : Int) := by omega
    rw [ev]
    refine ⟨rfl, H4.out.sw.setCell_new c 0 _ hcb, HC4.out.set _, ?_⟩
    exact (HT4.out.mono (fun _ h => h.elim)).trans (tch_cell _ c 0 _)
  | false =>
    rw [hlv] at hl1
    have hr : order2 lt d a b v = (a, b, v) := if_neg (by rw [hlv]; simp)
    rw [hr]
    clear hr
    go_enter Try.func139, Try.ntmps139
    go_upto_region 1 with fail
    rw [← HW.out]
    go_wp2_with fail
    refine hl1.mono ?_
    rintro e w4 ⟨rfl, hg4⟩
    have H4 := Lib.hid (H0.out.grw hne hg4)
    have HC4 := Lib.hid (HC.out.tch (tch_grw Non hg4) (fun h => h))
    have HT4 := Lib.hid (HT.out.trans (tch_grw Non hg4))
    clear hg4 hl1 c0
    go_wp2
    go_ret2
    exact ⟨rfl, H4.out.sw, HC4.out, HT4.out.mono (fun _ h => h.elim)⟩
theorem ord_lt (lt : α → α → Bool) (d : Array α) {a b v m : Nat} (ha : a < m) (hb : b < m) : (order2 lt d a b v).1 < m ∧ (order2 lt d a b v).2.1 < m ∧ (order2 lt d a b v).2.2 ≤ v + 1 := by
  unfold order2
  split
  · exact ⟨hb, ha, Nat.le_refl _⟩
  · exact ⟨ha, hb, Nat.le_succ _⟩
/-- The own box is carried beside a counter. -/
theorem box_tch {w W W' : World} {x y : Value} {c : Nat} (h : W.cell? ⟨w.heap.size, 0, none⟩ = some x ∧ W.cell? ⟨w.heap.size, 1, none⟩ = some y) (hne : w.heap.size ≠ c) (ht : Tch (· = c) W W') : W'.cell? ⟨w.heap.size, 0, none⟩ = some x ∧ W'.cell? ⟨w.heap.size, 1, none⟩ = some y :=
  ⟨ht.cell h.1 (fun e => hne e), ht.cell h.2 (fun e => hne e)⟩
theorem box_new (w : World) (t : TypeId) (x y : Value) : (w.alloc (.cells #[x, y] t)).cell? ⟨w.heap.size, 0, none⟩ = some x ∧ (w.alloc (.cells #[x, y] t)).cell? ⟨w.heap.size, 1, none⟩ = some y := ⟨by simp, by simp⟩
set_option maxRecDepth 100000 in
set_option maxHeartbeats 2000000 in
theorem med_g (S : Sgt enc k lt g lb sf sb blk n w0 d0) (a b e0 c v : Nat) (d : Array α) (w : World) (hw : SWK enc k w0 blk 0 d w) (hl : d.size = n) (ha : a < n) (hb : b < n) (he : e0 < n) (hc : Cnt w c v) (hcb : w0.heap.size ≤ c) (hv : v ≤ 1000) :
    Calls Try.prog 129 #[.agg #[.func (.func g) #[] lb, .func (.func sf) #[] sb], .int .i64 a, .int .i64 b, .int .i64 e0, .pointer (some ⟨c, 0, none⟩)] w fun e w' => e = .returned (.int .i64 (median lt d a b e0 v).1) ∧ SWK enc k w0 blk 0 d w' ∧ Cnt w' c (median lt d a b e0 v).2 ∧ Tch (· = c) w w' := by
  have hcl : c < w.heap.size := block_lt_of_cell hc.1
  have hnc : w.heap.size ≠ c := by omega
  obtain ⟨W, hW⟩ : ∃ W, W = w.alloc (.cells #[(.func (.func g) #[] lb), (.func (.func sf) #[] sb)] 154) := ⟨_, rfl⟩
  have hT0 : Tch (· = c) w W := by rw [hW]; exact tch_grw _ ((Grw.refl w).alloc _)
  have hb0 := box_new w 154 (.func (.func g) #[] lb) (.func (.func sf) #[] sb)
  rw [← hW] at hb0
  have hs0 : SWK enc k w0 blk 0 d W := by rw [hW]; exact hw.alloc _
  have hc0 : Cnt W c v := hc.tch (T := Non) (by rw [hW]; exact tch_grw Non ((Grw.refl w).alloc _)) (fun h => h)
  obtain ⟨a1, b1, v1, hr1⟩ : ∃ a1 b1 v1, order2 lt d a b v = (a1, b1, v1) := ⟨_, _, _, rfl⟩
  obtain ⟨b2, e2, v2, hr2⟩ : ∃ b2 e2 v2, order2 lt d b1 e0 v1 = (b2, e2, v2) := ⟨_, _, _, rfl⟩
  obtain ⟨a3, b3, v3, hr3⟩ : ∃ a3 b3 v3, order2 lt d a1 b2 v2 = (a3, b3, v3) := ⟨_, _, _, rfl⟩
  have l1 := ord_lt lt d (v := v) ha hb
  rw [hr1] at l1
  simp only at l1
  have l2 := ord_lt lt d (v := v1) l1.2.1 he
  rw [hr2] at l2
  simp only at l2
  have l3 := ord_lt lt d (v := v2) l1.1 l2.1
  rw [hr3] at l3
  simp only at l3
  have hm : median lt d a b e0 v = (b3, v3) := by unfold median; simp only [hr1, hr2, hr3]
  rw [hm]
  have C1 := ord_g S a b c v d W hs0 hl ha hb hc0 hcb (by omega)
  rw [hr1] at C1
  have HW := Lib.hid hW
  have HS := Lib.hid hl
  obtain ⟨x0, x1⟩ := hb0
  have HB := Lib.hid (And.intro x0 x1)
  clear hm hr1 hW hw hc hl hs0 hc0
  go_enter Try.func129, Try.ntmps129
  go_upto_region 1 with fail
  rw [← HW.out]
  go_wp2_with fail
  refine C1.mono ?_
  rintro e w1 ⟨rfl, hs1, hc1, ht1⟩
  have C2 := ord_g S b1 e0 c v1 d w1 hs1 HS.out l1.2.1 he hc1 hcb (by omega)
  rw [hr2] at C2
  have hT1 := hT0.trans ht1
  have hb1 := box_tch HB.out hnc ht1
  have HB1 := Lib.hid hb1
  obtain ⟨y0, y1⟩ := hb1
  clear C1 hs1 hc1 ht1 x0 x1 HB hr2
  go_wp2_with fail
  refine C2.mono ?_
  rintro e w2 ⟨rfl, hs2, hc2, ht2⟩
  have C3 := ord_g S a1 b2 c v2 d w2 hs2 HS.out l1.1 l2.1 hc2 hcb (by omega)
  rw [hr3] at C3
  have hT2 := hT1.trans ht2
  have hb2 := box_tch HB1.out hnc ht2
  obtain ⟨z0, z1⟩ := hb2
  clear C2 hs2 hc2 ht2 y0 y1 HB1 hr3
  go_wp2_with fail
  refine C3.mono ?_
  rintro e w3 ⟨rfl, hs3, hc3, ht3⟩
  clear C3 z0 z1
  go_wp2
  go_ret
  exact ⟨rfl, hs3, hc3, hT2.trans ht3⟩
theorem med_lt (lt : α → α → Bool) (d : Array α) {a b e0 v m : Nat} (ha : a < m) (hb : b < m) (he : e0 < m) : (median lt d a b e0 v).1 < m ∧ (median lt d a b e0 v).2 ≤ v + 3 := by
  have l1 := ord_lt lt d (v := v) ha hb
  have l2 := ord_lt lt d (v := (order2 lt d a b v).2.2) l1.2.1 he
  have l3 := ord_lt lt d (v := (order2 lt d (order2 lt d a b v).2.1 e0 (order2 lt d a b v).2.2).2.2) l1.1 l2.1
  exact ⟨l3.2.1, by have h1 := l1.2.2; have h2 := l2.2.2; have h3 := l3.2.2; unfold median; simp only; omega⟩
set_option maxRecDepth 100000 in
set_option maxHeartbeats 2000000 in
theorem adj_g (S : Sgt enc k lt g lb sf sb blk n w0 d0) (a c v : Nat) (d : Array α) (w : World) (hw : SWK enc k w0 blk 0 d w) (hl : d.size = n) (ha : 1 ≤ a) (hb : a + 1 < n) (hc : Cnt w c v) (hcb : w0.heap.size ≤ c) (hv : v ≤ 1000) :
    Calls Try.prog 128 #[.agg #[.func (.func g) #[] lb, .func (.func sf) #[] sb], .int .i64 a, .pointer (some ⟨c, 0, none⟩)] w fun e w' => e = .returned (.int .i64 (medianAdjacent lt d a v).1) ∧ SWK enc k w0 blk 0 d w' ∧ Cnt w' c (medianAdjacent lt d a v).2 ∧ Tch (· = c) w w' := by
  have hsz := S.sz
  obtain ⟨W, hW⟩ : ∃ W, W = w.alloc (.cells #[(.func (.func g) #[] lb), (.func (.func sf) #[] sb)] 154) := ⟨_, rfl⟩
  have hT0 : Tch (· = c) w W := by rw [hW]; exact tch_grw _ ((Grw.refl w).alloc _)
  obtain ⟨x0, x1⟩ := box_new w 154 (.func (.func g) #[] lb) (.func (.func sf) #[] sb)
  rw [← hW] at x0 x1
  have hs0 : SWK enc k w0 blk 0 d W := by rw [hW]; exact hw.alloc _
  have hc0 : Cnt W c v := hc.tch (T := Non) (by rw [hW]; exact tch_grw Non ((Grw.refl w).alloc _)) (fun h => h)
  have C1 := med_g S (a - 1) a (a + 1) c v d W hs0 hl (by omega) (by omega) hb hc0 hcb hv
  rw [show ((a - 1 : Nat) : Int) = (a : Int) - 1 by omega, show ((a + 1 : Nat) : Int) = (a : Int) + 1 by omega] at C1
  have HW := Lib.hid hW
  clear hW hw hc hs0 hc0
  go_enter Try.func128, Try.ntmps128
  go_upto_region 1 with fail
  rw [← HW.out]
  go_wp2_with fail
  refine C1.mono ?_
  rintro e w1 ⟨rfl, hs1, hc1, ht1⟩
  clear C1 x0 x1
  go_wp2
  go_ret
  exact ⟨rfl, hs1, hc1, hT0.trans ht1⟩
end Go.Proofs.Ytpbgccidhpfmgaa
