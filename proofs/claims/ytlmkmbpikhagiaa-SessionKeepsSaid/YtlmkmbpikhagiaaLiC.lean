/- A listener's NewListener, Muxes, Sessions and Tick.
 Conditions: those stated. -/
import Derived.Test.YtlmkmbpikhagiaaLiB
namespace Go.Proofs.Ytlmkmbpikhagiaa
open Go Go.RowKit Go.Lib
set_option linter.unusedVariables false
set_option linter.unusedSimpArgs false

theorem SV.load {W : World} {q : Nat} {x : SV} (h : W.heap[q]? = some (.cells #[.int .i64 x.boot, .int .i64 x.heard, .slice x.a x.n x.c] tyE (0, 0))) : W.cell? ⟨q, 0, none⟩ = some (.int .i64 x.boot) ∧ W.cell? ⟨q, 1, none⟩ = some (.int .i64 x.heard) ∧ W.cell? ⟨q, 2, none⟩ = some (.slice x.a x.n x.c) :=
  ⟨(cell_of_row W q 0 _ _ _ h).trans rfl, (cell_of_row W q 1 _ _ _ h).trans rfl, (cell_of_row W q 2 _ _ _ h).trans rfl⟩
theorem tick1_c (x : SV) (now : Int) (q : Nat) (W : World) (hq : W.cell? ⟨q, 0, none⟩ = some (.int .i64 now)) (hh : IsTm x.heard) :
    Calls Try.prog 44 (#[x.v] ++ #[.pointer (some ⟨q, 0, none⟩)]) W fun r w' => r = .returned (.bool (decide (x.heard + 12 < now))) ∧ Below W.heap.size W w' := by
  have e : (#[x.v] ++ #[.pointer (some ⟨q, 0, none⟩)] : Array Value) = #[.agg #[.int .i64 x.boot, .int .i64 x.heard, .slice x.a x.n x.c], .pointer (some ⟨q, 0, none⟩)] := rfl
  rw [e]
  have hw : ∀ [Inhabited Nat], IntKind.i64.wrap (x.heard + 12) = x.heard + 12 := by intro _; exact IntWalk.i64_in _ (by unfold IsTm at hh; omega)
  have hb1 : -9223372036854775808 ≤ x.heard + 12 ∧ x.heard + 12 ≤ 9223372036854775807 := by unfold IsTm at hh; omega
  obtain ⟨W2, hW2⟩ : ∃ W2, W2 = W.alloc (.cells #[.int .i64 x.boot, .int .i64 x.heard, .slice x.a x.n x.c] tyE) := ⟨_, rfl⟩
  have HB := Lib.hid (show Below W.heap.size W W2 by rw [hW2]; exact bl_al (Below.refl _ _) _)
  have hq2 : W2.heap[W.heap.size]? = some (.cells #[.int .i64 x.boot, .int .i64 x.heard, .slice x.a x.n x.c] tyE (0, 0)) := by rw [hW2]; exact heap_alloc_new _ _
  obtain ⟨y0, y1, y2⟩ := SV.load hq2
  have c0 := (HB.out.cell (p := ⟨q, 0, none⟩) (block_lt_of_cell hq)).trans hq
  have HW := Lib.hid hW2
  obtain ⟨h, hhe⟩ : ∃ h, h = x.heard := ⟨_, rfl⟩
  clear hq2 hW2 hq e
  go_enter Try.func44, Try.ntmps44
  go_upto_region 1 with fail
  rw [← HW.out]
  go_wp2
  go_ret
  exact ⟨rfl, HB.out⟩
theorem muxes1_c (x : SV) (vips : List Int) (vip : Int) (q : Nat) (W : World) (hq : W.cell? ⟨q, 0, none⟩ = some (.int .u32 vip)) (hI : InA W x.a x.n x.c vips) (hn : x.n ≤ 4611686018427387904) :
    Calls Try.prog 46 (#[x.v] ++ #[.pointer (some ⟨q, 0, none⟩)]) W fun r w' => r = .returned (.bool (decide (vip ∈ vips))) ∧ Below W.heap.size W w' := by
  have e : (#[x.v] ++ #[.pointer (some ⟨q, 0, none⟩)] : Array Value) = #[.agg #[.int .i64 x.boot, .int .i64 x.heard, .slice x.a x.n x.c], .pointer (some ⟨q, 0, none⟩)] := rfl
  rw [e]
  obtain ⟨W2, hW2⟩ : ∃ W2, W2 = W.alloc (.cells #[.int .i64 x.boot, .int .i64 x.heard, .slice x.a x.n x.c] tyE) := ⟨_, rfl⟩
  have HB := Lib.hid (show Below W.heap.size W W2 by rw [hW2]; exact bl_al (Below.refl _ _) _)
  have hq2 : W2.heap[W.heap.size]? = some (.cells #[.int .i64 x.boot, .int .i64 x.heard, .slice x.a x.n x.c] tyE (0, 0)) := by rw [hW2]; exact heap_alloc_new _ _
  obtain ⟨y0, y1, y2⟩ := SV.load hq2
  have c0 := (HB.out.cell (p := ⟨q, 0, none⟩) (block_lt_of_cell hq)).trans hq
  have CC := Lib.hid (contains_a vip vips x.a x.n x.c W2 (hI.below HB.out) hn)
  have HW := Lib.hid hW2
  clear hq2 hW2 hq e hI
  go_enter Try.func46, Try.ntmps46
  go_upto_region 1 with fail
  rw [← HW.out]
  go_wp2_with fail
  refine CC.out.mono ?_
  rintro r w1 ⟨rfl, rfl⟩
  go_wp2
  go_ret
  exact ⟨rfl, HB.out⟩
theorem sess1_c (x : SV) (W : World) :
    Calls Try.prog 48 (#[x.v] ++ #[]) W fun r w' => r = .returned (.bool true) ∧ Below W.heap.size W w' := by
  have e : (#[x.v] ++ #[] : Array Value) = #[.agg #[.int .i64 x.boot, .int .i64 x.heard, .slice x.a x.n x.c]] := rfl
  rw [e]
  have HB := Lib.hid (bl_al (Below.refl W.heap.size W) (.cells #[.int .i64 x.boot, .int .i64 x.heard, .slice x.a x.n x.c] tyE))
  go_enter Try.func48, Try.ntmps48
  go_wp2
  go_ret
  exact ⟨rfl, HB.out⟩
/-- Who announces a vip; who has a session; who is gone. -/
def anP (vip : Int) (e : Se) : Bool := decide (vip ∈ e.vips)
def goneP (now : Int) (e : Se) : Bool := decide (e.heard + 12 < now)
def muxesOf (P : Se → Bool) (l : List Se) : List Int := (l.filter P).map (·.mux)
theorem rowS_in {W : World} {F : Nat → Prop} {B : Nat} {x : SV} {e : Se} (h : RowS W F B x e) : InA W x.a x.n x.c e.vips := own_inA h.2.2.2.1 h.2.2.1.symm h.2.2.2.2.1
theorem muxes_c (vip : Int) (F : Nat → Prop) (B p : Nat) (l : List Se) (w : World) (hL : LiS w F B p l) (hfew : ∀ e ∈ l, e.vips.length ≤ 1048576) :
    Calls Try.prog 27 #[.pointer (some ⟨p, 0, none⟩), .int .u32 vip] w (GotI w (muxesOf (anP vip) l)) := by
  have eg : ∀ args w, (callFunc 46 args).run Try.prog w = .ok (.enter 46 args) w := enters_of Try.func46 (by kernel_rfl) rfl
  obtain ⟨W, hW⟩ : ∃ W, W = w.alloc (.cells #[.int .u32 vip] 44) := ⟨_, rfl⟩
  have hB : Below w.heap.size w W := by rw [hW]; exact bl_al (Below.refl _ _) _
  have hq : W.cell? ⟨w.heap.size, 0, none⟩ = some (.int .u32 vip) := (cell_of_row W _ 0 _ _ _ (by rw [hW]; exact heap_alloc_new _ _)).trans rfl
  have CH := Lib.hid (having_c (anP vip) 46 #[.pointer (some ⟨w.heap.size, 0, none⟩)] eg F B p l W (hL.below hB) (fun W2 x e hb he hr => by
    have h := muxes1_c x e.vips vip w.heap.size W2 ((hb.cell (p := ⟨w.heap.size, 0, none⟩) (block_lt_of_cell hq)).trans hq) (rowS_in hr) (by rw [hr.2.2.1]; have := hfew e he; omega)
    exact h))
  have HB := Lib.hid hB
  have HW := Lib.hid hW
  clear eg hW hB hq hL hfew
  go_enter Try.func27, Try.ntmps27
  go_upto_region 1 with fail
  rw [← HW.out]
  go_wp2_with fail
  refine CH.out.mono ?_
  rintro r w1 ⟨a1, n1, c1, rfl, hn1, ho1, hb1⟩
  have HN1 := Lib.hid hn1
  have HO1 := Lib.hid ho1
  clear hn1 ho1
  go_wp2
  go_ret
  exact ⟨a1, n1, c1, rfl, HN1.out, own_base HO1.out HB.out.size, bl_tr HB.out hb1⟩
theorem muxes_n (vip : Int) (w : World) : Calls Try.prog 27 #[.pointer none, .int .u32 vip] w fun e w' => e = .returned (.slice none 0 0) ∧ Below w.heap.size w w' := by
  have HB := Lib.hid (bl_al (Below.refl w.heap.size w) (.cells #[.int .u32 vip] 44))
  go_enter Try.func27, Try.ntmps27
  go_wp2_with fail
  refine (having_n _ _).mono ?_
  rintro r w1 ⟨rfl, rfl⟩
  go_wp2
  go_ret
  exact ⟨rfl, HB.out⟩
theorem sess_c (F : Nat → Prop) (B p : Nat) (l : List Se) (w : World) (hL : LiS w F B p l) :
    Calls Try.prog 28 #[.pointer (some ⟨p, 0, none⟩)] w (GotI w (muxesOf (fun _ => true) l)) := by
  have eg : ∀ args w, (callFunc 48 args).run Try.prog w = .ok (.enter 48 args) w := enters_of Try.func48 (by kernel_rfl) rfl
  have CH := Lib.hid (having_c (fun _ => true) 48 #[] eg F B p l w hL (fun W2 x e hb he hr => sess1_c x W2))
  clear eg hL
  go_enter Try.func28, Try.ntmps28
  go_wp2_with fail
  refine CH.out.mono ?_
  rintro r w1 ⟨a1, n1, c1, rfl, h⟩
  have H1 := Lib.hid h
  clear h
  go_wp2
  go_ret
  exact ⟨a1, n1, c1, rfl, H1.out⟩
theorem sess_n (w : World) : Calls Try.prog 28 #[.pointer none] w fun e w' => e = .returned (.slice none 0 0) ∧ w = w' := by
  go_enter Try.func28, Try.ntmps28
  go_wp2_with fail
  refine (having_n _ _).mono ?_
  rintro r w1 ⟨rfl, rfl⟩
  go_wp2
  go_ret
  exact ⟨rfl, rfl⟩
theorem newL_c (w : World) (B : Nat) (hB : B ≤ w.heap.size) : Calls Try.prog 22 #[] w fun e w' => ∃ p, e = .returned (.pointer (some ⟨p, 0, none⟩)) ∧ LiS w' (fun k => w.heap.size ≤ k ∧ k < w'.heap.size) B p [] ∧ Below w.heap.size w w' := by
  obtain ⟨W, hW⟩ : ∃ W, W = (w.alloc (.map #[] 0)).alloc (.cells #[.map (some w.heap.size)] 85) := ⟨_, rfl⟩
  have s1 : (w.alloc (.map #[] 0)).heap.size = w.heap.size + 1 := by simp
  have sW : W.heap.size = w.heap.size + 2 := by rw [hW]; simp
  have HBW := Lib.hid (show Below w.heap.size w W by rw [hW]; exact bl_al (bl_al (Below.refl _ _) _) _)
  have HL : Hid (LiS W (fun k => w.heap.size ≤ k ∧ k < W.heap.size) B (w.heap.size + 1) []) := Lib.hid ⟨⟨by omega, by omega⟩, fun k hk => ⟨by omega, hk.2⟩, .nil, (fun e he => by cases he), w.heap.size, by rw [hW, ← s1]; exact heap_alloc_new _ _, by
    have h1 := MapS.new (F := fun k => w.heap.size ≤ k ∧ k < W.heap.size) w B ⟨Nat.le_refl _, by omega⟩
    have h2 := h1.tch (tch_new (bl_al (Below.refl _ _) (.cells #[.map (some w.heap.size)] 85))) (fun _ _ h => h)
    rw [← hW] at h2
    exact h2⟩
  have HW := Lib.hid hW
  have hmm := @run_makeMap Try.prog
  clear hW s1 sW
  go_enter Try.func22, Try.ntmps22
  go_wp2
  go_ret
  rw [← HW.out]
  exact ⟨w.heap.size + 1, by simp, HL.out, HBW.out⟩
end Go.Proofs.Ytlmkmbpikhagiaa
