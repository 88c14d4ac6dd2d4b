/- Contracts of the document's Good of a flow and TakeFlow. Conditions: the row came in, of at most 2^44 numbers. -/
import Derived.Test.YtbfcgnggcgodhaaMgF
import Derived.Test.YtbfcgnggcgodhaaQStep
import Derived.Deep.RegionHeld3
import Derived.Deep.CutRange
namespace Go.Proofs.Ytbfcgnggcgodhaa
open Go Go.RowKit
set_option linter.unusedVariables false
set_option linter.unusedSimpArgs false

def FlowIn (pr sp dp : Int) : Prop := (pr = 6 ∨ pr = 17) ∧ (0 ≤ sp ∧ sp ≤ 65535) ∧ (0 ≤ dp ∧ dp ≤ 65535)
set_option maxRecDepth 100000 in
theorem goodF_yes (pr s sp d dp : Int) (h : FlowIn pr sp dp) (w : World) : Calls Try.prog 42 #[fv pr s sp d dp] w fun e w' => e = .returned (.bool true) ∧ Below w.heap.size w w' := by
  obtain ⟨hp, hs, hd⟩ := h
  have s1 : (0 : Int) ≤ sp := hs.1
  have s2 : sp < 65536 := by omega
  have d1 : (0 : Int) ≤ dp := hd.1
  have d2 : dp < 65536 := by omega
  have hq : ((pr == 6) = true) ∨ ((pr == 6) = false ∧ (pr == 17) = true) := by
    rcases hp with h | h
    · left; simp [h]
    · right; simp [h]
  clear hp hs hd
  rcases hq with q1 | ⟨q1, q2⟩
  all_goals
    go_enter Try.func42, Try.ntmps42
    go_wp2
    go_ret
    exact ⟨rfl, bl_al (Below.refl _ _) _⟩
set_option maxRecDepth 100000 in
theorem goodF_no (pr s sp d dp : Int) (h : ¬ FlowIn pr sp dp) (w : World) : Calls Try.prog 42 #[fv pr s sp d dp] w fun e w' => e = .returned (.bool false) ∧ Below w.heap.size w w' := by
  by_cases hp : pr = 6 ∨ pr = 17
  · have hq : ((pr == 6) = true) ∨ ((pr == 6) = false ∧ (pr == 17) = true) := by
      rcases hp with h | h
      · left; simp [h]
      · right; simp [h]
    have hr : (¬ 0 ≤ sp) ∨ (0 ≤ sp ∧ ¬ sp < 65536) ∨ (0 ≤ sp ∧ sp < 65536 ∧ ¬ 0 ≤ dp) ∨ (0 ≤ sp ∧ sp < 65536 ∧ 0 ≤ dp ∧ ¬ dp < 65536) := by
      unfold FlowIn at h
      omega
    clear hp h
    rcases hq with q1 | ⟨q1, q2⟩ <;> rcases hr with s1 | ⟨s1, s2⟩ | ⟨s1, s2, d1⟩ | ⟨s1, s2, d1, d2⟩
    all_goals
      go_enter Try.func42, Try.ntmps42
      go_wp2
      go_ret
      exact ⟨rfl, bl_al (Below.refl _ _) _⟩
  · have q1 : (pr == 6) = false := by simp; omega
    have q2 : (pr == 17) = false := by simp; omega
    clear hp h
    go_enter Try.func42, Try.ntmps42
    go_wp2
    go_ret
    exact ⟨rfl, bl_al (Below.refl _ _) _⟩

abbrev zeroFC : Array Value := #[.int .i64 0, .int .u32 0, .int .i64 0, .int .u32 0, .int .i64 0]
structure FvAt (w : World) (b : Nat) (pr s sp d dp : Int) : Prop where
  c0 : w.cell? ⟨b, 0, none⟩ = some (.int .i64 pr)
  c1 : w.cell? ⟨b, 1, none⟩ = some (.int .u32 s)
  c2 : w.cell? ⟨b, 2, none⟩ = some (.int .i64 sp)
  c3 : w.cell? ⟨b, 3, none⟩ = some (.int .u32 d)
  c4 : w.cell? ⟨b, 4, none⟩ = some (.int .i64 dp)
theorem FvAt.of {w : World} {b : Nat} {pr s sp d dp : Int} (h : w.heap[b]? = some (.cells #[.int .i64 pr, .int .u32 s, .int .i64 sp, .int .u32 d, .int .i64 dp] 55 (0, 0))) : FvAt w b pr s sp d dp := by
  constructor <;> (rw [cell_of_row w b _ _ _ _ h]; rfl)
theorem FvAt.later {w w' : World} {b : Nat} {pr s sp d dp : Int} (h : FvAt w b pr s sp d dp) (hb : Below w.heap.size w w') : FvAt w' b pr s sp d dp :=
  ⟨cell_later hb h.c0, cell_later hb h.c1, cell_later hb h.c2, cell_later hb h.c3, cell_later hb h.c4⟩

abbrev FvS (w5 : World) (q : Nat) (pr s sp d dp : Int) (wx : World) : Prop :=
  wx.cell? ⟨q, 0, none⟩ = some (.int .i64 pr) ∧ wx.cell? ⟨q, 1, none⟩ = some (.int .u32 s) ∧ wx.cell? ⟨q, 2, none⟩ = some (.int .i64 sp) ∧ wx.cell? ⟨q, 3, none⟩ = some (.int .u32 d) ∧ wx.cell? ⟨q, 4, none⟩ = some (.int .i64 dp) ∧ Below w5.heap.size w5 wx
theorem fvs_mk {w5 wx : World} {q : Nat} {pr s sp d dp : Int} (g : FvAt wx q pr s sp d dp) (hb : Below w5.heap.size w5 wx) : FvS w5 q pr s sp d dp wx := ⟨g.c0, g.c1, g.c2, g.c3, g.c4, hb⟩
theorem fvs_store {w w7 : World} {q q0 : Nat} {pr s sp d dp : Int} (u0 u1 u2 u3 u4 : Value) (g : FvAt w7 q pr s sp d dp) (hne : q ≠ q0) (hq : w.heap.size ≤ q0) (hb : Below w.heap.size w w7) :
    FvS w q pr s sp d dp (((((w7.setCell ⟨q0, 0, none⟩ u0).setCell ⟨q0, 1, none⟩ u1).setCell ⟨q0, 2, none⟩ u2).setCell ⟨q0, 3, none⟩ u3).setCell ⟨q0, 4, none⟩ u4) := by
  have e : (((((w7.setCell ⟨q0, 0, none⟩ u0).setCell ⟨q0, 1, none⟩ u1).setCell ⟨q0, 2, none⟩ u2).setCell ⟨q0, 3, none⟩ u3).setCell ⟨q0, 4, none⟩ u4).heap[q]? = w7.heap[q]? := by
    rw [Below.heap_setCell _ _ _ _ hne, Below.heap_setCell _ _ _ _ hne, Below.heap_setCell _ _ _ _ hne, Below.heap_setCell _ _ _ _ hne, Below.heap_setCell _ _ _ _ hne]
  have c : ∀ o v, w7.cell? ⟨q, o, none⟩ = some v → (((((w7.setCell ⟨q0, 0, none⟩ u0).setCell ⟨q0, 1, none⟩ u1).setCell ⟨q0, 2, none⟩ u2).setCell ⟨q0, 3, none⟩ u3).setCell ⟨q0, 4, none⟩ u4).cell? ⟨q, o, none⟩ = some v := fun o v h => (World.cell?_of_block (a := ⟨q, o, none⟩) e).trans h
  exact ⟨c _ _ g.c0, c _ _ g.c1, c _ _ g.c2, c _ _ g.c3, c _ _ g.c4, ((((hb.setCell (p := ⟨q0, 0, none⟩) hq u0).setCell (p := ⟨q0, 1, none⟩) hq u1).setCell (p := ⟨q0, 2, none⟩) hq u2).setCell (p := ⟨q0, 3, none⟩) hq u3).setCell (p := ⟨q0, 4, none⟩) hq u4⟩
theorem in_restI {w : World} {b off n c : Nat} {l : List Int} (h : InI w (some ⟨b, off, none⟩) n c l) (k : Nat) (hk : k ≤ n) : InI w (some ⟨b, off + k, none⟩) (n - k) (c - k) (l.drop k) :=
  ⟨by rw [List.length_drop, h.len], by have := h.room; omega, (fun e => by cases e), by
    have h1 := h.here.sub h.len k n hk (Nat.le_refl _) (n - k) (c - k) (off + k) rfl rfl
    rwa [List.take_of_length_le (by rw [List.length_drop, h.len]; omega)] at h1, fun x hx => h.fit x (List.mem_of_mem_drop hx)⟩
set_option maxRecDepth 100000 in
set_option maxHeartbeats 2000000 in
theorem refTake_early (l : List Int) (a : Option Addr) (n c : Nat) (w : World) (hI : InI w a n c l) (h : n < 5 ∨ 5 ≤ n ∧ ¬ ((0 ≤ l.getD 1 0 ∧ l.getD 1 0 ≤ 4294967295) ∧ (0 ≤ l.getD 3 0 ∧ l.getD 3 0 ≤ 4294967295))) :
    Calls Try.prog 26 #[.slice a n c] w (GotT w (fv 0 0 0 0 0) [] (.int .i64 3)) := by
  obtain ⟨W, hW⟩ : ∃ W, W = w.alloc (.cells zeroFC 55) := ⟨_, rfl⟩
  have HB : Hid (Below w.heap.size w W) := Lib.hid (by rw [hW]; exact bl_al (Below.refl _ _) _)
  have hz : W.heap[w.heap.size]? = some (.cells zeroFC 55 (0, 0)) := by rw [hW]; exact heap_alloc_new _ _
  have zf := fun o => frozen_of_row W w.heap.size o _ _ hz
  obtain ⟨z0, z1, z2, z3, z4⟩ := FvAt.of hz
  have HW := Lib.hid hW
  have HI := Lib.hid (hI.below HB.out)
  obtain ⟨q0, hq0⟩ : ∃ q, q = w.heap.size := ⟨_, rfl⟩
  have HQ0 := Lib.hid hq0
  rw [← hq0] at z0 z1 z2 z3 z4 zf
  have tail : ∀ X : World, (X = ((((W.setCell ⟨q0, 0, none⟩ (.int .i64 0)).setCell ⟨q0, 1, none⟩ (.int .u32 0)).setCell ⟨q0, 2, none⟩ (.int .i64 0)).setCell ⟨q0, 3, none⟩ (.int .u32 0)).setCell ⟨q0, 4, none⟩ (.int .i64 0)) → GotT w (fv 0 0 0 0 0) [] (.int .i64 3) (.returned (.tuple #[fv 0 0 0 0 0, .slice none 0 0, .int .i64 3])) X := fun X hX => by
    refine ⟨none, 0, 0, rfl, rfl, World.ownsRow_nil _ _ _ _, ?_⟩
    rw [hX, HQ0.out]
    iterate 5 (refine Below.setCell ?_ (by first | exact Nat.le_refl _ | simp) _)
    exact HB.out
  have HT := Lib.hid tail
  clear hI hW hz hq0 tail
  by_cases h5 : n < 5
  · have i5 : (n : Int) < 5 := by omega
    clear h
    go_enter Try.func26, Try.ntmps26
    go_upto_region 2 with fail
    rw [← HW.out, ← HQ0.out]
    clear HW
    go_wp2
    exact bodyPost_ret (v := .tuple #[fv 0 0 0 0 0, .slice none 0 0, .int .i64 3]) (by simp [results, Try.results26, go_sem, z0, z1, z2, z3, z4]) rfl (HT.out _ rfl)
  · obtain ⟨b, off, rfl⟩ := in_blockI HI.out (by omega)
    have c1 := in_cellI HI.out 1 (by omega)
    have c3 := in_cellI HI.out 3 (by omega)
    obtain ⟨x, hx⟩ : ∃ x, x = l.getD 1 0 := ⟨_, rfl⟩
    obtain ⟨y, hy⟩ : ∃ x, x = l.getD 3 0 := ⟨_, rfl⟩
    rw [← hx] at c1 h
    rw [← hy] at c3 h
    have i5 : ¬ ((n : Int) < 5) := by omega
    have i1 : (1 : Int) < (n : Int) := by omega
    have i3 : (3 : Int) < (n : Int) := by omega
    have hcase : x < 0 ∨ ¬ x < 0 ∧ 4294967295 < x ∨ ¬ x < 0 ∧ ¬ 4294967295 < x ∧ y < 0 ∨ ¬ x < 0 ∧ ¬ 4294967295 < x ∧ ¬ y < 0 ∧ 4294967295 < y := by omega
    clear h h5 hx hy
    rcases hcase with q1 | ⟨q1, q2⟩ | ⟨q1, q2, q3⟩ | ⟨q1, q2, q3, q4⟩
    all_goals
      go_enter Try.func26, Try.ntmps26
      go_upto_region 2 with fail
      rw [← HW.out, ← HQ0.out]
      clear HW
      go_wp2
      exact bodyPost_ret (v := .tuple #[fv 0 0 0 0 0, .slice none 0 0, .int .i64 3]) (by simp [results, Try.results26, go_sem, z0, z1, z2, z3, z4]) rfl (HT.out _ rfl)

set_option maxRecDepth 100000 in
set_option maxHeartbeats 4000000 in
theorem refTake_main (l : List Int) (F : Value) (r : List Int) (E : Value) (f : Int) (b off n c : Nat) (w : World) (hI : InI w (some ⟨b, off, none⟩) n c l) (h5 : 5 ≤ n) (hn : n ≤ 17592186043904) (h1 : 0 ≤ l.getD 1 0 ∧ l.getD 1 0 ≤ 4294967295) (h3 : 0 ≤ l.getD 3 0 ∧ l.getD 3 0 ≤ 4294967295) (ho : TOut l F r E f) :
    Calls Try.prog 26 #[.slice (some ⟨b, off, none⟩) n c] w (GotT w F r (.int .i64 f)) := by
  obtain ⟨j0, hj0, hy0, hy1, hy2⟩ := info_parts info3
  obtain ⟨W, hW⟩ : ∃ W, W = w.alloc (.cells zeroFC 55) := ⟨_, rfl⟩
  have HB : Hid (Below w.heap.size w W) := Lib.hid (by rw [hW]; exact bl_al (Below.refl _ _) _)
  have hz : W.heap[w.heap.size]? = some (.cells zeroFC 55 (0, 0)) := by rw [hW]; exact heap_alloc_new _ _
  have HZ := Lib.hid hz
  have HW := Lib.hid hW
  have hIW := hI.below HB.out
  have HI := Lib.hid hIW
  have hcap := hI.room
  have c0 : W.cell? ⟨b, off, none⟩ = some (.int .i64 (l.getD 0 0)) := in_cellI hIW 0 (by omega)
  have c1 := in_cellI hIW 1 (by omega)
  have c2 := in_cellI hIW 2 (by omega)
  have c3 := in_cellI hIW 3 (by omega)
  have c4 := in_cellI hIW 4 (by omega)
  have hno : ∀ P : Prop, (¬ FlowIn (l.getD 0 0) (l.getD 2 0) (l.getD 4 0) ∨ P) → True := fun _ _ => trivial
  clear hno
  have htok : TOk l ↔ FlowIn (l.getD 0 0) (l.getD 2 0) (l.getD 4 0) := ⟨fun h => ⟨h.2.2.2.1, h.2.2.2.2.1, h.2.2.2.2.2⟩, fun h => ⟨by rw [hI.len]; exact h5, h1, h3, h.1, h.2.1, h.2.2⟩⟩
  have HTK := Lib.hid htok
  have HO := Lib.hid ho
  obtain ⟨x0, hx0⟩ : ∃ x, x = l.getD 0 0 := ⟨_, rfl⟩
  obtain ⟨x1, hx1⟩ : ∃ x, x = l.getD 1 0 := ⟨_, rfl⟩
  obtain ⟨x2, hx2⟩ : ∃ x, x = l.getD 2 0 := ⟨_, rfl⟩
  obtain ⟨x3, hx3⟩ : ∃ x, x = l.getD 3 0 := ⟨_, rfl⟩
  obtain ⟨x4, hx4⟩ : ∃ x, x = l.getD 4 0 := ⟨_, rfl⟩
  rw [← hx0] at c0
  rw [← hx1] at c1 h1
  rw [← hx2] at c2
  rw [← hx3] at c3 h3
  rw [← hx4] at c4
  have HX := Lib.hid (show x0 = l.getD 0 0 ∧ x1 = l.getD 1 0 ∧ x2 = l.getD 2 0 ∧ x3 = l.getD 3 0 ∧ x4 = l.getD 4 0 from ⟨hx0, hx1, hx2, hx3, hx4⟩)
  obtain ⟨h10, h11⟩ := h1
  obtain ⟨h30, h31⟩ := h3
  have i5 : ¬ ((n : Int) < 5) := by omega
  have i0 : (0 : Int) < (n : Int) := by omega
  have i0n : 0 < n := by omega
  have i1 : (1 : Int) < (n : Int) := by omega
  have i2 : (2 : Int) < (n : Int) := by omega
  have i3 : (3 : Int) < (n : Int) := by omega
  have i4 : (4 : Int) < (n : Int) := by omega
  have g1 : ¬ x1 < 0 := by omega
  have g2 : ¬ 4294967295 < x1 := by omega
  have g3 : ¬ x3 < 0 := by omega
  have g4 : ¬ 4294967295 < x3 := by omega
  have v1 : ∀ [Inhabited Nat], IntKind.u32.wrap x1 = x1 := by intro _; rw [IntKind.wrap_u32']; omega
  have v3 : ∀ [Inhabited Nat], IntKind.u32.wrap x3 = x3 := by intro _; rw [IntKind.wrap_u32']; omega
  have HLN := Lib.hid hI.len
  obtain ⟨q0, hq0⟩ : ∃ q, q = w.heap.size := ⟨_, rfl⟩
  have HQ0 := Lib.hid hq0
  have hlb := World.block_lt_of_cell? _ _ c0
  clear hI hIW hW hz htok ho hx0 hx1 hx2 hx3 hx4 hq0
  have hne := World.new_ne W _ c0
  have hne1 := World.new_ne W _ c1
  have hne2 := World.new_ne W _ c2
  have hne3 := World.new_ne W _ c3
  have hne4 := World.new_ne W _ c4
  go_enter Try.func26, Try.ntmps26
  go_upto_region 2 with fail
  rw [← HW.out, ← HQ0.out]
  clear HW
  go_wp2_with fail
  have hS0 : (W.drew.cell? ⟨b, off, none⟩ = some (.int .i64 x0) ∧ W.drew.cell? ⟨b, off + 1, none⟩ = some (.int .i64 x1) ∧ W.drew.cell? ⟨b, off + 2, none⟩ = some (.int .i64 x2) ∧ W.drew.cell? ⟨b, off + 3, none⟩ = some (.int .i64 x3) ∧ W.drew.cell? ⟨b, off + 4, none⟩ = some (.int .i64 x4)) := ⟨c0, c1, c2, c3, c4⟩
  go_region_held3 (fun wx => wx.cell? ⟨b, off, none⟩ = some (.int .i64 x0) ∧ wx.cell? ⟨b, off + 1, none⟩ = some (.int .i64 x1) ∧ wx.cell? ⟨b, off + 2, none⟩ = some (.int .i64 x2) ∧ wx.cell? ⟨b, off + 3, none⟩ = some (.int .i64 x3) ∧ wx.cell? ⟨b, off + 4, none⟩ = some (.int .i64 x4) ) (first | (with_reducible exact hS0) | go_keep | fail) (fail)
  all_goals
    have HFX : Hid (FvAt (W.alloc (.cells #[.int .i64 x0, .int .u32 x1, .int .i64 x2, .int .u32 x3, .int .i64 x4] 55)).drew W.heap.size x0 x1 x2 x3 x4) := Lib.hid (FvAt.of (heap_alloc_new W _))
    have HBX := Lib.hid ((bl_al HB.out (.cells #[.int .i64 x0, .int .u32 x1, .int .i64 x2, .int .u32 x3, .int .i64 x4] 55)).drew)
    have HIX := Lib.hid (HI.out.below ((bl_al (Below.refl W.heap.size W) (.cells #[.int .i64 x0, .int .u32 x1, .int .i64 x2, .int .u32 x3, .int .i64 x4] 55)).drew))
    have HZX : Hid ((W.alloc (.cells #[.int .i64 x0, .int .u32 x1, .int .i64 x2, .int .u32 x3, .int .i64 x4] 55)).drew.heap[w.heap.size]? = some (.cells zeroFC 55 (0, 0))) := Lib.hid ((heap_alloc_old W _ (lt_of_block HZ.out)).trans HZ.out)
    obtain ⟨X, hX⟩ : ∃ X, X = (W.alloc (.cells #[.int .i64 x0, .int .u32 x1, .int .i64 x2, .int .u32 x3, .int .i64 x4] 55)).drew := ⟨_, rfl⟩
    obtain ⟨q6, hq6⟩ : ∃ q, q = W.heap.size := ⟨_, rfl⟩
    have HNQ : Hid (q6 ≠ w.heap.size) := Lib.hid (by have := lt_of_block HZ.out; omega)
    have HQL : Hid (w.heap.size ≤ q0) := Lib.hid (by rw [HQ0.out]; exact Nat.le_refl _)
    rw [← hX] at HFX HBX HIX HZX
    rw [← hq6] at HFX
    rw [← hX, ← hq6]
    clear hX hq6 hS0 c0 c1 c2 c3 c4 hne hne1 hne2 hne3 hne4 HZ HB HI hlb v1 v3 g1 g2 g3 g4
    obtain ⟨e0, e1, e2, e3, e4⟩ := HFX.out
    by_cases hfi : FlowIn x0 x2 x4
    · have CG := Lib.hid (goodF_yes x0 x1 x2 x3 x4 hfi X)
      have htk : TOk l := HTK.out.2 (by rw [← HX.out.1, ← HX.out.2.2.1, ← HX.out.2.2.2.2]; exact hfi)
      have HTOK := Lib.hid htk
      clear hfi htk
      go_wp2_with fail
      refine CG.out.mono ?_
      rintro e w5 ⟨rfl, hb⟩
      have HF5 := Lib.hid (HFX.out.later hb)
      have HB5 := Lib.hid (bl_tr HBX.out hb)
      have HI5 := Lib.hid (HIX.out.below hb)
      have HZ5 := Lib.hid ((hb.block _ (lt_of_block HZX.out)).trans HZX.out)
      have HZU : Hid (∀ U, Below w5.heap.size w5 U → U.heap[q0]? = some (.cells zeroFC 55 (0, 0))) := Lib.hid (fun U hU => by rw [HQ0.out]; exact (hU.block _ (lt_of_block HZ5.out)).trans HZ5.out)
      clear hb HFX HBX HIX HZX CG e0 e1 e2 e3 e4
      have hS0 : FvS w q6 x0 x1 x2 x3 x4 w5.drew := fvs_mk (HF5.out.later (Below.refl _ _).drew) HB5.out.drew
      have hS1 : FvS w q6 x0 x1 x2 x3 x4 (w5.drew.alloc (.cells #[] 3)) := fvs_mk (HF5.out.later (bl_al (Below.refl _ _).drew _)) (bl_al HB5.out.drew _)
      have hS2 : FvS w q6 x0 x1 x2 x3 x4 (w5.alloc (.cells #[] 3)).drew := fvs_mk (HF5.out.later (bl_al (Below.refl _ _) _).drew) (bl_al HB5.out _).drew
      have hq6 : q6 ≠ q0 := by rw [HQ0.out]; exact HNQ.out
      have own0 := Lib.hid (World.ownsRow_made (base := w5.heap.size) (e := 3) (size := 1) w5 #[] 0 (Nat.le_refl _) (by decide) rfl)
      have HBA := Lib.hid ((bl_al (Below.refl w5.heap.size w5) (.cells #[] 3)).drew)
      by_cases hc5 : c = 5
      · have hn5 : n = 5 := by omega
        subst hn5 hc5
        go_wp2_with fail
        go_region_held3 (fun wx => wx.cell? ⟨q6, 0, none⟩ = some (.int .i64 x0) ∧ wx.cell? ⟨q6, 1, none⟩ = some (.int .u32 x1) ∧ wx.cell? ⟨q6, 2, none⟩ = some (.int .i64 x2) ∧ wx.cell? ⟨q6, 3, none⟩ = some (.int .u32 x3) ∧ wx.cell? ⟨q6, 4, none⟩ = some (.int .i64 x4) ∧ Below w.heap.size w wx) (first | (with_reducible exact hS0) | (with_reducible exact hS1) | (with_reducible exact hS2) | (with_reducible exact hSr) | (with_reducible exact fvs_store _ _ _ _ _ hSf hq6 HQL.out hSb) | fail)
          (first | (refine step_append_own rfl (.tmp 60) (.tmp 62) 22 rfl w5.heap.size 3 j0 (.int .i64 0) 1 8 Try.underlying22 hj0 hy0 hy1 hy2 rfl (by decide) _ 0 [] rfl own0.out _ 0 _ [] rfl rfl (by simp) (by simp) (by unfold maxLen; omega) (by omega) (by simp) ?_; intro v7 w7 hown7 hg7; have hgr := HBA.out.grown hg7 (by simp) (fun k hk => by cases hk; exact Nat.le_refl _); have hSf := HF5.out.later hgr; have hSb := bl_tr HB5.out hgr; have hSr := fvs_mk hSf hSb; have hz7 := HZU.out w7 hgr; have zf := fun o => frozen_of_row w7 q0 o _ _ hz7; have zz := FvAt.of hz7; obtain ⟨z0, z1, z2, z3, z4⟩ := zz) | fail)
        all_goals
          rename_i hHeld
          have hO7 : w7.ownsRow w5.heap.size 3 1 v7 0 (i64s (l.drop 5)) := by rw [List.drop_of_length_le (show l.length ≤ 5 by rw [HLN.out]; omega)]; show w7.ownsRow w5.heap.size 3 1 v7 0 []; simpa using hown7
          obtain ⟨a7, c7, rfl⟩ := own_form hO7
          have HO7 := Lib.hid hO7
          have HB7 := Lib.hid (bl_tr HB5.out hgr)
          have hz7' := HZU.out w7 hgr
          clear hown7 hg7 hO7 hgr hz7 hHeld
          go_wp2
          refine bodyPost_ret (v := .tuple #[fv x0 x1 x2 x3 x4, .slice a7 0 c7, .int .i64 0]) (by simp [results, Try.results26, go_sem, z0, z1, z2, z3, z4]) rfl ?_
          rcases HO.out with ⟨_, rfl, rfl, _, rfl⟩ | ⟨h, _⟩
          · refine ⟨a7, 0, c7, by rw [← HX.out.1, ← HX.out.2.1, ← HX.out.2.2.1, ← HX.out.2.2.2.1, ← HX.out.2.2.2.2], by rw [List.length_drop, HLN.out], ?_, ?_⟩
            · have hql : q0 < w5.heap.size := by rw [HQ0.out]; exact lt_of_block HZ5.out
              refine own_base (B := w5.heap.size) ?_ HB5.out.size
              iterate 5 (refine ownsRow_setCell_below ?_ hql _)
              exact HO7.out
            · rw [HQ0.out]
              iterate 5 (refine Below.setCell ?_ (by first | exact Nat.le_refl _ | simp) _)
              exact HB7.out
          · exact absurd HTOK.out h
      · have HR := Lib.hid (in_restI (HI5.out.below HBA.out) 5 h5)
        have i5c : (5 : Int) ≤ (c : Int) := by omega
        have i5n : (5 : Int) ≤ (n : Int) := by omega
        have HRL := Lib.hid (show (i64s (l.drop 5)).length = (n - 5) * 1 by unfold i64s; rw [List.length_map, HR.out.len, Nat.mul_one])
        have HRC := Lib.hid (HR.out.cells ⟨b, off + 5, none⟩ rfl)
        go_wp2_with fail
        go_region_held3 (fun wx => wx.cell? ⟨q6, 0, none⟩ = some (.int .i64 x0) ∧ wx.cell? ⟨q6, 1, none⟩ = some (.int .u32 x1) ∧ wx.cell? ⟨q6, 2, none⟩ = some (.int .i64 x2) ∧ wx.cell? ⟨q6, 3, none⟩ = some (.int .u32 x3) ∧ wx.cell? ⟨q6, 4, none⟩ = some (.int .i64 x4) ∧ Below w.heap.size w wx) (first | (with_reducible exact hS0) | (with_reducible exact hS1) | (with_reducible exact hS2) | (with_reducible exact hSr) | (with_reducible exact fvs_store _ _ _ _ _ hSf hq6 HQL.out hSb) | fail)
          (first | (refine step_append_own rfl (.tmp 60) (.tmp 62) 22 rfl w5.heap.size 3 j0 (.int .i64 0) 1 8 Try.underlying22 hj0 hy0 hy1 hy2 rfl (by decide) _ 0 [] rfl own0.out ⟨b, off + 5, none⟩ (n - 5) (c - 5) (i64s (l.drop 5)) rfl HRL.out HRC.out (i64s_one _) (by unfold maxLen; omega) (by omega) (by simp) ?_; intro v7 w7 hown7 hg7; have hgr := HBA.out.grown hg7 (by simp) (fun k hk => by cases hk; exact Nat.le_refl _); have hSf := HF5.out.later hgr; have hSb := bl_tr HB5.out hgr; have hSr := fvs_mk hSf hSb; have hz7 := HZU.out w7 hgr; have zf := fun o => frozen_of_row w7 q0 o _ _ hz7; have zz := FvAt.of hz7; obtain ⟨z0, z1, z2, z3, z4⟩ := zz) | fail)
        all_goals
          rename_i hHeld
          have hO7 : w7.ownsRow w5.heap.size 3 1 v7 (n - 5) (i64s (l.drop 5)) := by simpa using hown7
          obtain ⟨a7, c7, rfl⟩ := own_form hO7
          have HO7 := Lib.hid hO7
          have HB7 := Lib.hid (bl_tr HB5.out hgr)
          have hz7' := HZU.out w7 hgr
          clear hown7 hg7 hO7 hgr hz7 hHeld
          go_wp2
          refine bodyPost_ret (v := .tuple #[fv x0 x1 x2 x3 x4, .slice a7 (n - 5) c7, .int .i64 0]) (by simp [results, Try.results26, go_sem, z0, z1, z2, z3, z4]) rfl ?_
          rcases HO.out with ⟨_, rfl, rfl, _, rfl⟩ | ⟨h, _⟩
          · refine ⟨a7, n - 5, c7, by rw [← HX.out.1, ← HX.out.2.1, ← HX.out.2.2.1, ← HX.out.2.2.2.1, ← HX.out.2.2.2.2], by rw [List.length_drop, HLN.out], ?_, ?_⟩
            · have hql : q0 < w5.heap.size := by rw [HQ0.out]; exact lt_of_block HZ5.out
              refine own_base (B := w5.heap.size) ?_ HB5.out.size
              iterate 5 (refine ownsRow_setCell_below ?_ hql _)
              exact HO7.out
            · rw [HQ0.out]
              iterate 5 (refine Below.setCell ?_ (by first | exact Nat.le_refl _ | simp) _)
              exact HB7.out
          · exact absurd HTOK.out h
    · have CG := Lib.hid (goodF_no x0 x1 x2 x3 x4 hfi X)
      have htk : ¬ TOk l := fun h => hfi (by have := HTK.out.1 h; rw [← HX.out.1, ← HX.out.2.2.1, ← HX.out.2.2.2.2] at this; exact this)
      have HTOK := Lib.hid htk
      clear hfi htk
      go_wp2_with fail
      refine CG.out.mono ?_
      rintro e w5 ⟨rfl, hb⟩
      have HB5 := Lib.hid (bl_tr HBX.out hb)
      have hz5 := (hb.block _ (lt_of_block HZX.out)).trans HZX.out
      rw [← HQ0.out] at hz5
      have zf := fun o => frozen_of_row w5 q0 o _ _ hz5
      obtain ⟨z0, z1, z2, z3, z4⟩ := FvAt.of hz5
      clear hb hz5 HFX HBX HIX HZX CG e0 e1 e2 e3 e4
      go_wp2
      refine bodyPost_ret (v := .tuple #[fv 0 0 0 0 0, .slice none 0 0, .int .i64 3]) (by simp [results, Try.results26, go_sem, z0, z1, z2, z3, z4]) rfl ?_
      rcases HO.out with ⟨h, _⟩ | ⟨_, rfl, rfl, _, rfl⟩
      · exact absurd h HTOK.out
      · refine ⟨none, 0, 0, rfl, rfl, World.ownsRow_nil _ _ _ _, ?_⟩
        rw [HQ0.out]
        iterate 5 (refine Below.setCell ?_ (by first | exact Nat.le_refl _ | simp) _)
        exact HB5.out
theorem refTake_t {l : List Int} {F : Value} {r : List Int} {E : Value} {f : Int} (h : TOut l F r E f) (a : Option Addr) (n c : Nat) (w : World) (hI : InI w a n c l) (hn : n ≤ 17592186043904) :
    Calls Try.prog 26 #[.slice a n c] w (GotT w F r (.int .i64 f)) := by
  by_cases he : n < 5 ∨ 5 ≤ n ∧ ¬ ((0 ≤ l.getD 1 0 ∧ l.getD 1 0 ≤ 4294967295) ∧ (0 ≤ l.getD 3 0 ∧ l.getD 3 0 ≤ 4294967295))
  · have hno : ¬ TOk l := fun hk => by
      have h1 := hk.1
      rw [hI.len] at h1
      rcases he with h | ⟨_, h⟩
      · omega
      · exact h ⟨hk.2.1, hk.2.2.1⟩
    rcases h with ⟨h, _⟩ | ⟨_, rfl, rfl, _, rfl⟩
    · exact absurd h hno
    · exact refTake_early l a n c w hI he
  · have h5 : 5 ≤ n := by omega
    have hb : (0 ≤ l.getD 1 0 ∧ l.getD 1 0 ≤ 4294967295) ∧ (0 ≤ l.getD 3 0 ∧ l.getD 3 0 ≤ 4294967295) := Classical.byContradiction (fun hh => he (.inr ⟨h5, hh⟩))
    obtain ⟨b, off, rfl⟩ := in_blockI hI (by omega)
    exact refTake_main l F r E f b off n c w hI h5 hn hb.1 hb.2 h
end Go.Proofs.Ytbfcgnggcgodhaa
