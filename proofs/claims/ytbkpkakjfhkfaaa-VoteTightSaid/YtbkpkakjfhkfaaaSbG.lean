/- The program's store: Sync, Crash. Conditions: as each states. -/
import Derived.Test.YtbkpkakjfhkfaaaSbC
namespace Go.Proofs.Ytbkpkakjfhkfaaa
open Go Go.RowKit Go.Maps
set_option linter.unusedVariables false
set_option linter.unusedSimpArgs false

theorem bl_dn {B : Nat} {w w' : World} (h : Below B w w') (n : Nat) : Below B w (w'.drewN n) := ⟨h.os, h.tape, h.output, h.size, h.block⟩
theorem diff_n (w : World) : Calls Try.prog 85 #[.map none, .map none] w fun e w' => e = .returned (.int .i64 0) ∧ Tch Non w w' := by
  have hrg := fun W => run_range_nilMap (P := Try.prog) W tyM tyK tyB Try.underlying153
  have hnx1 : ∀ ty, (Instr.next (.pointer (some ⟨w.heap.size, 0, none⟩)) false ty).run Try.prog (w.alloc (.mapIter none 0 #[] 0)) = _ := fun ty => run_next_nilMap _ ty 0 0 #[]
  have hnx2 : ∀ ty, (Instr.next (.pointer (some ⟨w.heap.size + 1, 0, none⟩)) false ty).run Try.prog ((w.alloc (.mapIter none 0 #[] 0)).alloc (.mapIter none 0 #[] 0)) = .ok (.tuple #[.bool false]) ((w.alloc (.mapIter none 0 #[] 0)).alloc (.mapIter none 0 #[] 0)) := fun ty => by
    have := run_next_nilMap (P := Try.prog) (w.alloc (.mapIter none 0 #[] 0)) ty 0 0 #[]
    rw [World.size_alloc] at this
    exact this
  have HB := Lib.hid (tch_new (bl_al (bl_al (Below.refl w.heap.size w) (.mapIter none 0 #[] 0)) (.mapIter none 0 #[] 0)))
  go_enter Try.func85, Try.ntmps85
  go_wp2
  refine wp_loop_rounds 1 ?_
  rw [rounds_succ]
  go_wp2
  refine wp_loop_rounds 1 ?_
  rw [rounds_succ]
  go_wp2
  go_ret
  exact ⟨rfl, HB.out⟩
theorem size_n (w : World) : Calls Try.prog 87 #[.map none] w fun e w' => e = .returned (.int .i64 0) ∧ Tch Non w w' := by
  have hrg := fun W => run_range_nilMap (P := Try.prog) W tyM tyK tyB Try.underlying153
  have hnx1 : ∀ ty, (Instr.next (.pointer (some ⟨w.heap.size, 0, none⟩)) false ty).run Try.prog (w.alloc (.mapIter none 0 #[] 0)) = _ := fun ty => run_next_nilMap _ ty 0 0 #[]
  have HB := Lib.hid (tch_new (bl_al (Below.refl w.heap.size w) (.mapIter none 0 #[] 0)))
  go_enter Try.func87, Try.ntmps87
  go_wp2
  refine wp_loop_rounds 1 ?_
  rw [rounds_succ]
  go_wp2
  go_ret
  exact ⟨rfl, HB.out⟩
/-- The store's differences and size, and a clone, whatever maps it has. -/
theorem StK.diff {w : World} {B : Nat} {F : Nat → Prop} {p : Nat} {size : Int} {k : Nat} {c1 c2 : Option Nat} {l m : List Pr} (h : StK w B F p size k c1 c2 l m) :
    Calls Try.prog 85 #[.map c1, .map c2] w fun e w' => e = .returned (.int .i64 (unlikeP l m : Nat)) ∧ Tch Non w w' := by
  cases e1 : c1 with
  | none =>
    have e2 : c2 = none := h.nils.1 e1
    subst e1
    obtain ⟨rfl, rfl⟩ := h.nil_l
    rw [e2]
    exact diff_n w
  | some b =>
    cases e2 : c2 with
    | none => rw [h.nils.2 e2] at e1; cases e1
    | some b2 =>
      have h1 := h.cur
      have h2 := h.syn
      rw [e1] at h1
      rw [e2] at h2
      have hL := h.lens
      exact diff_c B b b2 F l m w h1 h2 h.srt ⟨hL.2.2.1, hL.2.2.2⟩ ⟨hL.1, hL.2.1⟩
theorem mapO_size (B : Nat) (F : Nat → Prop) (c : Option Nat) (l : List Pr) (w : World) (h : MapO w F B c l) (hs : SrtP l) (hu : usedP l ≤ 1099511627776) :
    Calls Try.prog 87 #[.map c] w fun e w' => e = .returned (.int .i64 (usedP l : Nat)) ∧ Tch Non w w' := by
  cases c with
  | none =>
    have hl : l = [] := h
    subst hl
    exact size_n w
  | some b => exact size_c B b F l w h hs hu
/-- A clone of a map that may be nil, in a block of its own. -/
def ClO (w : World) (F : Nat → Prop) (B : Nat) (c : Option Nat) (l : List Pr) (c' : Option Nat) (w' : World) : Prop :=
  MapO w' (fun k => F k ∨ c' = some k) B c' l ∧ (c = none ↔ c' = none) ∧ (∀ b, c' = some b → b = w.heap.size ∧ b < w'.heap.size) ∧ Below w.heap.size w w'
theorem mapO_clone (B : Nat) (F : Nat → Prop) (c : Option Nat) (l : List Pr) (w : World) (h : MapO w F B c l) :
    Calls Try.prog 86 #[.map c] w fun e w' => ∃ c', e = .returned (.map c') ∧ ClO w F B c l c' w' := by
  cases c with
  | none =>
    have hl : l = [] := h
    subst hl
    refine (mclone_n w).mono ?_
    rintro e w' ⟨rfl, rfl⟩
    exact ⟨none, rfl, rfl, Iff.rfl, fun b e => (by cases e), Below.refl _ _⟩
  | some b =>
    refine (mclone_c B b F l w h).mono ?_
    rintro e w' ⟨rfl, h1, h2, h3⟩
    refine ⟨_, rfl, (show MapS w' (fun k => F k ∨ some w.heap.size = some k) B w.heap.size l from h1.mono (fun k hk => hk.imp id (fun e => by rw [e]))), by simp, fun b' e => ?_, h3⟩
    cases e
    exact ⟨rfl, h2⟩
/-- What Sync leaves. -/
theorem StK.sync {w w1 : World} {B : Nat} {F : Nat → Prop} {p : Nat} {size : Int} {c1 c2 c' : Option Nat} {l m : List Pr} (h : StK w B F p size (usedP l) c1 c2 l m) (hB : B ≤ w.heap.size) (hc : ClO w F B c1 l c' w1) :
    St (w1.setCell ⟨p, 2, none⟩ (.map c')) B (fun k => F k ∨ c' = some k) p size l l ∧ Tch F w (w1.setCell ⟨p, 2, none⟩ (.map c')) := by
  obtain ⟨h1, h2, h3, h4⟩ := hc
  have hcl := h.cells.tch (tch_new h4) (fun h => h)
  have hT := tch_set w1 ⟨p, 2, none⟩ (.map c')
  have hT2 : Tch F w (w1.setCell ⟨p, 2, none⟩ (.map c')) := ((tch_new h4).mono (fun _ h => h.elim)).trans (hT.mono (fun k hk => by rw [hk]; exact h.here))
  have hp := h.cells.lt
  have hcur1 : MapO w1 F B c1 l := h.cur.tch (tch_new h4) (fun _ _ h => h) (fun _ h => h.elim)
  refine ⟨⟨c1, c', ⟨h.srt.1, h.srt.1⟩, ⟨h.ok.1, h.ok.1⟩, h.sz, ⟨h.used.1, h.used.1⟩, .inl h.here, fun k hk => ?_, hcl.set2 c', ?_, ?_, h2, h.none_, fun b e e2 => ?_⟩, hT2⟩
  · rcases hk with hk | hk
    · exact ⟨(h.blocks k hk).1, Nat.lt_of_lt_of_le (h.blocks k hk).2 hT2.size⟩
    · obtain ⟨e1, e2⟩ := h3 k hk
      exact ⟨by omega, Nat.lt_of_lt_of_le e2 hT.size⟩
  · exact (hcur1.tch hT (fun b e hb => (h.ne1 b e).1 hb) (fun k hk _ => by rw [hk]; exact hcl.noRow)).mono (fun k hk => .inl hk)
  · exact h1.tch hT (fun b e hb => by have h5 := (h3 b e).1; have hb' : b = p := hb; omega) (fun k hk _ => by rw [hk]; exact hcl.noRow)
  · have h5 := (h3 b e2).1
    have h6 := (h.blocks b (h.ne1 b e).2).2
    omega
/-- What Crash leaves. -/
theorem StK.crash {w w1 w2 : World} {B : Nat} {F : Nat → Prop} {p : Nat} {size : Int} {k : Nat} {c1 c2 c' : Option Nat} {l m : List Pr} (h : StK w B F p size k c1 c2 l m) (hB : B ≤ w.heap.size) (hc : ClO w F B c2 m c' w1) (ht : Tch Non (w1.setCell ⟨p, 1, none⟩ (.map c')) w2) :
    St (w2.setCell ⟨p, 3, none⟩ (.int .i64 (usedP m : Nat))) B (fun k => F k ∨ c' = some k) p size m m ∧ Tch F w (w2.setCell ⟨p, 3, none⟩ (.int .i64 (usedP m : Nat))) := by
  obtain ⟨h1, h2, h3, h4⟩ := hc
  have hcl := h.cells.tch (tch_new h4) (fun h => h)
  have hcl2 := (hcl.set1 c').tch ht (fun h => h)
  have hT := tch_set w1 ⟨p, 1, none⟩ (.map c')
  have hT3 := tch_set w2 ⟨p, 3, none⟩ (.int .i64 (usedP m : Nat))
  have hT12 : Tch (· = p) w1 (w2.setCell ⟨p, 3, none⟩ (.int .i64 (usedP m : Nat))) := (hT.trans (ht.mono (fun _ h => h.elim))).trans hT3
  have hT2 : Tch F w (w2.setCell ⟨p, 3, none⟩ (.int .i64 (usedP m : Nat))) := ((tch_new h4).mono (fun _ h => h.elim)).trans (hT12.mono (fun k hk => by rw [hk]; exact h.here))
  have hp := h.cells.lt
  have hsyn1 : MapO w1 F B c2 m := h.syn.tch (tch_new h4) (fun _ _ h => h) (fun _ h => h.elim)
  refine ⟨⟨c', c2, ⟨h.srt.2, h.srt.2⟩, ⟨h.ok.2, h.ok.2⟩, h.sz, ⟨h.used.2, h.used.2⟩, .inl h.here, fun k hk => ?_, hcl2.set3 _, ?_, ?_, h2.symm, fun e => h.none_ (h.nils.2 (h2.2 e)), fun b e e2 => ?_⟩, hT2⟩
  · rcases hk with hk | hk
    · exact ⟨(h.blocks k hk).1, Nat.lt_of_lt_of_le (h.blocks k hk).2 hT2.size⟩
    · obtain ⟨e1, e2⟩ := h3 k hk
      exact ⟨by omega, Nat.lt_of_lt_of_le e2 hT12.size⟩
  · exact h1.tch hT12 (fun b e hb => by have h5 := (h3 b e).1; have hb' : b = p := hb; omega) (fun k hk _ => by rw [hk]; exact hcl.noRow)
  · exact (hsyn1.tch hT12 (fun b e hb => (h.ne2 b e).1 hb) (fun k hk _ => by rw [hk]; exact hcl.noRow)).mono (fun k hk => .inl hk)
  · have h5 := (h3 b e).1
    have h6 := (h.blocks b (h.ne2 b e2).2).2
    omega
set_option maxRecDepth 100000 in
set_option maxHeartbeats 1000000 in
theorem sync_c (B : Nat) (F : Nat → Prop) (pv : Option Addr) (size : Int) (l m : List Pr) (w : World) (h : Rcv w B F pv size l m) (hB : B ≤ w.heap.size) :
    Calls Try.prog 111 #[.pointer pv] w fun e w' => e = .returned (.int .i64 (unlikeP l m : Nat)) ∧ RTo w B F pv size l l w' := by
  have HO := Lib.hid (orE_t B F pv size l m w h hB)
  have HNL : Hid (pv = none → size = 0 ∧ l = [] ∧ l = []) := Lib.hid (fun e => by
    rcases h with h | ⟨p, e2, _⟩
    · exact ⟨h.2.1, h.2.2.1, h.2.2.1⟩
    · rw [e] at e2; cases e2)
  clear h
  go_enter Try.func111, Try.ntmps111
  go_wp2_with fail
  refine HO.out.mono ?_
  rintro e w1 ⟨G, p, rfl, hR⟩
  obtain ⟨c1, c2, hK⟩ := hR.1
  have HR := Lib.hid hR
  have HK := Lib.hid hK
  have CD := Lib.hid (fun U (hU : Below w1.heap.size w1 U) => (hK.keep (tch_new hU) (fun _ _ h => h)).diff)
  have hd0 : Below w1.heap.size w1 w1.drew := (Below.refl _ _).drew
  have hS0 : w1.drew.cell? ⟨p, 1, none⟩ = some (.map c1) ∧ w1.drew.cell? ⟨p, 2, none⟩ = some (.map c2) := ⟨hK.cells.cs.2.1, hK.cells.cs.2.2.1⟩
  have hBw := Lib.hid (Nat.le_trans hB hR.2.1.size)
  clear hK HO hR hB
  go_wp2_with fail
  go_region_held3 (fun wx => wx.cell? ⟨p, 1, none⟩ = some (.map c1) ∧ wx.cell? ⟨p, 2, none⟩ = some (.map c2)) (first | (with_reducible exact hS0) | (with_reducible assumption) | fail)
    (first | (go_at_call 85; (with_reducible refine (CD.out _ hd0).mono ?_); rintro e w2 ⟨rfl, ht2⟩; have hS2 := (show _ ∧ _ from ⟨ht2.cell hS0.1 (fun h => h), ht2.cell hS0.2 (fun h => h)⟩)) | fail)
  have HT12 := Lib.hid ((tch_new hd0).trans ht2)
  have HK2 := Lib.hid (HK.out.keep HT12.out (fun _ _ h => h))
  have CC := Lib.hid (mapO_clone B G c1 l w2 HK2.out.cur)
  have e1 := hS2.1
  have HB2 := Lib.hid (Nat.le_trans hBw.out HT12.out.size)
  clear hS0 hS2 hd0 ht2 CD HK
  go_wp2_with fail
  refine CC.out.mono ?_
  rintro e w3 ⟨c', rfl, hcl⟩
  have hc3 := HK2.out.cells.tch (tch_new hcl.2.2.2) (fun h => h)
  have e2 := hc3.cs.2.2.1
  have e3 := hc3.free 2
  have HF := Lib.hid (HK2.out.sync HB2.out hcl)
  have HG2 : Hid (∀ k, (G k ∨ c' = some k) → G k ∨ w1.heap.size ≤ k) := Lib.hid (fun k hk => hk.imp id (fun e => by have := (hcl.2.2.1 k e).1; have h2 := HT12.out.size; omega))
  clear hcl hc3 CC
  go_wp2
  go_ret
  exact ⟨rfl, HR.out.back HF.out.1 HG2.out ((HT12.out.mono (fun _ h => h.elim)).trans HF.out.2) HNL.out⟩
set_option maxRecDepth 100000 in
set_option maxHeartbeats 1000000 in
theorem crash_c (B : Nat) (F : Nat → Prop) (pv : Option Addr) (size : Int) (l m : List Pr) (w : World) (h : Rcv w B F pv size l m) (hB : B ≤ w.heap.size) :
    Calls Try.prog 37 #[.pointer pv] w fun e w' => e = .returned (.int .i64 (unlikeP l m : Nat)) ∧ RTo w B F pv size m m w' := by
  have HO := Lib.hid (orE_t B F pv size l m w h hB)
  have HNL : Hid (pv = none → size = 0 ∧ m = [] ∧ m = []) := Lib.hid (fun e => by
    rcases h with h | ⟨p, e2, _⟩
    · exact ⟨h.2.1, h.2.2.2.1, h.2.2.2.1⟩
    · rw [e] at e2; cases e2)
  clear h
  go_enter Try.func37, Try.ntmps37
  go_wp2_with fail
  refine HO.out.mono ?_
  rintro e w1 ⟨G, p, rfl, hR⟩
  obtain ⟨c1, c2, hK⟩ := hR.1
  have HR := Lib.hid hR
  have HK := Lib.hid hK
  have CD := Lib.hid (fun U (hU : Below w1.heap.size w1 U) => (hK.keep (tch_new hU) (fun _ _ h => h)).diff)
  have hd0 : Below w1.heap.size w1 w1.drew := (Below.refl _ _).drew
  have hS0 : w1.drew.cell? ⟨p, 1, none⟩ = some (.map c1) ∧ w1.drew.cell? ⟨p, 2, none⟩ = some (.map c2) := ⟨hK.cells.cs.2.1, hK.cells.cs.2.2.1⟩
  have hBw := Lib.hid (Nat.le_trans hB hR.2.1.size)
  clear hK HO hR hB
  go_wp2_with fail
  go_region_held3 (fun wx => wx.cell? ⟨p, 1, none⟩ = some (.map c1) ∧ wx.cell? ⟨p, 2, none⟩ = some (.map c2)) (first | (with_reducible exact hS0) | (with_reducible assumption) | fail)
    (first | (go_at_call 85; (with_reducible refine (CD.out _ hd0).mono ?_); rintro e w2 ⟨rfl, ht2⟩; have hS2 := (show _ ∧ _ from ⟨ht2.cell hS0.1 (fun h => h), ht2.cell hS0.2 (fun h => h)⟩)) | fail)
  have HT12 := Lib.hid ((tch_new hd0).trans ht2)
  have HK2 := Lib.hid (HK.out.keep HT12.out (fun _ _ h => h))
  have CC := Lib.hid (mapO_clone B G c2 m w2 HK2.out.syn)
  have e1 := hS2.2
  have HB2 := Lib.hid (Nat.le_trans hBw.out HT12.out.size)
  clear hS0 hS2 hd0 ht2 CD HK
  go_wp2_with fail
  refine CC.out.mono ?_
  rintro e w3 ⟨c', rfl, hcl⟩
  have hc3 := HK2.out.cells.tch (tch_new hcl.2.2.2) (fun h => h)
  have e2 := hc3.cs.2.1
  have e3 := hc3.free 1
  have HCL := Lib.hid hcl
  have hc4 := hc3.set1 c'
  have hm4 : MapO (w3.setCell ⟨p, 1, none⟩ (.map c')) (fun k => G k ∨ c' = some k) B c' m := hcl.1.tch (tch_set w3 ⟨p, 1, none⟩ (.map c')) (fun b e hb => by have h5 := (hcl.2.2.1 b e).1; have hb' : b = p := hb; have := HK2.out.cells.lt; omega) (fun k hk _ => by rw [hk]; exact hc3.noRow)
  obtain ⟨W4, hW4⟩ : ∃ W, W = w3.setCell ⟨p, 1, none⟩ (.map c') := ⟨_, rfl⟩
  have HW4 := Lib.hid hW4
  rw [← hW4] at hc4 hm4
  have CZ := Lib.hid (mapO_size B _ c' m W4 hm4 HK2.out.srt.2 (by have := HK2.out.lens.2.2.2; omega))
  have e4 := hc4.cs.2.1
  have HC4 := Lib.hid hc4
  clear hcl hc3 CC hm4 hc4
  go_wp2_with fail
  rw [← hW4]
  clear hW4 e1 e2 e3
  refine CZ.out.mono ?_
  rintro e w5 ⟨rfl, ht5⟩
  have hc5 := HC4.out.tch ht5 (fun h => h)
  have e5 := hc5.cs.2.2.2
  have e6 := hc5.free 3
  rw [HW4.out] at ht5
  have HF := Lib.hid (HK2.out.crash HB2.out HCL.out ht5)
  have HG2 : Hid (∀ k, (G k ∨ c' = some k) → G k ∨ w1.heap.size ≤ k) := Lib.hid (fun k hk => hk.imp id (fun e => by have := (HCL.out.2.2.1 k e).1; have h2 := HT12.out.size; omega))
  clear ht5 hc5 CZ e4
  go_wp2
  go_ret
  exact ⟨rfl, HR.out.back HF.out.1 HG2.out ((HT12.out.mono (fun _ h => h.elim)).trans HF.out.2) HNL.out⟩
end Go.Proofs.Ytbkpkakjfhkfaaa
