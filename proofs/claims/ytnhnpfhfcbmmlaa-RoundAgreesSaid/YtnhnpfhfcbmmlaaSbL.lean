/- The program's store: Sync, Crash. Conditions: as each states. The program's store: Put. Conditions: as it states. The program's store: Drop. Conditions: as it states. A store of the call's own: how it goes on, and what it leaves alone; alive. No conditions but those stated. -/
import Derived.Test.YtnhnpfhfcbmmlaaSbC
import Derived.OrdersHeld
import Derived.Deep.RegionHeld
import Derived.Lib.SmallJoins
namespace Go.Proofs.Ytnhnpfhfcbmmlaa
open Go Go.RowKit Go.Maps
set_option linter.unusedVariables false
set_option linter.unusedSimpArgs false

theorem bl_dn {B : Nat} {w w' : World} (h : Below B w w') (n : Nat) : Below B w (w'.drewN n) := ⟨h.os, h.tape, h.output, h.size, h.block⟩
theorem diff_n (w : World) : Calls Try.prog 85 #[.map none, .map none] w fun e w' => e = .returned (.int .i64 0) ∧ Tch Non w w' := by
  have hrg := fun W => run_range_nilMap (P := Try.prog) W tyM tyK tyB Try.underlying153
  have hnx1 : ∀ ty, (Instr.next (.pointer (some ⟨w.heap.size, 0, none⟩)) false ty).run Try.prog (w.alloc (.mapIter none 0 #[] 0)) = _ := fun ty => run_next_nilMap _ ty 0 0 #[]
  have hnx2 : ∀ ty, (Instr.next (.pointer (some ⟨w.heap.size + 1, 0, none⟩)) false ty).run Try.prog ((w.alloc (.mapIter none 0 #[] 0)).alloc (.mapIter none 0 #[] 0)) = .ok (.tuple #[.bool false]) ((w.alloc (.mapIter none 0 #[] 0)).alloc (.mapIter none 0 #[] 0)) := fun ty => by
    have := run_next_nilMap (P := Try.prog) (w.alloc (.mapIter none 0 #[] 0)) ty 0 0 #[]
    rw [World.size_alloc] at this
    exact this
  have HB := Lib.hid (tch_new (bl_al (bl_al (Below.refl w.heap.size w) (.mapIter none 0 #[] 0)) (.mapIter none 0 #[] 0)))
  go_enter Try.func85, Try.ntmps85
  go_wp2
  refine wp_loop_rounds 1 ?_
  rw [rounds_succ]
  go_wp2
  refine wp_loop_rounds 1 ?_
  rw [rounds_succ]
  go_wp2
  go_ret
  exact ⟨rfl, HB.out⟩
theorem size_n (w : World) : Calls Try.prog 87 #[.map none] w fun e w' => e = .returned (.int .i64 0) ∧ Tch Non w w' := by
  have hrg := fun W => run_range_nilMap (P := Try.prog) W tyM tyK tyB Try.underlying153
  have hnx1 : ∀ ty, (Instr.next (.pointer (some ⟨w.heap.size, 0, none⟩)) false ty).run Try.prog (w.alloc (.mapIter none 0 #[] 0)) = _ := fun ty => run_next_nilMap _ ty 0 0 #[]
  have HB := Lib.hid (tch_new (bl_al (Below.refl w.heap.size w) (.mapIter none 0 #[] 0)))
  go_enter Try.func87, Try.ntmps87
  go_wp2
  refine wp_loop_rounds 1 ?_
  rw [rounds_succ]
  go_wp2
  go_ret
  exact ⟨rfl, HB.out⟩
/-- The store's differences and size, and a clone, whatever maps it has. -/
theorem StK.diff {w : World} {B : Nat} {F : Nat → Prop} {p : Nat} {size : Int} {k : Nat} {c1 c2 : Option Nat} {l m : List Pr} (h : StK w B F p size k c1 c2 l m) :
    Calls Try.prog 85 #[.map c1, .map c2] w fun e w' => e = .returned (.int .i64 (unlikeP l m : Nat)) ∧ Tch Non w w' := by
  cases e1 : c1 with
  | none =>
    have e2 : c2 = none := h.nils.1 e1
    subst e1
    obtain ⟨rfl, rfl⟩ := h.nil_l
    rw [e2]
    exact diff_n w
  | some b =>
    cases e2 : c2 with
    | none => rw [h.nils.2 e2] at e1; cases e1
    | some b2 =>
      have h1 := h.cur
      have h2 := h.syn
      rw [e1] at h1
      rw [e2] at h2
      have hL := h.lens
      exact diff_c B b b2 F l m w h1 h2 h.srt ⟨hL.2.2.1, hL.2.2.2⟩ ⟨hL.1, hL.2.1⟩
theorem mapO_size (B : Nat) (F : Nat → Prop) (c : Option Nat) (l : List Pr) (w : World) (h : MapO w F B c l) (hs : SrtP l) (hu : usedP l ≤ 1099511627776) :
    Calls Try.prog 87 #[.map c] w fun e w' => e = .returned (.int .i64 (usedP l : Nat)) ∧ Tch Non w w' := by
  cases c with
  | none =>
    have hl : l = [] := h
    subst hl
    exact size_n w
  | some b => exact size_c B b F l w h hs hu
/-- A clone of a map that may be nil, in a block of its own. -/
def ClO (w : World) (F : Nat → Prop) (B : Nat) (c : Option Nat) (l : List Pr) (c' : Option Nat) (w' : World) : Prop :=
  MapO w' (fun k => F k ∨ c' = some k) B c' l ∧ (c = none ↔ c' = none) ∧ (∀ b, c' = some b → b = w.heap.size ∧ b < w'.heap.size) ∧ Below w.heap.size w w'
theorem mapO_clone (B : Nat) (F : Nat → Prop) (c : Option Nat) (l : List Pr) (w : World) (h : MapO w F B c l) :
    Calls Try.prog 86 #[.map c] w fun e w' => ∃ c', e = .returned (.map c') ∧ ClO w F B c l c' w' := by
  cases c with
  | none =>
    have hl : l = [] := h
    subst hl
    refine (mclone_n w).mono ?_
    rintro e w' ⟨rfl, rfl⟩
    exact ⟨none, rfl, rfl, Iff.rfl, fun b e => (by cases e), Below.refl _ _⟩
  | some b =>
    refine (mclone_c B b F l w h).mono ?_
    rintro e w' ⟨rfl, h1, h2, h3⟩
    refine ⟨_, rfl, (show MapS w' (fun k => F k ∨ some w.heap.size = some k) B w.heap.size l from h1.mono (fun k hk => hk.imp id (fun e => by rw [e]))), by simp, fun b' e => ?_, h3⟩
    cases e
    exact ⟨rfl, h2⟩
/-- What Sync leaves. -/
theorem StK.sync {w w1 : World} {B : Nat} {F : Nat → Prop} {p : Nat} {size : Int} {c1 c2 c' : Option Nat} {l m : List Pr} (h : StK w B F p size (usedP l) c1 c2 l m) (hB : B ≤ w.heap.size) (hc : ClO w F B c1 l c' w1) :
    St (w1.setCell ⟨p, 2, none⟩ (.map c')) B (fun k => F k ∨ c' = some k) p size l l ∧ Tch F w (w1.setCell ⟨p, 2, none⟩ (.map c')) := by
  obtain ⟨h1, h2, h3, h4⟩ := hc
  have hcl := h.cells.tch (tch_new h4) (fun h => h)
  have hT := tch_set w1 ⟨p, 2, none⟩ (.map c')
  have hT2 : Tch F w (w1.setCell ⟨p, 2, none⟩ (.map c')) := ((tch_new h4).mono (fun _ h => h.elim)).trans (hT.mono (fun k hk => by rw [hk]; exact h.here))
  have hp := h.cells.lt
  have hcur1 : MapO w1 F B c1 l := h.cur.tch (tch_new h4) (fun _ _ h => h) (fun _ h => h.elim)
  refine ⟨⟨c1, c', ⟨h.srt.1, h.srt.1⟩, ⟨h.ok.1, h.ok.1⟩, h.sz, ⟨h.used.1, h.used.1⟩, .inl h.here, fun k hk => ?_, hcl.set2 c', ?_, ?_, h2, h.none_, fun b e e2 => ?_⟩, hT2⟩
  · rcases hk with hk | hk
    · exact ⟨(h.blocks k hk).1, Nat.lt_of_lt_of_le (h.blocks k hk).2 hT2.size⟩
    · obtain ⟨e1, e2⟩ := h3 k hk
      exact ⟨by omega, Nat.lt_of_lt_of_le e2 hT.size⟩
  · exact (hcur1.tch hT (fun b e hb => (h.ne1 b e).1 hb) (fun k hk _ => by rw [hk]; exact hcl.noRow)).mono (fun k hk => .inl hk)
  · exact h1.tch hT (fun b e hb => by have h5 := (h3 b e).1; have hb' : b = p := hb; omega) (fun k hk _ => by rw [hk]; exact hcl.noRow)
  · have h5 := (h3 b e2).1
    have h6 := (h.blocks b (h.ne1 b e).2).2
    omega
/-- What Crash leaves. -/
theorem StK.crash {w w1 w2 : World} {B : Nat} {F : Nat → Prop} {p : Nat} {size : Int} {k : Nat} {c1 c2 c' : Option Nat} {l m : List Pr} (h : StK w B F p size k c1 c2 l m) (hB : B ≤ w.heap.size) (hc : ClO w F B c2 m c' w1) (ht : Tch Non (w1.setCell ⟨p, 1, none⟩ (.map c')) w2) :
    St (w2.setCell ⟨p, 3, none⟩ (.int .i64 (usedP m : Nat))) B (fun k => F k ∨ c' = some k) p size m m ∧ Tch F w (w2.setCell ⟨p, 3, none⟩ (.int .i64 (usedP m : Nat))) := by
  obtain ⟨h1, h2, h3, h4⟩ := hc
  have hcl := h.cells.tch (tch_new h4) (fun h => h)
  have hcl2 := (hcl.set1 c').tch ht (fun h => h)
  have hT := tch_set w1 ⟨p, 1, none⟩ (.map c')
  have hT3 := tch_set w2 ⟨p, 3, none⟩ (.int .i64 (usedP m : Nat))
  have hT12 : Tch (· = p) w1 (w2.setCell ⟨p, 3, none⟩ (.int .i64 (usedP m : Nat))) := (hT.trans (ht.mono (fun _ h => h.elim))).trans hT3
  have hT2 : Tch F w (w2.setCell ⟨p, 3, none⟩ (.int .i64 (usedP m : Nat))) := ((tch_new h4).mono (fun _ h => h.elim)).trans (hT12.mono (fun k hk => by rw [hk]; exact h.here))
  have hp := h.cells.lt
  have hsyn1 : MapO w1 F B c2 m := h.syn.tch (tch_new h4) (fun _ _ h => h) (fun _ h => h.elim)
  refine ⟨⟨c', c2, ⟨h.srt.2, h.srt.2⟩, ⟨h.ok.2, h.ok.2⟩, h.sz, ⟨h.used.2, h.used.2⟩, .inl h.here, fun k hk => ?_, hcl2.set3 _, ?_, ?_, h2.symm, fun e => h.none_ (h.nils.2 (h2.2 e)), fun b e e2 => ?_⟩, hT2⟩
  · rcases hk with hk | hk
    · exact ⟨(h.blocks k hk).1, Nat.lt_of_lt_of_le (h.blocks k hk).2 hT2.size⟩
    · obtain ⟨e1, e2⟩ := h3 k hk
      exact ⟨by omega, Nat.lt_of_lt_of_le e2 hT12.size⟩
  · exact h1.tch hT12 (fun b e hb => by have h5 := (h3 b e).1; have hb' : b = p := hb; omega) (fun k hk _ => by rw [hk]; exact hcl.noRow)
  · exact (hsyn1.tch hT12 (fun b e hb => (h.ne2 b e).1 hb) (fun k hk _ => by rw [hk]; exact hcl.noRow)).mono (fun k hk => .inl hk)
  · have h5 := (h3 b e).1
    have h6 := (h.blocks b (h.ne2 b e2).2).2
    omega
set_option maxRecDepth 100000 in
set_option maxHeartbeats 1000000 in
theorem sync_c (B : Nat) (F : Nat → Prop) (pv : Option Addr) (size : Int) (l m : List Pr) (w : World) (h : Rcv w B F pv size l m) (hB : B ≤ w.heap.size) :
    Calls Try.prog 111 #[.pointer pv] w fun e w' => e = .returned (.int .i64 (unlikeP l m : Nat)) ∧ RTo w B F pv size l l w' := by
  have HO := Lib.hid (orE_t B F pv size l m w h hB)
  have HNL : Hid (pv = none → size = 0 ∧ l = [] ∧ l = []) := Lib.hid (fun e => by
    rcases h with h | ⟨p, e2, _⟩
    · exact ⟨h.2.1, h.2.2.1, h.2.2.1⟩
    · rw [e] at e2; cases e2)
  clear h
  go_enter Try.func111, Try.ntmps111
  go_wp2_with fail
  refine HO.out.mono ?_
  rintro e w1 ⟨G, p, rfl, hR⟩
  obtain ⟨c1, c2, hK⟩ := hR.1
  have HR := Lib.hid hR
  have HK := Lib.hid hK
  have CD := Lib.hid (fun U (hU : Below w1.heap.size w1 U) => (hK.keep (tch_new hU) (fun _ _ h => h)).diff)
  have hd0 : Below w1.heap.size w1 w1.drew := (Below.refl _ _).drew
  have hS0 : w1.drew.cell? ⟨p, 1, none⟩ = some (.map c1) ∧ w1.drew.cell? ⟨p, 2, none⟩ = some (.map c2) := ⟨hK.cells.cs.2.1, hK.cells.cs.2.2.1⟩
  have hBw := Lib.hid (Nat.le_trans hB hR.2.1.size)
  clear hK HO hR hB
  go_wp2_with fail
  go_region_held3 (fun wx => wx.cell? ⟨p, 1, none⟩ = some (.map c1) ∧ wx.cell? ⟨p, 2, none⟩ = some (.map c2)) (first | (with_reducible exact hS0) | (with_reducible assumption) | fail)
    (first | (go_at_call 85; (with_reducible refine (CD.out _ hd0).mono ?_); rintro e w2 ⟨rfl, ht2⟩; have hS2 := (show _ ∧ _ from ⟨ht2.cell hS0.1 (fun h => h), ht2.cell hS0.2 (fun h => h)⟩)) | fail)
  have HT12 := Lib.hid ((tch_new hd0).trans ht2)
  have HK2 := Lib.hid (HK.out.keep HT12.out (fun _ _ h => h))
  have CC := Lib.hid (mapO_clone B G c1 l w2 HK2.out.cur)
  have e1 := hS2.1
  have HB2 := Lib.hid (Nat.le_trans hBw.out HT12.out.size)
  clear hS0 hS2 hd0 ht2 CD HK
  go_wp2_with fail
  refine CC.out.mono ?_
  rintro e w3 ⟨c', rfl, hcl⟩
  have hc3 := HK2.out.cells.tch (tch_new hcl.2.2.2) (fun h => h)
  have e2 := hc3.cs.2.2.1
  have e3 := hc3.free 2
  have HF := Lib.hid (HK2.out.sync HB2.out hcl)
  have HG2 : Hid (∀ k, (G k ∨ c' = some k) → G k ∨ w1.heap.size ≤ k) := Lib.hid (fun k hk => hk.imp id (fun e => by have := (hcl.2.2.1 k e).1; have h2 := HT12.out.size; omega))
  clear hcl hc3 CC
  go_wp2
  go_ret
  exact ⟨rfl, HR.out.back HF.out.1 HG2.out ((HT12.out.mono (fun _ h => h.elim)).trans HF.out.2) HNL.out⟩
set_option maxRecDepth 100000 in
set_option maxHeartbeats 1000000 in
theorem crash_c (B : Nat) (F : Nat → Prop) (pv : Option Addr) (size : Int) (l m : List Pr) (w : World) (h : Rcv w B F pv size l m) (hB : B ≤ w.heap.size) :
    Calls Try.prog 37 #[.pointer pv] w fun e w' => e = .returned (.int .i64 (unlikeP l m : Nat)) ∧ RTo w B F pv size m m w' := by
  have HO := Lib.hid (orE_t B F pv size l m w h hB)
  have HNL : Hid (pv = none → size = 0 ∧ m = [] ∧ m = []) := Lib.hid (fun e => by
    rcases h with h | ⟨p, e2, _⟩
    · exact ⟨h.2.1, h.2.2.2.1, h.2.2.2.1⟩
    · rw [e] at e2; cases e2)
  clear h
  go_enter Try.func37, Try.ntmps37
  go_wp2_with fail
  refine HO.out.mono ?_
  rintro e w1 ⟨G, p, rfl, hR⟩
  obtain ⟨c1, c2, hK⟩ := hR.1
  have HR := Lib.hid hR
  have HK := Lib.hid hK
  have CD := Lib.hid (fun U (hU : Below w1.heap.size w1 U) => (hK.keep (tch_new hU) (fun _ _ h => h)).diff)
  have hd0 : Below w1.heap.size w1 w1.drew := (Below.refl _ _).drew
  have hS0 : w1.drew.cell? ⟨p, 1, none⟩ = some (.map c1) ∧ w1.drew.cell? ⟨p, 2, none⟩ = some (.map c2) := ⟨hK.cells.cs.2.1, hK.cells.cs.2.2.1⟩
  have hBw := Lib.hid (Nat.le_trans hB hR.2.1.size)
  clear hK HO hR hB
  go_wp2_with fail
  go_region_held3 (fun wx => wx.cell? ⟨p, 1, none⟩ = some (.map c1) ∧ wx.cell? ⟨p, 2, none⟩ = some (.map c2)) (first | (with_reducible exact hS0) | (with_reducible assumption) | fail)
    (first | (go_at_call 85; (with_reducible refine (CD.out _ hd0).mono ?_); rintro e w2 ⟨rfl, ht2⟩; have hS2 := (show _ ∧ _ from ⟨ht2.cell hS0.1 (fun h => h), ht2.cell hS0.2 (fun h => h)⟩)) | fail)
  have HT12 := Lib.hid ((tch_new hd0).trans ht2)
  have HK2 := Lib.hid (HK.out.keep HT12.out (fun _ _ h => h))
  have CC := Lib.hid (mapO_clone B G c2 m w2 HK2.out.syn)
  have e1 := hS2.2
  have HB2 := Lib.hid (Nat.le_trans hBw.out HT12.out.size)
  clear hS0 hS2 hd0 ht2 CD HK
  go_wp2_with fail
  refine CC.out.mono ?_
  rintro e w3 ⟨c', rfl, hcl⟩
  have hc3 := HK2.out.cells.tch (tch_new hcl.2.2.2) (fun h => h)
  have e2 := hc3.cs.2.1
  have e3 := hc3.free 1
  have HCL := Lib.hid hcl
  have hc4 := hc3.set1 c'
  have hm4 : MapO (w3.setCell ⟨p, 1, none⟩ (.map c')) (fun k => G k ∨ c' = some k) B c' m := hcl.1.tch (tch_set w3 ⟨p, 1, none⟩ (.map c')) (fun b e hb => by have h5 := (hcl.2.2.1 b e).1; have hb' : b = p := hb; have := HK2.out.cells.lt; omega) (fun k hk _ => by rw [hk]; exact hc3.noRow)
  obtain ⟨W4, hW4⟩ : ∃ W, W = w3.setCell ⟨p, 1, none⟩ (.map c') := ⟨_, rfl⟩
  have HW4 := Lib.hid hW4
  rw [← hW4] at hc4 hm4
  have CZ := Lib.hid (mapO_size B _ c' m W4 hm4 HK2.out.srt.2 (by have := HK2.out.lens.2.2.2; omega))
  have e4 := hc4.cs.2.1
  have HC4 := Lib.hid hc4
  clear hcl hc3 CC hm4 hc4
  go_wp2_with fail
  rw [← hW4]
  clear hW4 e1 e2 e3
  refine CZ.out.mono ?_
  rintro e w5 ⟨rfl, ht5⟩
  have hc5 := HC4.out.tch ht5 (fun h => h)
  have e5 := hc5.cs.2.2.2
  have e6 := hc5.free 3
  rw [HW4.out] at ht5
  have HF := Lib.hid (HK2.out.crash HB2.out HCL.out ht5)
  have HG2 : Hid (∀ k, (G k ∨ c' = some k) → G k ∨ w1.heap.size ≤ k) := Lib.hid (fun k hk => hk.imp id (fun e => by have := (HCL.out.2.2.1 k e).1; have h2 := HT12.out.size; omega))
  clear ht5 hc5 CZ e4
  go_wp2
  go_ret
  exact ⟨rfl, HR.out.back HF.out.1 HG2.out ((HT12.out.mono (fun _ h => h.elim)).trans HF.out.2) HNL.out⟩
end Go.Proofs.Ytnhnpfhfcbmmlaa
namespace Go.Proofs.Ytnhnpfhfcbmmlaa
open Go Go.RowKit Go.Maps
set_option linter.unusedVariables false
set_option linter.unusedSimpArgs false

/-- What Put leaves. -/
theorem StK.put {w w3 : World} {B b : Nat} {F : Nat → Prop} {p : Nat} {size : Int} {c2 : Option Nat} {l m : List Pr} (h : StK w B F p size (usedP l) (some b) c2 l m) (hB : B ≤ w.heap.size) {k : Ky} {r : List Int} (hk : OkK k) (hf : fit r) (hz : ((usedP (cutP k l) + k.length + r.length : Nat) : Int) ≤ size)
    (hb : Below w.heap.size w w3) {ao : Option Addr} {n c : Nat} (ho : w3.ownsRow w.heap.size 5 1 (.slice ao n c) r.length (u8s r)) :
    ∃ w4, (Instr.mapUpdate tyM (.map (some b)) (sv k) (.slice ao n c)).run Try.prog w3 = .ok () w4 ∧ SAt w4 p size (some b) c2 (usedP l) ∧
      St (w4.setCell ⟨p, 3, none⟩ (.int .i64 (usedP (putP k r l) : Nat))) B (fun j => F j ∨ (Value.slice ao n c).ownBlock = some j) p size (putP k r l) m ∧ Tch F w (w4.setCell ⟨p, 3, none⟩ (.int .i64 (usedP (putP k r l) : Nat))) := by
  have hcur : MapS w F B b l := h.cur
  have hm3 : MapS w3 F B b l := hcur.tch (tch_new hb) (fun h => h) (fun _ h => h.elim)
  have hF : ∀ j, F j → (F j ∨ (Value.slice ao n c).ownBlock = some j) := fun j hj => .inl hj
  have hrow : RowF w3 (fun j => F j ∨ (Value.slice ao n c).ownBlock = some j) B (.slice ao n c) r := ⟨own_base ho hB, hf, fun g hg => .inr hg⟩
  obtain ⟨w4, hr, hm4, ht4, hs4⟩ := (hm3.mono hF).store h.srt.1 h.lens.1 (k := k) (by have := hk.2; unfold maxLen; omega) hrow
  have hne := (h.ne1 b rfl).1
  have hc3 := h.cells.tch (tch_new hb) (fun h => h)
  have hc4 := hc3.tch ht4 (fun e => hne e.symm)
  have hsyn3 : MapO w3 F B c2 m := h.syn.tch (tch_new hb) (fun _ _ h => h) (fun _ h => h.elim)
  have hsyn4 := (hsyn3.tch ht4 (fun b' e hb' => h.apart b rfl (by rw [e, hb'])) (fun j hj _ => by rw [hj]; exact hm3.noRow)).mono hF
  have hT := tch_set w4 ⟨p, 3, none⟩ (.int .i64 (usedP (putP k r l) : Nat))
  have hTT : Tch F w (w4.setCell ⟨p, 3, none⟩ (.int .i64 (usedP (putP k r l) : Nat))) := (((tch_new hb).mono (fun _ h => h.elim)).trans (ht4.mono (fun j hj => by rw [hj]; exact hcur.1))).trans (hT.mono (fun j hj => by rw [hj]; exact h.here))
  refine ⟨w4, hr, hc4, ⟨some b, c2, ⟨srt_put h.srt.1, h.srt.2⟩, ⟨ok_put h.ok.1 hk hf, h.ok.2⟩, h.sz, ⟨by rw [used_put]; exact hz, h.used.2⟩, .inl h.here, fun j hj => ?_, hc4.set3 _, ?_, ?_, h.nils, h.none_, h.apart⟩, hTT⟩
  · rcases hj with hj | hj
    · exact ⟨(h.blocks j hj).1, Nat.lt_of_lt_of_le (h.blocks j hj).2 hTT.size⟩
    · have := ho.lt j hj
      exact ⟨by omega, Nat.lt_of_lt_of_le this.2 (Nat.le_trans ht4.size hT.size)⟩
  · exact hm4.tch hT (fun e => hne e) (fun j hj _ => by rw [hj]; exact hc4.noRow)
  · exact hsyn4.tch hT (fun b' e hb' => (h.ne2 b' e).1 hb') (fun j hj _ => by rw [hj]; exact hc4.noRow)
theorem putN_bad {size : Int} {k : Ky} {r : List Int} {l : List Pr} (h : ¬ OkK k) : putN size k r l = 9 := if_neg h
theorem putN_full {size : Int} {k : Ky} {r : List Int} {l : List Pr} (h : OkK k) (h2 : size < (usedP (cutP k l) + k.length + r.length : Nat)) : putN size k r l = 5 := by unfold putN; rw [if_pos h, if_pos h2]
theorem putN_ok {size : Int} {k : Ky} {r : List Int} {l : List Pr} (h : OkK k) (h2 : ¬ size < (usedP (cutP k l) + k.length + r.length : Nat)) : putN size k r l = 0 := by unfold putN; rw [if_pos h, if_neg h2]
theorem putL_same {size : Int} {k : Ky} {r : List Int} {l : List Pr} (h : putN size k r l ≠ 0) : putL size k r l = l := if_neg h
theorem putL_put {size : Int} {k : Ky} {r : List Int} {l : List Pr} (h : putN size k r l = 0) : putL size k r l = putP k r l := if_pos h
set_option maxRecDepth 100000 in
set_option maxHeartbeats 2000000 in
theorem put_c (B : Nat) (F : Nat → Prop) (pv : Option Addr) (size : Int) (l m : List Pr) (k : Ky) (b n : Nat) (us : List Value) (ps : List (List Int)) (w : World) (h : Rcv w B F pv size l m) (hB : B ≤ w.heap.size) (hk : k.length ≤ maxLen) (hp : RsIn w b n us ps) (hn : n ≤ 1048576) (hs : ps.flatten.length ≤ 1152921504606846976) :
    Calls Try.prog 92 #[.pointer pv, sv k, .slice (some ⟨b, 0, none⟩) n n] w fun e w' => e = .returned (errF (putN size k ps.flatten l : Nat)) ∧ RTo w B F pv size (putL size k ps.flatten l) m w' := by
  by_cases hkk : OkK k
  · have hk1 := hkk.1
    have hk2 := hkk.2
    have h1 : ¬ ((k.length : Int) < 1) := by omega
    have h2 : ¬ ((64 : Int) < (k.length : Int)) := by omega
    have HKK := Lib.hid hkk
    have HO := Lib.hid (orE_t B F pv size l m w h hB)
    have HNL : Hid (pv = none → size = 0 ∧ l = [] ∧ m = []) := Lib.hid (fun e => by
      rcases h with h | ⟨p, e2, _⟩
      · exact ⟨h.2.1, h.2.2.1, h.2.2.2.1⟩
      · rw [e] at e2; cases e2)
    have HP := Lib.hid hp
    have hfit := Lib.hid hp.fit
    obtain ⟨r, hr⟩ : ∃ r, r = ps.flatten := ⟨_, rfl⟩
    rw [← hr] at hs hfit ⊢
    have HRR := Lib.hid hr
    clear h hp hr hkk
    go_enter Try.func92, Try.ntmps92
    go_wp2_with fail
    refine HO.out.mono ?_
    rintro e w1 ⟨G, p, rfl, hR⟩
    obtain ⟨c1, c2, hK⟩ := hR.1
    have HR := Lib.hid hR
    have HK := Lib.hid hK
    have hd0 : Below w1.heap.size w1 w1.drew := (Below.refl _ _).drew
    have hS0 : w1.drew.cell? ⟨p, 1, none⟩ = some (.map c1) ∧ w1.drew.cell? ⟨p, 3, none⟩ = some (.int .i64 (usedP l : Nat)) := ⟨hK.cells.cs.2.1, hK.cells.cs.2.2.2⟩
    have CS := Lib.hid (fun U (hU : Below w1.heap.size w1 U) => sizeAt_c B G c1 l k U (hK.cur.tch (tch_new hU) (fun _ _ h => h) (fun _ h => h.elim)) (by unfold maxLen; omega) (fun r hf => by have := hK.row hf; omega))
    have hBw := Lib.hid (Nat.le_trans hB hR.2.1.size)
    have hbR := hR.2.1
    have huc := used_cut (k := k) hK.srt.1
    have hul := hK.lens.2.2.1
    have HP1 := Lib.hid (HP.out.rows.len)
    obtain ⟨u, hu⟩ : ∃ u, u = usedP l := ⟨_, rfl⟩
    obtain ⟨z, hz⟩ : ∃ z, z = sizeAt k l := ⟨_, rfl⟩
    obtain ⟨q, hq⟩ : ∃ q, q = usedP (cutP k l) := ⟨_, rfl⟩
    obtain ⟨kl, hkl⟩ : ∃ kl, kl = k.length := ⟨_, rfl⟩
    rw [← hu] at hS0 hul huc
    rw [← hz] at CS huc
    rw [← hq] at huc
    have W1 : Hid (IntKind.i64.wrap ((u : Int) - (z : Int)) = (q : Int)) := Lib.hid (by rw [IntWalk.i64_in _ (by omega)]; omega)
    have W2 : Hid (IntKind.i64.wrap ((q : Int) + (k.length : Int)) = ((q + k.length : Nat) : Int)) := Lib.hid (by rw [IntWalk.i64_in _ (by omega)]; omega)
    have HQ := Lib.hid hq
    have HU := Lib.hid hu
    clear hK HO hR hB hq hu hz hkl
    go_wp2_with fail
    go_region_held3 (fun wx => wx.cell? ⟨p, 1, none⟩ = some (.map c1) ∧ wx.cell? ⟨p, 3, none⟩ = some (.int .i64 (u : Nat))) (first | (with_reducible exact hS0) | (with_reducible assumption) | fail)
      (first | (go_at_call 114; (with_reducible refine (CS.out _ hd0).mono ?_); rintro e w2 ⟨rfl, rfl⟩) | fail)
    rw [W1.out, W2.out]
    rename_i hHeld
    obtain ⟨w2, hw2⟩ : ∃ w2, w2 = w1.drew := ⟨_, rfl⟩
    rw [← hw2] at hd0 hS0 ⊢
    have HD := Lib.hid hd0
    have HP2 := Lib.hid (HP.out.below (bl_tr (HR.out.2.1.below (fun _ h => h.elim) (Nat.le_refl _)) HD.out))
    have HK2 := Lib.hid (HK.out.keep (tch_new HD.out) (fun _ _ h => h))
    have hb0 : q + k.length ≤ 1152921504606846976 := by omega
    clear hHeld hS0 hd0 CS huc hul W1 W2 hw2 hbR
    go_wp2
    go_loop [7, 9, 37] (fun s _ i => ∃ j t : Nat, j ≤ n ∧ i = .int .i64 j ∧ s = .int .i64 t ∧ Hid (t = q + k.length + (ps.take j).flatten.length)) (fun _ _ i => n - (intOf i).toNat)
    case atStart => exact ⟨0, q + k.length, by omega, rfl, rfl, Lib.hid rfl⟩
    case round =>
      obtain ⟨j, t, hj, rfl, rfl, HT⟩ := hrel
      by_cases hlj : j < n
      · have hjp : j < ps.length := by rw [HP2.out.len]; exact hlj
        have hc := HP2.out.here j hlj
        obtain ⟨aj, nj, cj, hej, hin⟩ := HP2.out.rows.at hjp
        rw [hej] at hc
        have hla := len_at hjp
        have hlen := hin.len
        have hT := HT.out
        have hb : t + nj ≤ 2305843009213693952 := by rw [hT, ← hlen]; have := HRR.out; rw [this] at hs; omega
        have HT2 : Hid (t + nj = q + k.length + (ps.take (j + 1)).flatten.length) := Lib.hid (by rw [hla.1, List.length_append, hlen, hT]; omega)
        clear hla hej hin hlen hjp hT
        go_wp2
        go_round
        case rel => exact ⟨j + 1, t + nj, by omega, by go_num, by go_num, HT2⟩
        case measure => simp [intOf]; omega
      · have hjn : j = n := by omega
        have hts : t = q + k.length + r.length := by rw [HT.out, HRR.out, hjn, List.take_of_length_le (by rw [HP2.out.len]; exact Nat.le_refl _)]
        have c0 := HK2.out.cells.cs.1
        by_cases hfull : size < (t : Int)
        · have HE : Hid (putN size k r l = 5) := Lib.hid (putN_full HKK.out (by rw [← HQ.out, ← hts]; exact hfull))
          have HF : Hid (RTo w B F pv size (putL size k r l) m w2) := Lib.hid (by
            rw [putL_same (by rw [HE.out]; decide)]
            exact HR.out.back ⟨c1, c2, HK2.out⟩ (fun j hj => .inl hj) ((tch_new HD.out).mono (fun _ h => h.elim)) HNL.out)
          clear hts
          go_wp2
          go_ret
          exact ⟨by rw [HE.out]; rfl, HF.out⟩
        · cases c1 with
          | none =>
            have h6 := HK2.out.none_ rfl
            omega
          | some b1 =>
            have hrl : r.length ≤ 67108864 := by have := HK2.out.sz; omega
            have HE : Hid (putN size k r l = 0) := Lib.hid (putN_ok HKK.out (by rw [← HQ.out, ← hts]; exact hfull))
            have PUT := Lib.hid (fun (w3 : World) (hb : Below w2.heap.size w2 w3) (ao : Option Addr) (c : Nat) ho => HK2.out.put (Nat.le_trans hBw.out HD.out.size) HKK.out hfit.out (by rw [← HQ.out, ← hts]; omega) (w3 := w3) hb (ao := ao) (n := r.length) (c := c) ho)
            have hu2 : usedP (putP k r l) = t := by rw [used_put, ← HQ.out, hts]
            rw [hu2] at PUT
            have CL := fun U => sclone_c k U (by omega)
            have CC := Lib.hid (fun U (hU : Below w2.heap.size w2 U) => concat_c b n us ps U (HP2.out.below hU) hn (by rw [← HRR.out]; omega))
            rw [← HRR.out] at CC
            have hd2 : Below w2.heap.size w2 w2.drew := (Below.refl _ _).drew
            have hS2 : w2.drew.cell? ⟨p, 1, none⟩ = some (.map (some b1)) := HK2.out.cells.cs.2.1
            have HK3 := Lib.hid (fun (w3 : World) (hb : Below w2.heap.size w2 w3) => (HK2.out.keep (tch_new hb) (fun _ _ h => h)).cells.cs.2.1)
            have htp : 0 < t := by omega
            clear hts hu2 hrl
            go_wp2_with fail
            go_region_held3 (fun wx => wx.cell? ⟨p, 1, none⟩ = some (.map (some b1))) (first | (with_reducible exact hS2) | (with_reducible assumption) | fail)
              (first
                | (go_at_call 118; (with_reducible refine (CL _).mono ?_); rintro e w3 ⟨rfl, hb3⟩; have hd3 := bl_tr hd2 hb3; have hS3 := HK3.out w3 hd3)
                | (go_at_call 82; (with_reducible refine (CC.out _ hd3).mono ?_); rintro e w4 ⟨⟨ao, c, rfl, ho⟩, hb4⟩; have hd4 := bl_tr hd3 hb4; have hS4 := HK3.out w4 hd4; obtain ⟨w5, hrun, hS5, hfin⟩ := PUT.out w4 hd4 ao c (own_base ho hd3.size); have hS6 := hS5.cs.2.1)
                | fail)
            have e3 := hS5.cs.2.2.2
            have e4 := hS5.free 3
            have HF : Hid (RTo w B F pv size (putL size k r l) m (w5.setCell ⟨p, 3, none⟩ (.int .i64 (t : Nat)))) := Lib.hid (by
              rw [putL_put HE.out]
              exact HR.out.back hfin.1 (fun j hj => hj.imp id (fun e => by have h1 := (ho.lt j e).1; have h2 := HD.out.size; have h3 := hd3.size; omega)) (((tch_new HD.out).mono (fun _ h => h.elim)).trans hfin.2) (fun e => absurd (HNL.out e).1 (by omega)))
            clear hrun hfin hS6 hS4 hS3 hS2 hd2 hd3 hd4 hS5 ho hb3 hb4 CC CL PUT HK3
            go_wp2
            go_ret
            exact ⟨by rw [HE.out]; rfl, HF.out⟩
  · have HE := Lib.hid (putN_bad (size := size) (r := ps.flatten) (l := l) hkk)
    have HS : Hid (RTo w B F pv size (putL size k ps.flatten l) m w) := Lib.hid (by rw [putL_same (by rw [HE.out]; decide)]; exact h.same (Tch.refl _ _))
    by_cases h1 : (k.length : Int) < 1
    · clear h hp hkk
      go_enter Try.func92, Try.ntmps92
      go_wp2
      go_ret
      exact ⟨by rw [HE.out]; rfl, HS.out⟩
    · have h2 : (64 : Int) < (k.length : Int) := by unfold OkK at hkk; omega
      clear h hp hkk
      go_enter Try.func92, Try.ntmps92
      go_wp2
      go_ret
      exact ⟨by rw [HE.out]; rfl, HS.out⟩
end Go.Proofs.Ytnhnpfhfcbmmlaa
namespace Go.Proofs.Ytnhnpfhfcbmmlaa
open Go Go.RowKit Go.Maps
set_option linter.unusedVariables false
set_option linter.unusedSimpArgs false

/-- Keys in a row, in block b. -/
structure KsIn (w : World) (b n : Nat) (ks : List Ky) : Prop where
  len : ks.length = n
  here : ∀ j, j < n → w.cell? ⟨b, j, none⟩ = some (sv (ks.getD j []))
  big : ∀ k ∈ ks, k.length ≤ maxLen
theorem KsIn.tch {T : Nat → Prop} {w w' : World} {b n : Nat} {ks : List Ky} (h : KsIn w b n ks) (ht : Tch T w w') (hn : ¬ T b) : KsIn w' b n ks :=
  ⟨h.len, fun j hj => ht.cell (h.here j hj) hn, h.big⟩
/-- While keys are dropped: the map has turned behind the number. -/
theorem StK.drop1 {w : World} {B : Nat} {F : Nat → Prop} {p : Nat} {size : Int} {c1 c2 : Option Nat} {l m : List Pr} (h : StK w B F p size (usedP l) c1 c2 l m) (k : Ky) (hk : k.length ≤ maxLen) (ty : TypeId) {u : Nat} (hu : u + sizeAt k l = usedP l) :
    SAt (w.setCell ⟨p, 3, none⟩ (.int .i64 (u : Nat))) p size c1 c2 u ∧ ∃ w4, (Builtin.delete_ #[tyM, tyK] ty #[.map c1, sv k]).run Try.prog (w.setCell ⟨p, 3, none⟩ (.int .i64 (u : Nat))) = .ok (.tuple #[]) w4 ∧
      StK w4 B F p size (usedP (cutP k l)) c1 c2 (cutP k l) m ∧ Tch F w w4 ∧ w4.heap.size = w.heap.size := by
  have hc1 := h.cells.set3 u
  refine ⟨hc1, ?_⟩
  have hT := tch_set w ⟨p, 3, none⟩ (.int .i64 (u : Nat))
  have hno := h.cells.noRow
  have hcur1 : MapO (w.setCell ⟨p, 3, none⟩ (.int .i64 (u : Nat))) F B c1 l := h.cur.tch hT (fun b e hb => (h.ne1 b e).1 hb) (fun j hj _ => by rw [hj]; exact hno)
  have hsyn1 : MapO (w.setCell ⟨p, 3, none⟩ (.int .i64 (u : Nat))) F B c2 m := h.syn.tch hT (fun b e hb => (h.ne2 b e).1 hb) (fun j hj _ => by rw [hj]; exact hno)
  obtain ⟨w4, hr, hm4, ht4, hs4⟩ := hcur1.drop h.srt.1 hk ty
  have hc4 := hc1.tch ht4 (fun e => (h.ne1 p e).1 rfl)
  have huc := used_cut (k := k) h.srt.1
  have e : u = usedP (cutP k l) := by omega
  subst e
  refine ⟨w4, hr, ⟨⟨srt_cut h.srt.1, h.srt.2⟩, ⟨ok_cut h.ok.1, h.ok.2⟩, h.sz, ⟨?_, h.used.2⟩, h.here, fun j hj => ⟨(h.blocks j hj).1, ?_⟩, hc4, hm4, ?_, h.nils, h.none_, h.apart⟩, ?_, ?_⟩
  · have := used_cut_le k l
    have := h.used.1
    omega
  · rw [hs4, World.size_setCell]; exact (h.blocks j hj).2
  · exact hsyn1.tch ht4 (fun b e hb => h.apart b hb e) (fun j hj _ => by
      have h5 := hcur1
      rw [hj] at h5
      exact MapS.noRow h5)
  · exact (hT.mono (fun j hj => by rw [hj]; exact h.here)).trans (ht4.mono (fun j hj => (h.ne1 j hj).2))
  · rw [hs4, World.size_setCell]
theorem dropP_take {ks : List Ky} {j : Nat} (hj : j < ks.length) (l : List Pr) : dropP (ks.take (j + 1)) l = cutP (ks.getD j []) (dropP (ks.take j) l) := by
  rw [List.take_add_one, List.getElem?_eq_getElem hj, List.getD_eq_getElem?_getD, List.getElem?_eq_getElem hj]
  exact dropP_app _ _ _
set_option maxRecDepth 100000 in
set_option maxHeartbeats 2000000 in
theorem drop_c (B : Nat) (F : Nat → Prop) (pv : Option Addr) (size : Int) (l m : List Pr) (b n : Nat) (ks : List Ky) (w : World) (h : Rcv w B F pv size l m) (hB : B ≤ w.heap.size) (hp : KsIn w b n ks) (hn : n ≤ 4611686018427387904) (hbF : ¬ F b) (hbw : b < w.heap.size) :
    Calls Try.prog 127 #[.pointer pv, .slice (some ⟨b, 0, none⟩) n n] w fun e w' => e = .returned (.int .i64 ((l.length - (dropP ks l).length : Nat) : Nat)) ∧ RTo w B F pv size (dropP ks l) m w' := by
  have HO := Lib.hid (orE_t B F pv size l m w h hB)
  have HNL : Hid (pv = none → size = 0 ∧ dropP ks l = [] ∧ m = []) := Lib.hid (fun e => by
    rcases h with h | ⟨p, e2, _⟩
    · refine ⟨h.2.1, ?_, h.2.2.2.1⟩
      have := len_drop_le ks l
      rw [h.2.2.1] at this ⊢
      exact List.eq_nil_of_length_eq_zero (by simpa using this)
    · rw [e] at e2; cases e2)
  have HP := Lib.hid hp
  clear h hp
  go_enter Try.func127, Try.ntmps127
  go_wp2_with fail
  refine HO.out.mono ?_
  rintro e w1 ⟨G, p, rfl, hR⟩
  obtain ⟨c1, c2, hK⟩ := hR.1
  have HR := Lib.hid hR
  have HK := Lib.hid hK
  have hGb : ¬ G b := fun hg => by
    rcases hR.2.2 with ⟨_, _, h4⟩ | ⟨_, rfl⟩
    · have := (h4 b hg).2; omega
    · exact hbF hg
  have HP1 := Lib.hid (HP.out.tch hR.2.1 (fun h => h))
  have c1e := hK.cells.cs.2.1
  have hlen := fun ty => hK.cur.len ty w1 (fun _ _ => rfl)
  have hL := Lib.hid hK.lens
  have HGB := Lib.hid hGb
  clear hK HO hR hB hGb hbF hbw
  go_wp2
  go_loopw [7, 17] (fun _ i wr => ∃ j : Nat, j ≤ n ∧ i = .int .i64 j ∧ Hid (StK wr B G p size (usedP (dropP (ks.take j) l)) c1 c2 (dropP (ks.take j) l) m) ∧ Hid (Tch G w1 wr)) (fun _ i _ => n - (intOf i).toNat)
  case atStart => exact ⟨0, by omega, rfl, HK, Lib.hid (Tch.refl _ _)⟩
  case round =>
    obtain ⟨j, hj, rfl, HKj, HTj⟩ := hrel
    by_cases hlj : j < n
    · have hjp : j < ks.length := by rw [HP1.out.len]; exact hlj
      have hc := (HP1.out.tch HTj.out HGB.out).here j hlj
      have hkb := HP1.out.big (ks.getD j []) (by rw [List.getD_eq_getElem?_getD, List.getElem?_eq_getElem hjp]; exact List.getElem_mem hjp)
      have HDT := Lib.hid (dropP_take hjp l)
      obtain ⟨k, hk⟩ : ∃ k, k = ks.getD j [] := ⟨_, rfl⟩
      obtain ⟨lj, hlj2⟩ : ∃ lj, lj = dropP (ks.take j) l := ⟨_, rfl⟩
      rw [← hk] at hc hkb HDT
      rw [← hlj2] at HKj HDT
      clear hk hjp hlj2
      have hK := HKj.out
      have e1 := hK.cells.cs.2.1
      have e3 := hK.cells.cs.2.2.2
      have e4 := hK.cells.free 3
      have huc := used_cut (k := k) hK.srt.1
      have hul := hK.lens.2.2.1
      have CS := Lib.hid (fun U (hU : Below wr.heap.size wr U) => sizeAt_c B G c1 lj k U (hK.cur.tch (tch_new hU) (fun _ _ h => h) (fun _ h => h.elim)) hkb (fun r hf => by have := hK.row hf; omega))
      have hd0 : Below wr.heap.size wr wr.drew := (Below.refl _ _).drew
      have hS0 : wr.drew.cell? ⟨p, 1, none⟩ = some (.map c1) ∧ wr.drew.cell? ⟨p, 3, none⟩ = some (.int .i64 (usedP lj : Nat)) := ⟨e1, e3⟩
      have HDR := Lib.hid (hK.keep (tch_new hd0) (fun _ _ h => h))
      have D1 := Lib.hid (fun ty => HDR.out.drop1 k hkb ty (u := usedP (cutP k lj)) huc)
      obtain ⟨u, hu⟩ : ∃ u, u = usedP lj := ⟨_, rfl⟩
      obtain ⟨z, hz⟩ : ∃ z, z = sizeAt k lj := ⟨_, rfl⟩
      obtain ⟨q, hq⟩ : ∃ q, q = usedP (cutP k lj) := ⟨_, rfl⟩
      rw [← hu] at hS0 hul huc e3
      rw [← hz] at CS huc
      rw [← hq] at huc D1
      have W1 : Hid (IntKind.i64.wrap ((u : Int) - (z : Int)) = (q : Int)) := Lib.hid (by rw [IntWalk.i64_in _ (by omega)]; omega)
      have w1e : ∀ [Inhabited Nat], wrap64 ((u : Int) - (z : Int)) = (q : Int) := by intro _; unfold wrap64; omega
      have HU' := Lib.hid hu
      have HQ := Lib.hid hq
      clear hK hu hz hq huc hul hS0 e1 e3 e4
      have e1 := HDR.out.cells.cs.2.1
      have e4 := HDR.out.cells.free 3
      go_wp2_with fail
      have e3 : wr.drew.cell? ⟨p, 3, none⟩ = some (.int .i64 (u : Nat)) := by rw [HU'.out]; exact HDR.out.cells.cs.2.2.2
      have e5 := (D1.out 0).1.cs.2.1
      refine wp_region_held_drew (S := (fun wx => wx.cell? ⟨p, 1, none⟩ = some (.map c1))) (by kernel_rfl) e1 (fun hHeld => ?_)
      refine wpAnyH_take (i := 0) (v := ?_) rfl (by kernel_rfl) (by kernel_rfl) (by kernel_rfl) (fun _ _ _ h => h) (Or.inl ⟨by rfl, ?_⟩) (by assumption) ?_
      rotate_left
      · intro wz hSw; (try dsimp only at hSw); (try simp only [List.getElem_toArray, List.getElem_cons_zero, List.getElem_cons_succ]); go_simp; first | done | with_reducible rfl
      try simp only [Act.put, List.setIfInBounds_toArray, List.set_cons_zero, List.set_cons_succ, List.getElem_toArray, List.getElem_cons_zero, List.getElem_cons_succ]
      refine wpAnyH_take (i := 1) (v := ?_) rfl (by kernel_rfl) (by kernel_rfl) (by kernel_rfl) (fun _ _ _ h => h) (Or.inl ⟨by rfl, ?_⟩) (by assumption) ?_
      rotate_left
      · intro wz hSw; (try dsimp only at hSw); (try simp only [List.getElem_toArray, List.getElem_cons_zero, List.getElem_cons_succ]); go_simp; first | done | with_reducible rfl
      try simp only [Act.put, List.setIfInBounds_toArray, List.set_cons_zero, List.set_cons_succ, List.getElem_toArray, List.getElem_cons_zero, List.getElem_cons_succ]
      refine wpAnyH_take (i := 2) (v := ?_) rfl (by kernel_rfl) (by kernel_rfl) (by kernel_rfl) (fun _ _ _ h => h) (Or.inl ⟨by rfl, ?_⟩) (by assumption) ?_
      rotate_left
      · intro wz hSw; (try dsimp only at hSw); (try simp only [List.getElem_toArray, List.getElem_cons_zero, List.getElem_cons_succ]); go_simp; first | done | with_reducible rfl
      try simp only [Act.put, List.setIfInBounds_toArray, List.set_cons_zero, List.set_cons_succ, List.getElem_toArray, List.getElem_cons_zero, List.getElem_cons_succ]
      refine wpAnyH_take (i := 4) (v := ?_) rfl (by kernel_rfl) (by kernel_rfl) (by kernel_rfl) (fun _ _ _ h => h) (Or.inl ⟨by rfl, ?_⟩) (by assumption) ?_
      rotate_left
      · intro wz hSw; (try dsimp only at hSw); (try simp only [List.getElem_toArray, List.getElem_cons_zero, List.getElem_cons_succ]); go_simp; first | done | with_reducible rfl
      try simp only [Act.put, List.setIfInBounds_toArray, List.set_cons_zero, List.set_cons_succ, List.getElem_toArray, List.getElem_cons_zero, List.getElem_cons_succ]
      refine wpAnyH_take (i := 5) (v := ?_) rfl (by kernel_rfl) (by kernel_rfl) (by kernel_rfl) (fun _ _ _ h => h) (Or.inl ⟨by rfl, ?_⟩) (by assumption) ?_
      rotate_left
      · intro wz hSw; (try dsimp only at hSw); (try simp only [List.getElem_toArray, List.getElem_cons_zero, List.getElem_cons_succ]); go_simp; first | done | with_reducible rfl
      try simp only [Act.put, List.setIfInBounds_toArray, List.set_cons_zero, List.set_cons_succ, List.getElem_toArray, List.getElem_cons_zero, List.getElem_cons_succ]
      refine wpAnyH_take (i := 6) (v := ?_) rfl (by kernel_rfl) (by kernel_rfl) (by kernel_rfl) (fun _ _ _ h => h) (Or.inl ⟨by rfl, ?_⟩) (by assumption) ?_
      rotate_left
      · intro wz hSw; (try dsimp only at hSw); (try simp only [List.getElem_toArray, List.getElem_cons_zero, List.getElem_cons_succ]); go_simp; first | done | with_reducible rfl
      try simp only [Act.put, List.setIfInBounds_toArray, List.set_cons_zero, List.set_cons_succ, List.getElem_toArray, List.getElem_cons_zero, List.getElem_cons_succ]
      refine wpAnyH_take (i := 7) (v := ?_) rfl (by kernel_rfl) (by kernel_rfl) (by kernel_rfl) (fun _ _ _ h => h) (Or.inl ⟨by rfl, ?_⟩) (by assumption) ?_
      rotate_left
      · intro wz hSw; (try dsimp only at hSw); (try simp only [List.getElem_toArray, List.getElem_cons_zero, List.getElem_cons_succ]); go_simp; first | done | with_reducible rfl
      try simp only [Act.put, List.setIfInBounds_toArray, List.set_cons_zero, List.set_cons_succ, List.getElem_toArray, List.getElem_cons_zero, List.getElem_cons_succ]
      refine wpAnyH_take (i := 8) (v := ?_) rfl (by kernel_rfl) (by kernel_rfl) (by kernel_rfl) (fun _ _ _ h => h) (Or.inl ⟨by rfl, ?_⟩) (by assumption) ?_
      rotate_left
      · intro wz hSw; (try dsimp only at hSw); (try simp only [List.getElem_toArray, List.getElem_cons_zero, List.getElem_cons_succ]); go_simp; first | done | with_reducible rfl
      try simp only [Act.put, List.setIfInBounds_toArray, List.set_cons_zero, List.set_cons_succ, List.getElem_toArray, List.getElem_cons_zero, List.getElem_cons_succ]
      refine wpAnyH_ready (rs := [3, 9]) (by kernel_rfl) (by simp) ?_
      refine AllReadyH.cons rfl (fun K hK => ?_) (AllReadyH.cons rfl (fun K hK => ?_) AllReadyH.nil)
      · try simp only [List.getElem_toArray, List.getElem_cons_zero, List.getElem_cons_succ]
        go_simp
        go_wp2_with fail
        refine hK.out _ _ ?_ (fun hHeld2 => ?_)
        · exact e1
        clear hK K
        try simp only [Act.put, List.setIfInBounds_toArray, List.set_cons_zero, List.set_cons_succ, List.getElem_toArray, List.getElem_cons_zero, List.getElem_cons_succ]
        refine wpAnyH_ready (rs := [9]) (by kernel_rfl) (by simp) ?_
        refine AllReadyH.cons rfl (fun K hK => ?_) AllReadyH.nil
        try simp only [List.getElem_toArray, List.getElem_cons_zero, List.getElem_cons_succ]
        go_simp
        refine (CS.out _ hd0).mono ?_
        rintro e w4 ⟨rfl, rfl⟩
        go_wp2_with fail
        refine hK.out _ _ ?_ (fun hHeld2 => ?_)
        · exact e1
        clear hK K
        try simp only [Act.put, List.setIfInBounds_toArray, List.set_cons_zero, List.set_cons_succ, List.getElem_toArray, List.getElem_cons_zero, List.getElem_cons_succ]
        refine wpAnyH_take (i := 10) (v := ?_) rfl (by kernel_rfl) (by kernel_rfl) (by kernel_rfl) (fun _ _ _ h => h) (Or.inl ⟨by rfl, ?_⟩) (by assumption) ?_
        rotate_left
        · intro wz hSw; (try dsimp only at hSw); (try simp only [List.getElem_toArray, List.getElem_cons_zero, List.getElem_cons_succ]); go_simp; first | done | with_reducible rfl
        try simp only [Act.put, List.setIfInBounds_toArray, List.set_cons_zero, List.set_cons_succ, List.getElem_toArray, List.getElem_cons_zero, List.getElem_cons_succ]
        refine wpAnyH_take (i := 11) (v := ?_) rfl (by kernel_rfl) (by kernel_rfl) (by kernel_rfl) (fun _ _ _ h => h) (Or.inl ⟨by rfl, ?_⟩) (by assumption) ?_
        rotate_left
        · intro wz hSw; (try dsimp only at hSw); (try simp only [List.getElem_toArray, List.getElem_cons_zero, List.getElem_cons_succ]); go_simp; first | done | with_reducible rfl
        try simp only [Act.put, List.setIfInBounds_toArray, List.set_cons_zero, List.set_cons_succ, List.getElem_toArray, List.getElem_cons_zero, List.getElem_cons_succ]
        refine wpAnyH_take (i := 12) (v := ?_) rfl (by kernel_rfl) (by kernel_rfl) (by kernel_rfl) (fun _ _ _ h => h) (Or.inl ⟨by rfl, ?_⟩) (by assumption) ?_
        rotate_left
        · intro wz hSw; (try dsimp only at hSw); (try simp only [List.getElem_toArray, List.getElem_cons_zero, List.getElem_cons_succ]); go_simp; first | done | with_reducible rfl
        try simp only [Act.put, List.setIfInBounds_toArray, List.set_cons_zero, List.set_cons_succ, List.getElem_toArray, List.getElem_cons_zero, List.getElem_cons_succ]
        refine wpAnyH_ready (rs := [13]) (by kernel_rfl) (by simp) ?_
        refine AllReadyH.cons rfl (fun K hK => ?_) AllReadyH.nil
        try simp only [List.getElem_toArray, List.getElem_cons_zero, List.getElem_cons_succ]
        go_simp
        rw [W1.out]
        go_wp2_with fail
        refine hK.out _ _ ?_ (fun hHeld2 => ?_)
        · exact e5
        clear hK K
        try simp only [Act.put, List.setIfInBounds_toArray, List.set_cons_zero, List.set_cons_succ, List.getElem_toArray, List.getElem_cons_zero, List.getElem_cons_succ]
        refine wpAnyH_done (by kernel_rfl) ?_ _
        obtain ⟨W5, hW5⟩ : ∃ W, W = (wr.setCell ⟨p, 3, none⟩ (.int .i64 (q : Nat))).drew := ⟨_, rfl⟩
        rw [← hW5]
        have hW6 : wr.drew.setCell ⟨p, 3, none⟩ (.int .i64 (q : Nat)) = W5 := by rw [hW5]; rfl
        obtain ⟨hs5, w5, hrun, hK5, hT5, hs5'⟩ := (D1.out 0)
        rw [hW6] at hrun e5
        have HK5 : Hid (StK w5 B G p size (usedP (dropP (ks.take (j + 1)) l)) c1 c2 (dropP (ks.take (j + 1)) l) m) := Lib.hid (by rw [HDT.out, ← HQ.out]; exact hK5)
        have HT5 := Lib.hid (HTj.out.trans (((tch_new hd0).mono (fun _ h => h.elim)).trans hT5))
        clear hW5 hW6 hHeld hHeld2 hs5 hK5 hT5 hs5' D1 CS hc hd0 e1 e3 e4 W1 w1e
        go_wp2
        go_roundw
        case rel => exact ⟨j + 1, by omega, by go_num, HK5, HT5⟩
        case measure => simp [intOf]; omega
      · try simp only [List.getElem_toArray, List.getElem_cons_zero, List.getElem_cons_succ]
        go_simp
        refine (CS.out _ hd0).mono ?_
        rintro e w4 ⟨rfl, rfl⟩
        go_wp2_with fail
        refine hK.out _ _ ?_ (fun hHeld2 => ?_)
        · exact e1
        clear hK K
        try simp only [Act.put, List.setIfInBounds_toArray, List.set_cons_zero, List.set_cons_succ, List.getElem_toArray, List.getElem_cons_zero, List.getElem_cons_succ]
        refine wpAnyH_ready (rs := [3]) (by kernel_rfl) (by simp) ?_
        refine AllReadyH.cons rfl (fun K hK => ?_) AllReadyH.nil
        try simp only [List.getElem_toArray, List.getElem_cons_zero, List.getElem_cons_succ]
        go_simp
        go_wp2_with fail
        refine hK.out _ _ ?_ (fun hHeld2 => ?_)
        · exact e1
        clear hK K
        try simp only [Act.put, List.setIfInBounds_toArray, List.set_cons_zero, List.set_cons_succ, List.getElem_toArray, List.getElem_cons_zero, List.getElem_cons_succ]
        refine wpAnyH_take (i := 10) (v := ?_) rfl (by kernel_rfl) (by kernel_rfl) (by kernel_rfl) (fun _ _ _ h => h) (Or.inl ⟨by rfl, ?_⟩) (by assumption) ?_
        rotate_left
        · intro wz hSw; (try dsimp only at hSw); (try simp only [List.getElem_toArray, List.getElem_cons_zero, List.getElem_cons_succ]); go_simp; first | done | with_reducible rfl
        try simp only [Act.put, List.setIfInBounds_toArray, List.set_cons_zero, List.set_cons_succ, List.getElem_toArray, List.getElem_cons_zero, List.getElem_cons_succ]
        refine wpAnyH_take (i := 11) (v := ?_) rfl (by kernel_rfl) (by kernel_rfl) (by kernel_rfl) (fun _ _ _ h => h) (Or.inl ⟨by rfl, ?_⟩) (by assumption) ?_
        rotate_left
        · intro wz hSw; (try dsimp only at hSw); (try simp only [List.getElem_toArray, List.getElem_cons_zero, List.getElem_cons_succ]); go_simp; first | done | with_reducible rfl
        try simp only [Act.put, List.setIfInBounds_toArray, List.set_cons_zero, List.set_cons_succ, List.getElem_toArray, List.getElem_cons_zero, List.getElem_cons_succ]
        refine wpAnyH_take (i := 12) (v := ?_) rfl (by kernel_rfl) (by kernel_rfl) (by kernel_rfl) (fun _ _ _ h => h) (Or.inl ⟨by rfl, ?_⟩) (by assumption) ?_
        rotate_left
        · intro wz hSw; (try dsimp only at hSw); (try simp only [List.getElem_toArray, List.getElem_cons_zero, List.getElem_cons_succ]); go_simp; first | done | with_reducible rfl
        try simp only [Act.put, List.setIfInBounds_toArray, List.set_cons_zero, List.set_cons_succ, List.getElem_toArray, List.getElem_cons_zero, List.getElem_cons_succ]
        refine wpAnyH_ready (rs := [13]) (by kernel_rfl) (by simp) ?_
        refine AllReadyH.cons rfl (fun K hK => ?_) AllReadyH.nil
        try simp only [List.getElem_toArray, List.getElem_cons_zero, List.getElem_cons_succ]
        go_simp
        rw [W1.out]
        go_wp2_with fail
        refine hK.out _ _ ?_ (fun hHeld2 => ?_)
        · exact e5
        clear hK K
        try simp only [Act.put, List.setIfInBounds_toArray, List.set_cons_zero, List.set_cons_succ, List.getElem_toArray, List.getElem_cons_zero, List.getElem_cons_succ]
        refine wpAnyH_done (by kernel_rfl) ?_ _
        obtain ⟨W5, hW5⟩ : ∃ W, W = (wr.setCell ⟨p, 3, none⟩ (.int .i64 (q : Nat))).drew := ⟨_, rfl⟩
        rw [← hW5]
        have hW6 : wr.drew.setCell ⟨p, 3, none⟩ (.int .i64 (q : Nat)) = W5 := by rw [hW5]; rfl
        obtain ⟨hs5, w5, hrun, hK5, hT5, hs5'⟩ := (D1.out 0)
        rw [hW6] at hrun e5
        have HK5 : Hid (StK w5 B G p size (usedP (dropP (ks.take (j + 1)) l)) c1 c2 (dropP (ks.take (j + 1)) l) m) := Lib.hid (by rw [HDT.out, ← HQ.out]; exact hK5)
        have HT5 := Lib.hid (HTj.out.trans (((tch_new hd0).mono (fun _ h => h.elim)).trans hT5))
        clear hW5 hW6 hHeld hHeld2 hs5 hK5 hT5 hs5' D1 CS hc hd0 e1 e3 e4 W1 w1e
        go_wp2
        go_roundw
        case rel => exact ⟨j + 1, by omega, by go_num, HK5, HT5⟩
        case measure => simp [intOf]; omega
    · have hjn : j = n := by omega
      subst hjn
      have hlast : dropP (ks.take j) l = dropP ks l := by rw [List.take_of_length_le (by rw [HP1.out.len]; exact Nat.le_refl _)]
      rw [hlast] at HKj
      have e1 := HKj.out.cells.cs.2.1
      have hlen2 := fun ty => HKj.out.cur.len ty wr (fun _ _ => rfl)
      have hle := len_drop_le ks l
      have hl1 := hL.out.1
      have w1e : ∀ [Inhabited Nat], wrap64 ((l.length : Int) - ((dropP ks l).length : Int)) = ((l.length - (dropP ks l).length : Nat) : Int) := by intro _; unfold wrap64; omega
      have HF := Lib.hid (HR.out.back ⟨c1, c2, HKj.out⟩ (fun j hj => .inl hj) HTj.out HNL.out)
      clear hlast hle hl1 hlen
      go_wp2
      go_ret
      exact ⟨by rw [w1e]; rfl, HF.out⟩
end Go.Proofs.Ytnhnpfhfcbmmlaa
namespace Go.Proofs.Ytnhnpfhfcbmmlaa
open Go Go.RowKit Go.Maps
set_option linter.unusedVariables false
set_option linter.unusedSimpArgs false

/-- Blocks that stay as they are. -/
def Kpt (K : Nat → Prop) (w w' : World) : Prop := ∀ k, K k → w'.heap[k]? = w.heap[k]?
theorem Kpt.cell {K : Nat → Prop} {w w' : World} (h : Kpt K w w') {p : Addr} {v : Value} (hc : w.cell? p = some v) (hk : K p.block) : w'.cell? p = some v := (World.cell?_of_block (h p.block hk)).trans hc
theorem Kpt.less {K K2 : Nat → Prop} {w w' : World} (h : Kpt K w w') (hk : ∀ k, K2 k → K k) : Kpt K2 w w' := fun k h3 => h k (hk k h3)
theorem Kpt.trans {K : Nat → Prop} {a b c : World} (h : Kpt K a b) (h2 : Kpt K b c) : Kpt K a c := fun k hk => (h2 k hk).trans (h k hk)
theorem non_below {w w' : World} (h : Tch Non w w') : Below w.heap.size w w' := h.below (fun _ h => h.elim) (Nat.le_refl _)
structure SOn (w0 w : World) (p : Nat) (size : Int) (l m : List Pr) (K : Nat → Prop) : Prop where
  st : ∃ F, St w w0.heap.size F p size l m ∧ ∀ k, K k → ¬ F k
  bel : Below w0.heap.size w0 w
  lt : ∀ k, K k → k < w.heap.size
section
variable {w0 w w' : World} {p : Nat} {size : Int} {l m : List Pr} {K K2 : Nat → Prop}
theorem SOn.facts (h : SOn w0 w p size l m K) : (SrtP l ∧ SrtP m) ∧ ((∀ e ∈ l, OkP e) ∧ (∀ e ∈ m, OkP e)) ∧ OkZ size ∧ ((usedP l : Int) ≤ size ∧ (usedP m : Int) ≤ size) := by
  obtain ⟨F, ⟨c1, c2, h1⟩, _⟩ := h.st
  exact ⟨h1.srt, h1.ok, h1.sz, h1.used⟩
theorem SOn.lens (h : SOn w0 w p size l m K) : l.length ≤ 67108864 ∧ m.length ≤ 67108864 ∧ usedP l ≤ 67108864 ∧ usedP m ≤ 67108864 := by
  obtain ⟨F, ⟨c1, c2, h1⟩, _⟩ := h.st
  exact h1.lens
theorem SOn.new (h : SOn w0 w p size l m K) (hb : Below w.heap.size w w') : SOn w0 w' p size l m K ∧ Kpt K w w' := by
  obtain ⟨F, h1, h2⟩ := h.st
  exact ⟨⟨⟨F, h1.keep (tch_new hb) (fun _ _ h => h), h2⟩, bl_tr h.bel hb, fun k hk => Nat.lt_of_lt_of_le (h.lt k hk) hb.size⟩, fun k hk => hb.block k (h.lt k hk)⟩
/-- More blocks to be left alone: new ones. -/
theorem SOn.grow (h : SOn w0 w p size l m K) (hb : Below w.heap.size w w') : SOn w0 w' p size l m (fun k => K k ∨ (w.heap.size ≤ k ∧ k < w'.heap.size)) := by
  obtain ⟨F, h1, h2⟩ := h.st
  refine ⟨⟨F, h1.keep (tch_new hb) (fun _ _ h => h), fun k hk hf => ?_⟩, bl_tr h.bel hb, fun k hk => ?_⟩
  · rcases hk with hk | hk
    · exact h2 k hk hf
    · have := (h1.blocks k hf).2
      omega
  · rcases hk with hk | hk
    · exact Nat.lt_of_lt_of_le (h.lt k hk) hb.size
    · exact hk.2
theorem SOn.less (h : SOn w0 w p size l m K) (hk : ∀ k, K2 k → K k) : SOn w0 w p size l m K2 := by
  obtain ⟨F, h1, h2⟩ := h.st
  exact ⟨⟨F, h1, fun k h3 => h2 k (hk k h3)⟩, h.bel, fun k h3 => h.lt k (hk k h3)⟩
/-- What is written in K leaves the store. -/
theorem SOn.write {T : Nat → Prop} (h : SOn w0 w p size l m K) (ht : Tch T w w') (hT : ∀ k, T k → K k ∧ w0.heap.size ≤ k) : SOn w0 w' p size l m K := by
  obtain ⟨F, h1, h2⟩ := h.st
  exact ⟨⟨F, h1.keep ht (fun k hf hk => h2 k (hT k hk).1 hf), h2⟩, h.bel.trans (ht.below (fun k hk => (hT k hk).2) h.bel.size), fun k hk => Nat.lt_of_lt_of_le (h.lt k hk) ht.size⟩
theorem RTo.on {F : Nat → Prop} {l' m' : List Pr} (hb : Below w0.heap.size w0 w) (hF : ∀ k, F k → w0.heap.size ≤ k) (hK : ∀ k, K k → ¬ F k) (hl : ∀ k, K k → k < w.heap.size) (h : RTo w w0.heap.size F (some ⟨p, 0, none⟩) size l' m' w') : SOn w0 w' p size l' m' K ∧ Kpt K w w' := by
  obtain ⟨F2, h1, h2, h3⟩ := h
  rcases h1 with ⟨e, _⟩ | ⟨p', e, h1⟩
  · cases e
  cases e
  refine ⟨⟨⟨F2, h1, fun k hk hf => ?_⟩, hb.trans (h3.below hF hb.size), fun k hk => Nat.lt_of_lt_of_le (hl k hk) h3.size⟩, fun k hk => h3.block k (hl k hk) (hK k hk)⟩
  rcases h2 k hf with h4 | h4
  · exact hK k hk h4
  · have := hl k hk
    omega
theorem SOn.put (h : SOn w0 w p size l m K) (k : Ky) (b n : Nat) (us : List Value) (ps : List (List Int)) (hk : k.length ≤ maxLen) (hp : RsIn w b n us ps) (hn : n ≤ 1048576) (hs : ps.flatten.length ≤ 1152921504606846976) :
    Calls Try.prog 92 #[.pointer (some ⟨p, 0, none⟩), sv k, .slice (some ⟨b, 0, none⟩) n n] w fun e w' => e = .returned (errF (putN size k ps.flatten l : Nat)) ∧ SOn w0 w' p size (putL size k ps.flatten l) m K ∧ Kpt K w w' := by
  obtain ⟨F, h1, h2⟩ := h.st
  refine (put_c w0.heap.size F _ size l m k b n us ps w (.inr ⟨p, rfl, h1⟩) h.bel.size hk hp hn hs).mono ?_
  rintro e w' ⟨he, hT⟩
  exact ⟨he, hT.on h.bel (fun k hk => (h1.blocks k hk).1) h2 h.lt⟩
theorem SOn.drop (h : SOn w0 w p size l m K) (b n : Nat) (ks : List Ky) (hp : KsIn w b n ks) (hn : n ≤ 4611686018427387904) (hb : K b) :
    Calls Try.prog 127 #[.pointer (some ⟨p, 0, none⟩), .slice (some ⟨b, 0, none⟩) n n] w fun e w' => e = .returned (.int .i64 ((l.length - (dropP ks l).length : Nat) : Nat)) ∧ SOn w0 w' p size (dropP ks l) m K ∧ Kpt K w w' := by
  obtain ⟨F, h1, h2⟩ := h.st
  refine (drop_c w0.heap.size F _ size l m b n ks w (.inr ⟨p, rfl, h1⟩) h.bel.size hp hn (h2 b hb) (h.lt b hb)).mono ?_
  rintro e w' ⟨he, hT⟩
  exact ⟨he, hT.on h.bel (fun k hk => (h1.blocks k hk).1) h2 h.lt⟩
theorem SOn.sync (h : SOn w0 w p size l m K) :
    Calls Try.prog 111 #[.pointer (some ⟨p, 0, none⟩)] w fun e w' => e = .returned (.int .i64 (unlikeP l m : Nat)) ∧ SOn w0 w' p size l l K ∧ Kpt K w w' := by
  obtain ⟨F, h1, h2⟩ := h.st
  refine (sync_c w0.heap.size F _ size l m w (.inr ⟨p, rfl, h1⟩) h.bel.size).mono ?_
  rintro e w' ⟨he, hT⟩
  exact ⟨he, hT.on h.bel (fun k hk => (h1.blocks k hk).1) h2 h.lt⟩
theorem SOn.crash (h : SOn w0 w p size l m K) :
    Calls Try.prog 37 #[.pointer (some ⟨p, 0, none⟩)] w fun e w' => e = .returned (.int .i64 (unlikeP l m : Nat)) ∧ SOn w0 w' p size m m K ∧ Kpt K w w' := by
  obtain ⟨F, h1, h2⟩ := h.st
  refine (crash_c w0.heap.size F _ size l m w (.inr ⟨p, rfl, h1⟩) h.bel.size).mono ?_
  rintro e w' ⟨he, hT⟩
  exact ⟨he, hT.on h.bel (fun k hk => (h1.blocks k hk).1) h2 h.lt⟩
theorem SOn.get (h : SOn w0 w p size l m K) (k : Ky) (hk : k.length ≤ maxLen) :
    Calls Try.prog 115 #[.pointer (some ⟨p, 0, none⟩), sv k] w fun e w' => GetV w (findP k l) e w' := by
  obtain ⟨F, h1, h2⟩ := h.st
  exact get_c w0.heap.size F _ size l m k w (.inr ⟨p, rfl, h1⟩) h.bel.size hk
theorem SOn.used (h : SOn w0 w p size l m K) :
    Calls Try.prog 91 #[.pointer (some ⟨p, 0, none⟩)] w fun e w' => e = .returned (.int .i64 (usedP l : Nat)) ∧ Tch Non w w' := by
  obtain ⟨F, h1, h2⟩ := h.st
  exact used_c w0.heap.size F _ size l m w (.inr ⟨p, rfl, h1⟩) h.bel.size
theorem SOn.made {e : Ending} (hz : OkZ size) (hb : Below w0.heap.size w0 w) (hK : ∀ k, K k → k < w.heap.size) (h : SNew w size e w') : ∃ p, e = .returned (.tuple #[.pointer (some ⟨p, 0, none⟩), .nilIface]) ∧ SOn w0 w' p size [] [] K ∧ Kpt K w w' := by
  obtain ⟨⟨_, p, F, he, hs⟩ | ⟨hn, _⟩, hb2⟩ := h
  · exact ⟨p, he, ⟨⟨F, hs.base hb.size, fun k hk hf => by have := (hs.blocks k hf).1; have := hK k hk; omega⟩, bl_tr hb hb2, fun k hk => Nat.lt_of_lt_of_le (hK k hk) hb2.size⟩, fun k hk => hb2.block k (hK k hk)⟩
  · exact absurd hz hn
end
/-- A row of one row, in a new block. -/
theorem RsIn.one {w : World} {a : Option Addr} {n c : Nat} {r : List Int} (h : In w a n c r) : RsIn (w.alloc (.cells #[.slice a n c] tyB)) w.heap.size 1 [.slice a n c] [r] :=
  ⟨rfl, fun j hj => by
    have e : j = 0 := by omega
    subst e
    simp, ⟨⟨a, n, c, rfl, h.below (bl_al (Below.refl _ _) _)⟩, trivial⟩⟩
theorem RsIn.two {w : World} {a a2 : Option Addr} {n c n2 c2 : Nat} {r r2 : List Int} (h : In w a n c r) (h2 : In w a2 n2 c2 r2) : RsIn (w.alloc (.cells #[.slice a n c, .slice a2 n2 c2] tyB)) w.heap.size 2 [.slice a n c, .slice a2 n2 c2] [r, r2] :=
  ⟨rfl, fun j hj => by
    have e : j = 0 ∨ j = 1 := by omega
    rcases e with rfl | rfl
    · simp
    · simp, ⟨⟨a, n, c, rfl, h.below (bl_al (Below.refl _ _) _)⟩, ⟨a2, n2, c2, rfl, h2.below (bl_al (Below.refl _ _) _)⟩, trivial⟩⟩
/-- A row of one byte. -/
theorem in_one (w : World) (x : Int) (hx : 0 ≤ x ∧ x < 256) : In (w.alloc (.cells #[.int .u8 x] 5 (1, 2))) (some ⟨w.heap.size, 0, none⟩) 1 1 [x] :=
  ⟨rfl, by omega, (fun e => by cases e), ⟨_, 1, rfl, .inr ⟨w.heap.size, 0, rfl, fun j hj => by
    have e : j = 0 := by simpa using hj
    subst e
    have := cells_new w [.int .u8 x] 5 (1, 2) 0 (.int .u8 x) rfl
    simpa using this⟩⟩, fun b hb => by simp at hb; omega⟩
/-- Put of one row. -/
theorem SOn.put1 {w0 w : World} {p : Nat} {size : Int} {l m : List Pr} {K : Nat → Prop} (h : SOn w0 w p size l m K) (k : Ky) (hk : k.length ≤ maxLen) {a : Option Addr} {n c : Nat} {r : List Int} (hr : In w a n c r) (hn : n ≤ 140737488355328) :
    Calls Try.prog 92 #[.pointer (some ⟨p, 0, none⟩), sv k, .slice (some ⟨w.heap.size, 0, none⟩) 1 1] (w.alloc (.cells #[.slice a n c] tyB)) fun e w' => e = .returned (errF (putN size k r l : Nat)) ∧ SOn w0 w' p size (putL size k r l) m K ∧ Kpt K w w' := by
  obtain ⟨hO, hk2⟩ := h.new (bl_al (Below.refl _ _) (.cells #[.slice a n c] tyB))
  have hlen := hr.len
  refine (hO.put k w.heap.size 1 _ [r] hk (RsIn.one hr) (by omega) (by simp; omega)).mono ?_
  rintro e w' ⟨rfl, h1, h2⟩
  rw [flat1] at h1 ⊢
  exact ⟨rfl, h1, hk2.trans h2⟩
/-- Put of one byte. -/
theorem SOn.putc {w0 w : World} {p : Nat} {size : Int} {l m : List Pr} {K : Nat → Prop} (h : SOn w0 w p size l m K) (k : Ky) (hk : k.length ≤ maxLen) (x : Int) (hx : 0 ≤ x ∧ x < 256) :
    Calls Try.prog 92 #[.pointer (some ⟨p, 0, none⟩), sv k, .slice (some ⟨w.heap.size + 1, 0, none⟩) 1 1] ((w.alloc (.cells #[.int .u8 x] 5 (1, 2))).alloc (.cells #[.slice (some ⟨w.heap.size, 0, none⟩) 1 1] tyB)) fun e w' => e = .returned (errF (putN size k [x] l : Nat)) ∧ SOn w0 w' p size (putL size k [x] l) m K ∧ Kpt K w w' := by
  obtain ⟨hO, hk2⟩ := h.new (bl_al (Below.refl _ _) (.cells #[.int .u8 x] 5 (1, 2)))
  have := hO.put1 k hk (in_one w x hx) (by omega)
  rw [World.size_alloc] at this
  refine this.mono ?_
  rintro e w' ⟨rfl, h1, h2⟩
  exact ⟨rfl, h1, hk2.trans h2⟩
theorem conv1 (w : World) (x : Int) : (convert 26 26 (.slice (some ⟨w.heap.size, 0, none⟩) 1 1)).run Try.prog (w.alloc (.cells #[.int .u8 x] 5)) = .ok (.slice (some ⟨w.heap.size, 0, none⟩) 1 1) (w.alloc (.cells #[.int .u8 x] 5 (1, 2))) := Lib.run_convert_bytes_const (P := Try.prog) w 26 5 #[.int .u8 x] 1 1 Try.underlying26 Try.underlying5
theorem nilNe (w : World) : (binOp .neq 28 .nilIface .nilIface).run Try.prog w = .ok (.bool false) w := by kernel_rfl
theorem nilEl (w : World) : (binOp .eql 28 .nilIface .nilIface).run Try.prog w = .ok (.bool true) w := by kernel_rfl
def alx : Pr := ⟨[97], [120]⟩
def aly : Pr := ⟨[97], [121]⟩
def alz : Pr := ⟨[98], [122]⟩
theorem alP_1 : putN 100 [97] [120] [] = 0 ∧ putL 100 [97] [120] [] = [alx] := ⟨by decide, rfl⟩
theorem alP_2 : putN 100 [97] [121] [alx] = 0 ∧ putL 100 [97] [121] [alx] = [aly] := ⟨by decide, rfl⟩
theorem alP_3 : putN 100 [98] [122] [aly] = 0 ∧ putL 100 [98] [122] [aly] = [aly, alz] := ⟨by decide, rfl⟩
theorem alU : unlikeP [alx] [] = 1 ∧ unlikeP [aly, alz] [alx] = 2 := ⟨by decide, by decide⟩
theorem alF : findP [97] [alx] = some [120] ∧ findP [98] [alx] = none := ⟨rfl, rfl⟩
theorem GetV.no' {w w' : World} {e : Ending} (h : GetV w none e w') : e = .returned (.tuple #[.slice none 0 0, errnoF 6]) ∧ Tch Non w w' := h
theorem GetV.yes' {w w' : World} {r : List Int} {e : Ending} (h : GetV w (some r) e w') : ∃ ao c, e = .returned (.tuple #[.slice ao r.length c, .nilIface]) ∧ w'.ownsRow w.heap.size 5 1 (.slice ao r.length c) r.length (u8s r) ∧ Tch Non w w' := h
end Go.Proofs.Ytnhnpfhfcbmmlaa
