/- What FabricPlays holds: the program's fabric beside the document's. No conditions but those stated. -/
import Derived.Test.YtkiccdgfhahdlaaFBt
import Derived.Test.YtkiccdgfhahdlaaRfU
import Derived.Test.YtkiccdgfhahdlaaRfC
import Derived.Test.YtkiccdgfhahdlaaOvr
import Derived.LoopTactic
namespace Go.Proofs.Ytkiccdgfhahdlaa
open Go Go.RowKit
set_option linter.unusedVariables false
set_option linter.unusedSimpArgs false

/-- Two fabrics that share no block. -/
structure Pl2 (w0 w : World) (f : Nat) (F : Nat → Prop) (ls : List Lt) (last : Nat) (m : Nat) (R : Nat → Prop) (ms : List Lt) (lm : Nat) : Prop where
  st : FSt w w0.heap.size F f ls last
  rf : LSt w w0.heap.size R m ms lm
  dj : ∀ k, F k → ¬ R k
  bel : Below w0.heap.size w0 w
section
variable {w0 w w' : World} {f last m lm : Nat} {F R : Nat → Prop} {ls ms : List Lt}
theorem Pl2.baseF (h : Pl2 w0 w f F ls last m R ms lm) : ∀ k, F k → w0.heap.size ≤ k := fun k hk => (h.st.blocks k hk).1
theorem Pl2.baseR (h : Pl2 w0 w f F ls last m R ms lm) : ∀ k, R k → w0.heap.size ≤ k := fun k hk => (h.rf.blocks k hk).1
theorem Pl2.new (h : Pl2 w0 w f F ls last m R ms lm) (hb : Below w.heap.size w w') : Pl2 w0 w' f F ls last m R ms lm :=
  ⟨h.st.keep (tch_new hb) (fun _ _ h => h), h.rf.keep (tch_new hb) (fun _ _ h => h), h.dj, h.bel.trans (hb.mono h.bel.size)⟩
theorem Pl2.turnF (h : Pl2 w0 w f F ls last m R ms lm) {F2 : Nat → Prop} {ls2 : List Lt} {last2 : Nat} (ht : FTo w w0.heap.size F f ls2 last2 F2 w') : Pl2 w0 w' f F2 ls2 last2 m R ms lm :=
  ⟨ht.1, h.rf.keep ht.2.2 (fun k hk e => h.dj k e hk), fun k hk e => (ht.2.1 k hk).elim (fun h1 => h.dj k h1 e) (fun h1 => by have := (h.rf.blocks k e).2; omega), h.bel.trans (ht.2.2.below h.baseF h.bel.size)⟩
theorem Pl2.turnR (h : Pl2 w0 w f F ls last m R ms lm) {R2 : Nat → Prop} {ms2 : List Lt} {lm2 : Nat} (ht : LTo w w0.heap.size R m ms2 lm2 R2 w') : Pl2 w0 w' f F ls last m R2 ms2 lm2 :=
  ⟨h.st.keep ht.2.2 (fun k hk e => h.dj k hk e), ht.1, fun k hk e => (ht.2.1 k e).elim (fun h1 => h.dj k hk h1) (fun h1 => by have := (h.st.blocks k hk).2; omega), h.bel.trans (ht.2.2.below h.baseR h.bel.size)⟩
theorem Pl2.tch {T : Nat → Prop} (h : Pl2 w0 w f F ls last m R ms lm) (ht : Tch T w w') (h1 : ∀ k, F k → ¬ T k) (h2 : ∀ k, R k → ¬ T k) (h3 : ∀ k, T k → w0.heap.size ≤ k) : Pl2 w0 w' f F ls last m R ms lm :=
  ⟨h.st.keep ht h1, h.rf.keep ht h2, h.dj, h.bel.trans (ht.below h3 h.bel.size)⟩
end
set_option maxRecDepth 100000 in
theorem num_t (k : Nat) (hk : k = 0 ∨ k = 5 ∨ k = 6 ∨ k = 12) (w : World) : Calls Try.prog 15 #[errF k] w fun e w' => e = .returned (.int .i64 k) ∧ w = w' := by
  rcases hk with rfl | rfl | rfl | rfl
  · rw [show errF 0 = Value.nilIface from rfl]
    go_enter Try.func15, Try.ntmps15
    go_wp2
    go_ret
    exact ⟨rfl, rfl⟩
  · have ta : ∀ w : World, (Instr.typeAssert (errnoF 5) 36 59 true).run Try.prog w = .ok (.tuple #[.int .i64 5, .bool true]) w := fun _ => by kernel_rfl
    rw [show errF 5 = errnoF 5 from rfl]
    go_enter Try.func15, Try.ntmps15
    go_wp2
    go_ret
    exact ⟨rfl, rfl⟩
  · have ta : ∀ w : World, (Instr.typeAssert (errnoF 6) 36 59 true).run Try.prog w = .ok (.tuple #[.int .i64 6, .bool true]) w := fun _ => by kernel_rfl
    rw [show errF 6 = errnoF 6 from rfl]
    go_enter Try.func15, Try.ntmps15
    go_wp2
    go_ret
    exact ⟨rfl, rfl⟩
  · have ta : ∀ w : World, (Instr.typeAssert (errnoF 12) 36 59 true).run Try.prog w = .ok (.tuple #[.int .i64 12, .bool true]) w := fun _ => by kernel_rfl
    rw [show errF 12 = errnoF 12 from rfl]
    go_enter Try.func15, Try.ntmps15
    go_wp2
    go_ret
    exact ⟨rfl, rfl⟩
theorem putR_err (ls : List Lt) (last : Nat) (l : Lt) : (putR ls last l).2.1 = 0 ∨ (putR ls last l).2.1 = 5 := by
  unfold putR
  split
  · exact .inr rfl
  · exact .inl rfl
theorem sendR_err (ls : List Lt) (last : Nat) (frm dst : Int) (ctl : Bool) (bs : List Int) : (sendR ls last frm dst ctl bs).2.1 = 0 ∨ (sendR ls last frm dst ctl bs).2.1 = 5 ∨ (sendR ls last frm dst ctl bs).2.1 = 6 ∨ (sendR ls last frm dst ctl bs).2.1 = 12 := by
  unfold sendR
  split
  · exact (putR_err _ _ _).imp id (fun h => .inl h)
  · exact .inr (.inr (.inr rfl))
theorem copyR_err (ls : List Lt) (last : Nat) (n : Int) : (copyR ls last n).2.1 = 0 ∨ (copyR ls last n).2.1 = 5 ∨ (copyR ls last n).2.1 = 6 ∨ (copyR ls last n).2.1 = 12 := by
  unfold copyR
  split
  · exact .inr (.inr (.inl rfl))
  · exact (putR_err _ _ _).imp id (fun h => .inl h)
theorem nthR_err (ls : List Lt) (n : Int) : (nthR ls n).2 = 0 ∨ (nthR ls n).2 = 5 ∨ (nthR ls n).2 = 6 ∨ (nthR ls n).2 = 12 := by
  unfold nthR
  split
  · exact .inr (.inr (.inl rfl))
  · exact .inl rfl
theorem refTake_t (B m last : Nat) (F : Nat → Prop) (ls : List Lt) (n : Int) (w : World) (hL : LSt w B F m ls last) (hB : B ≤ w.heap.size) (h4 : ls.length ≤ 4096) :
    Calls Try.prog 19 #[.pointer (some ⟨m, 0, none⟩), .int .i64 n] w (RTke w B F m (nthR ls n).1 ((nthR ls n).2 : Nat) (leftR ls n) last) := by
  unfold nthR leftR
  split
  · rename_i h
    subst h
    exact refTake_none B m last F n w hL
  · rename_i h
    exact refTake_some B m last F ls n w hL hB (List.length_pos_iff.2 h) h4
theorem refNth_t (B m last : Nat) (F : Nat → Prop) (ls : List Lt) (n : Int) (w : World) (hL : LSt w B F m ls last) (h4 : ls.length ≤ 4096) :
    Calls Try.prog 24 #[.pointer (some ⟨m, 0, none⟩), .int .i64 n] w (GotN w B F m (nthR ls n).1 ((nthR ls n).2 : Nat)) := by
  unfold nthR
  split
  · rename_i h
    subst h
    exact refNth_none B m last F n w hL
  · rename_i h
    exact refNth_some B m last F ls n w hL (List.length_pos_iff.2 h) h4
set_option maxRecDepth 100000 in
theorem over_t {B n : Nat} {v : Value} {l : List Int} {w : World} (h : w.ownsRow B 5 1 v n (u8s l)) (hb : n ≤ 4611686018427387904) :
    Calls Try.prog 17 #[v] w fun e w' => e = .returned (.tuple #[]) ∧ Tch (fun k => v.ownBlock = some k) w w' := by
  have hl : l.length = n := by have := h.1; simpa [u8s] using this
  rcases h.2 with ⟨rfl, rfl⟩ | ⟨g, cap, cur, rfl, hg, _⟩
  · clear h hl
    go_enter Try.func17, Try.ntmps17
    go_wp2
    go_loopw [5] (fun i wr => i = .int .i64 0 ∧ Hid (w = wr)) (fun _ _ => 0)
    case atStart => exact ⟨rfl, Lib.hid rfl⟩
    case round =>
      obtain ⟨rfl, hw⟩ := hrel
      have HW := Lib.hid hw.out
      clear hw
      go_wp2
      go_end0
      exact ⟨rfl, by rw [HW.out]; exact Tch.refl _ _⟩
  · refine (over_any B g cap n n l w ⟨h, hl, hg⟩ (Nat.le_refl _) hb cap).mono ?_
    rintro e w' ⟨rfl, hgr⟩
    exact ⟨rfl, (tch_grown hgr).mono (fun k hk => hk.symm)⟩
end Go.Proofs.Ytkiccdgfhahdlaa
