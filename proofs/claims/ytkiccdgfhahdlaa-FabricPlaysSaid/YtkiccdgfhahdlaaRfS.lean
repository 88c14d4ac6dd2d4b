/- The document's fabric: Send, Copy. Conditions: those stated. -/
import Derived.Test.YtkiccdgfhahdlaaRfN
import Derived.Test.YtkiccdgfhahdlaaNdA
namespace Go.Proofs.Ytkiccdgfhahdlaa
open Go Go.RowKit
set_option linter.unusedVariables false
set_option linter.unusedSimpArgs false

/-- What a send of the document's leaves. -/
def RSnt (w : World) (B : Nat) (F : Nat → Prop) (m : Nat) (r : Nat × Nat × List Lt × Nat) (e : Ending) (w' : World) : Prop :=
  e = .returned (.tuple #[.int .i64 r.1, .int .i64 r.2.1]) ∧ ∃ F2, LTo w B F m r.2.2.1 r.2.2.2 F2 w'
theorem refPut_any (B m last : Nat) (F : Nat → Prop) (ls : List Lt) (l : Lt) (a : Option Addr) (k c : Nat) (w : World) (hL : LSt w B F m ls last) (hB : B ≤ w.heap.size) (hl : last ≤ 1000000) (hI : ∀ w', Tch (· = m) w w' → In w' a k c l.bs) (hk : k ≤ 1048576) :
    Calls Try.prog 38 #[.pointer (some ⟨m, 0, none⟩), l.val (.slice a k c)] w (RSnt w B F m (putR ls last l)) := by
  unfold putR
  split
  · rename_i h
    refine (refPut_full B m last F ls l (.slice a k c) w hL h).mono ?_
    rintro e w' ⟨rfl, h1⟩
    exact ⟨rfl, F, h1⟩
  · rename_i h
    refine (refPut_ok B m last F ls l a k c w hL hB (last + 1) rfl (by omega) hl hI hk).mono ?_
    rintro e w' ⟨rfl, h1⟩
    exact ⟨rfl, h1⟩
set_option maxRecDepth 100000 in
theorem refSend_t (B m last : Nat) (F : Nat → Prop) (ls : List Lt) (frm dst : Int) (ctl : Bool) (bs : List Int) (a : Option Addr) (k c : Nat) (w : World) (hL : LSt w B F m ls last) (hB : B ≤ w.heap.size) (hl : last ≤ 1000000) (hI : ∀ w', Tch (· = m) w w' → In w' a k c bs) (hk : k ≤ 1048576) :
    Calls Try.prog 14 #[.pointer (some ⟨m, 0, none⟩), .int .i64 frm, .int .i64 dst, .bool ctl, .slice a k c] w (RSnt w B F m (sendR ls last frm dst ctl bs)) := by
  have CP := Lib.hid (refPut_any B m last F ls ⟨0, frm, dst, ctl, bs⟩ a k c w hL hB hl hI hk)
  have HN := Lib.hid (show LTo w B F m ls last F w from LTo.same (T := Non) hL (Tch.refl _ _))
  unfold sendR
  clear hL hI
  by_cases hf : IsNode frm
  · have CF := Lib.hid (is_yes frm hf w)
    by_cases ht : IsNode dst
    · rw [if_pos ⟨hf, ht⟩]
      have CT := Lib.hid (is_yes dst ht w)
      unfold Lt.val at CP
      clear hf ht
      go_enter Try.func14, Try.ntmps14
      go_wp2_with fail
      refine CF.out.mono ?_
      rintro e w1 ⟨rfl, rfl⟩
      clear CF
      go_wp2_with fail
      refine CT.out.mono ?_
      rintro e w1 ⟨rfl, rfl⟩
      clear CT
      go_wp2_with fail
      refine CP.out.mono ?_
      rintro e w1 ⟨rfl, h⟩
      have H := Lib.hid h
      clear h CP
      go_wp2
      go_ret2
      exact ⟨rfl, H.out⟩
    · rw [if_neg (fun h => ht h.2)]
      have CT := Lib.hid (is_no dst ht w)
      clear hf ht CP
      go_enter Try.func14, Try.ntmps14
      go_wp2_with fail
      refine CF.out.mono ?_
      rintro e w1 ⟨rfl, rfl⟩
      clear CF
      go_wp2_with fail
      refine CT.out.mono ?_
      rintro e w1 ⟨rfl, rfl⟩
      clear CT
      go_wp2
      go_ret2
      exact ⟨rfl, F, HN.out⟩
  · rw [if_neg (fun h => hf h.1)]
    have CF := Lib.hid (is_no frm hf w)
    clear hf CP
    go_enter Try.func14, Try.ntmps14
    go_wp2_with fail
    refine CF.out.mono ?_
    rintro e w1 ⟨rfl, rfl⟩
    clear CF
    go_wp2
    go_ret2
    exact ⟨rfl, F, HN.out⟩
theorem Bx.stored {w : World} {p : Nat} {l0 : Lt} {v0 : Value} (h : Bx w p l0 v0) (l : Lt) (v : Value) : Bx (((((w.setCell ⟨p, 0, none⟩ (.int .i64 l.id)).setCell ⟨p, 1, none⟩ (.int .i64 l.frm)).setCell ⟨p, 2, none⟩ (.int .i64 l.dst)).setCell ⟨p, 3, none⟩ (.bool l.ctl)).setCell ⟨p, 4, none⟩ v) p l v := by
  have := box_set (box_set (box_set (box_set (box_set h 0 (.int .i64 l.id)) 1 (.int .i64 l.frm)) 2 (.int .i64 l.dst)) 3 (.bool l.ctl)) 4 v
  simpa [Bx] using this
end Go.Proofs.Ytkiccdgfhahdlaa
