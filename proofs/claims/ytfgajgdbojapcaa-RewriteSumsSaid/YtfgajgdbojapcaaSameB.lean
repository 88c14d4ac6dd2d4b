/- Contract of the document's Same: whether two packets are the same. Condition: both Datas came in. -/
import Derived.Test.YtfgajgdbojapcaaSameA
namespace Go.Proofs.Ytfgajgdbojapcaa
open Go Go.RowKit
set_option linter.unusedVariables false
set_option linter.unusedSimpArgs false

set_option maxRecDepth 100000 in
set_option maxHeartbeats 400000 in
theorem refSame_0 (p q : Pk) (a b : Option Addr) (n c m d : Nat) (w : World) (hA : In w a n c p.data) (hB : In w b m d q.data) (e0 : (p.tos == q.tos) = false) :
    Calls Try.prog 25 #[p.val a n c, q.val b m d] w fun e w' => e = .returned (.bool false) ∧ Below w.heap.size w w' := by
  clear hA hB
  go_enter Try.func25, Try.ntmps25
  go_wp2
  go_ret
  exact ⟨rfl, bl_al (bl_al (Below.refl _ _) _) _⟩
set_option maxRecDepth 100000 in
set_option maxHeartbeats 400000 in
theorem refSame_1 (p q : Pk) (a b : Option Addr) (n c m d : Nat) (w : World) (hA : In w a n c p.data) (hB : In w b m d q.data) (e0 : (p.tos == q.tos) = true) (e1 : (p.id == q.id) = false) :
    Calls Try.prog 25 #[p.val a n c, q.val b m d] w fun e w' => e = .returned (.bool false) ∧ Below w.heap.size w w' := by
  clear hA hB
  go_enter Try.func25, Try.ntmps25
  go_wp2
  go_ret
  exact ⟨rfl, bl_al (bl_al (Below.refl _ _) _) _⟩
set_option maxRecDepth 100000 in
set_option maxHeartbeats 400000 in
theorem refSame_2 (p q : Pk) (a b : Option Addr) (n c m d : Nat) (w : World) (hA : In w a n c p.data) (hB : In w b m d q.data) (e0 : (p.tos == q.tos) = true) (e1 : (p.id == q.id) = true) (e2 : (p.ttl == q.ttl) = false) :
    Calls Try.prog 25 #[p.val a n c, q.val b m d] w fun e w' => e = .returned (.bool false) ∧ Below w.heap.size w w' := by
  clear hA hB
  go_enter Try.func25, Try.ntmps25
  go_wp2
  go_ret
  exact ⟨rfl, bl_al (bl_al (Below.refl _ _) _) _⟩
set_option maxRecDepth 100000 in
set_option maxHeartbeats 400000 in
theorem refSame_3 (p q : Pk) (a b : Option Addr) (n c m d : Nat) (w : World) (hA : In w a n c p.data) (hB : In w b m d q.data) (e0 : (p.tos == q.tos) = true) (e1 : (p.id == q.id) = true) (e2 : (p.ttl == q.ttl) = true) (e3 : flB p q = false) :
    Calls Try.prog 25 #[p.val a n c, q.val b m d] w fun e w' => e = .returned (.bool false) ∧ Below w.heap.size w w' := by
  have fl := fl_eql p q
  rw [e3] at fl
  clear e3
  clear hA hB
  go_enter Try.func25, Try.ntmps25
  go_wp2
  go_ret
  exact ⟨rfl, bl_al (bl_al (Below.refl _ _) _) _⟩
set_option maxRecDepth 100000 in
set_option maxHeartbeats 400000 in
theorem refSame_4 (p q : Pk) (a b : Option Addr) (n c m d : Nat) (w : World) (hA : In w a n c p.data) (hB : In w b m d q.data) (e0 : (p.tos == q.tos) = true) (e1 : (p.id == q.id) = true) (e2 : (p.ttl == q.ttl) = true) (e3 : flB p q = true) (e4 : (p.seq == q.seq) = false) :
    Calls Try.prog 25 #[p.val a n c, q.val b m d] w fun e w' => e = .returned (.bool false) ∧ Below w.heap.size w w' := by
  have fl := fl_eql p q
  rw [e3] at fl
  clear e3
  clear hA hB
  go_enter Try.func25, Try.ntmps25
  go_wp2
  go_ret
  exact ⟨rfl, bl_al (bl_al (Below.refl _ _) _) _⟩
set_option maxRecDepth 100000 in
set_option maxHeartbeats 400000 in
theorem refSame_5 (p q : Pk) (a b : Option Addr) (n c m d : Nat) (w : World) (hA : In w a n c p.data) (hB : In w b m d q.data) (e0 : (p.tos == q.tos) = true) (e1 : (p.id == q.id) = true) (e2 : (p.ttl == q.ttl) = true) (e3 : flB p q = true) (e4 : (p.seq == q.seq) = true) (e5 : (p.ack == q.ack) = false) :
    Calls Try.prog 25 #[p.val a n c, q.val b m d] w fun e w' => e = .returned (.bool false) ∧ Below w.heap.size w w' := by
  have fl := fl_eql p q
  rw [e3] at fl
  clear e3
  clear hA hB
  go_enter Try.func25, Try.ntmps25
  go_wp2
  go_ret
  exact ⟨rfl, bl_al (bl_al (Below.refl _ _) _) _⟩
set_option maxRecDepth 100000 in
set_option maxHeartbeats 400000 in
theorem refSame_6 (p q : Pk) (a b : Option Addr) (n c m d : Nat) (w : World) (hA : In w a n c p.data) (hB : In w b m d q.data) (e0 : (p.tos == q.tos) = true) (e1 : (p.id == q.id) = true) (e2 : (p.ttl == q.ttl) = true) (e3 : flB p q = true) (e4 : (p.seq == q.seq) = true) (e5 : (p.ack == q.ack) = true) (e6 : (p.flags == q.flags) = false) :
    Calls Try.prog 25 #[p.val a n c, q.val b m d] w fun e w' => e = .returned (.bool false) ∧ Below w.heap.size w w' := by
  have fl := fl_eql p q
  rw [e3] at fl
  clear e3
  clear hA hB
  go_enter Try.func25, Try.ntmps25
  go_wp2
  go_ret
  exact ⟨rfl, bl_al (bl_al (Below.refl _ _) _) _⟩
set_option maxRecDepth 100000 in
set_option maxHeartbeats 400000 in
theorem refSame_7 (p q : Pk) (a b : Option Addr) (n c m d : Nat) (w : World) (hA : In w a n c p.data) (hB : In w b m d q.data) (e0 : (p.tos == q.tos) = true) (e1 : (p.id == q.id) = true) (e2 : (p.ttl == q.ttl) = true) (e3 : flB p q = true) (e4 : (p.seq == q.seq) = true) (e5 : (p.ack == q.ack) = true) (e6 : (p.flags == q.flags) = true) (e7 : (p.win == q.win) = false) :
    Calls Try.prog 25 #[p.val a n c, q.val b m d] w fun e w' => e = .returned (.bool false) ∧ Below w.heap.size w w' := by
  have fl := fl_eql p q
  rw [e3] at fl
  clear e3
  clear hA hB
  go_enter Try.func25, Try.ntmps25
  go_wp2
  go_ret
  exact ⟨rfl, bl_al (bl_al (Below.refl _ _) _) _⟩
set_option maxRecDepth 100000 in
set_option maxHeartbeats 400000 in
theorem refSame_8 (p q : Pk) (a b : Option Addr) (n c m d : Nat) (w : World) (hA : In w a n c p.data) (hB : In w b m d q.data) (e0 : (p.tos == q.tos) = true) (e1 : (p.id == q.id) = true) (e2 : (p.ttl == q.ttl) = true) (e3 : flB p q = true) (e4 : (p.seq == q.seq) = true) (e5 : (p.ack == q.ack) = true) (e6 : (p.flags == q.flags) = true) (e7 : (p.win == q.win) = true) (e8 : same p.data q.data = false) :
    Calls Try.prog 25 #[p.val a n c, q.val b m d] w fun e w' => e = .returned (.bool false) ∧ Below w.heap.size w w' := by
  have fl := fl_eql p q
  rw [e3] at fl
  clear e3
  obtain ⟨W, hW⟩ : ∃ W, (w.alloc (p.obj a n c)).alloc (q.obj b m d) = W := ⟨_, rfl⟩
  have hb : Below w.heap.size w W := by rw [← hW]; exact bl_al (bl_al (Below.refl _ _) _) _
  have s1 := str_of (hA.below hb).here hA.len
  have s2 := str_of (hB.below hb).here hB.len
  have sq := str_eq hA.fit hB.fit
  rw [e8] at sq
  obtain ⟨s, hs⟩ : ∃ s, s = strOfNums p.data := ⟨_, rfl⟩
  obtain ⟨t, ht⟩ : ∃ t, t = strOfNums q.data := ⟨_, rfl⟩
  rw [← hs] at s1 sq
  rw [← ht] at s2 sq
  rw [← hW] at s1 s2
  have HB := Lib.hid hb
  have HW := Lib.hid hW
  clear hA hB e8 hW hb hs ht
  go_enter Try.func25, Try.ntmps25
  go_wp2
  go_ret
  exact ⟨rfl, bl_al (bl_al (Below.refl _ _) _) _⟩
set_option maxRecDepth 100000 in
set_option maxHeartbeats 400000 in
theorem refSame_9 (p q : Pk) (a b : Option Addr) (n c m d : Nat) (w : World) (hA : In w a n c p.data) (hB : In w b m d q.data) (e0 : (p.tos == q.tos) = true) (e1 : (p.id == q.id) = true) (e2 : (p.ttl == q.ttl) = true) (e3 : flB p q = true) (e4 : (p.seq == q.seq) = true) (e5 : (p.ack == q.ack) = true) (e6 : (p.flags == q.flags) = true) (e7 : (p.win == q.win) = true) (e8 : same p.data q.data = true) :
    Calls Try.prog 25 #[p.val a n c, q.val b m d] w fun e w' => e = .returned (.bool true) ∧ Below w.heap.size w w' := by
  have fl := fl_eql p q
  rw [e3] at fl
  clear e3
  obtain ⟨W, hW⟩ : ∃ W, (w.alloc (p.obj a n c)).alloc (q.obj b m d) = W := ⟨_, rfl⟩
  have hb : Below w.heap.size w W := by rw [← hW]; exact bl_al (bl_al (Below.refl _ _) _) _
  have s1 := str_of (hA.below hb).here hA.len
  have s2 := str_of (hB.below hb).here hB.len
  have sq := str_eq hA.fit hB.fit
  rw [e8] at sq
  obtain ⟨s, hs⟩ : ∃ s, s = strOfNums p.data := ⟨_, rfl⟩
  obtain ⟨t, ht⟩ : ∃ t, t = strOfNums q.data := ⟨_, rfl⟩
  rw [← hs] at s1 sq
  rw [← ht] at s2 sq
  rw [← hW] at s1 s2
  have HB := Lib.hid hb
  have HW := Lib.hid hW
  clear hA hB e8 hW hb hs ht
  go_enter Try.func25, Try.ntmps25
  go_wp2
  go_ret
  exact ⟨rfl, bl_al (bl_al (Below.refl _ _) _) _⟩
theorem refSame_any (p q : Pk) (a b : Option Addr) (n c m d : Nat) (w : World) (hA : In w a n c p.data) (hB : In w b m d q.data) :
    Calls Try.prog 25 #[p.val a n c, q.val b m d] w fun e w' => e = .returned (.bool (sameP p q)) ∧ Below w.heap.size w w' := by
  cases e0 : (p.tos == q.tos) with
  | false =>
    rw [sameP_def, e0]
    exact refSame_0 p q a b n c m d w hA hB e0
  | true =>
    cases e1 : (p.id == q.id) with
    | false =>
      rw [sameP_def, e0, e1]
      exact refSame_1 p q a b n c m d w hA hB e0 e1
    | true =>
      cases e2 : (p.ttl == q.ttl) with
      | false =>
        rw [sameP_def, e0, e1, e2]
        exact refSame_2 p q a b n c m d w hA hB e0 e1 e2
      | true =>
        cases e3 : flB p q with
        | false =>
          rw [sameP_def, e0, e1, e2, e3]
          exact refSame_3 p q a b n c m d w hA hB e0 e1 e2 e3
        | true =>
          cases e4 : (p.seq == q.seq) with
          | false =>
            rw [sameP_def, e0, e1, e2, e3, e4]
            exact refSame_4 p q a b n c m d w hA hB e0 e1 e2 e3 e4
          | true =>
            cases e5 : (p.ack == q.ack) with
            | false =>
              rw [sameP_def, e0, e1, e2, e3, e4, e5]
              exact refSame_5 p q a b n c m d w hA hB e0 e1 e2 e3 e4 e5
            | true =>
              cases e6 : (p.flags == q.flags) with
              | false =>
                rw [sameP_def, e0, e1, e2, e3, e4, e5, e6]
                exact refSame_6 p q a b n c m d w hA hB e0 e1 e2 e3 e4 e5 e6
              | true =>
                cases e7 : (p.win == q.win) with
                | false =>
                  rw [sameP_def, e0, e1, e2, e3, e4, e5, e6, e7]
                  exact refSame_7 p q a b n c m d w hA hB e0 e1 e2 e3 e4 e5 e6 e7
                | true =>
                  cases e8 : same p.data q.data with
                  | false =>
                    rw [sameP_def, e0, e1, e2, e3, e4, e5, e6, e7, e8]
                    exact refSame_8 p q a b n c m d w hA hB e0 e1 e2 e3 e4 e5 e6 e7 e8
                  | true =>
                    rw [sameP_def, e0, e1, e2, e3, e4, e5, e6, e7, e8]
                    exact refSame_9 p q a b n c m d w hA hB e0 e1 e2 e3 e4 e5 e6 e7 e8
end Go.Proofs.Ytfgajgdbojapcaa
