/- Contracts of packet's Same and of the document's Same: whether two packets are the same. Condition: both Datas came in. -/
import Derived.Test.YtfgajgdbojapcaaWrC
namespace Go.Proofs.Ytfgajgdbojapcaa
open Go Go.RowKit
set_option linter.unusedVariables false
set_option linter.unusedSimpArgs false

def flB (p q : Pk) : Bool := decide (p.proto = q.proto ∧ p.src = q.src ∧ p.sp = q.sp ∧ p.dst = q.dst ∧ p.dp = q.dp)
theorem fl_eql (p q : Pk) (w : World) : (binOp .eql 25 (.agg #[.int .i64 p.proto, .int .u32 p.src, .int .i64 p.sp, .int .u32 p.dst, .int .i64 p.dp]) (.agg #[.int .i64 q.proto, .int .u32 q.src, .int .i64 q.sp, .int .u32 q.dst, .int .i64 q.dp])).run Try.prog w = .ok (.bool (flB p q)) w := by
  unfold flB
  by_cases h1 : p.proto = q.proto
  · by_cases h2 : p.src = q.src
    · by_cases h3 : p.sp = q.sp
      · by_cases h4 : p.dst = q.dst
        · by_cases h5 : p.dp = q.dp
          · go_simp
          · go_simp
        · go_simp
      · go_simp
    · go_simp
  · go_simp
def sameP (p q : Pk) : Bool := (p.tos == q.tos) && ((p.id == q.id) && ((p.ttl == q.ttl) && (flB p q && ((p.seq == q.seq) && ((p.ack == q.ack) && ((p.flags == q.flags) && ((p.win == q.win) && same p.data q.data)))))))
theorem sameP_def (p q : Pk) : sameP p q = ((p.tos == q.tos) && ((p.id == q.id) && ((p.ttl == q.ttl) && (flB p q && ((p.seq == q.seq) && ((p.ack == q.ack) && ((p.flags == q.flags) && ((p.win == q.win) && same p.data q.data)))))))) := rfl
theorem sameP_self (p : Pk) : sameP p p = true := by simp [sameP, flB, same]

set_option maxRecDepth 100000 in
set_option maxHeartbeats 400000 in
theorem same_0 (p q : Pk) (a b : Option Addr) (n c m d : Nat) (w : World) (hA : In w a n c p.data) (hB : In w b m d q.data) (e0 : (p.tos == q.tos) = false) :
    Calls Try.prog 27 #[p.val a n c, q.val b m d] w fun e w' => e = .returned (.bool false) ∧ Below w.heap.size w w' := by
  clear hA hB
  go_enter Try.func27, Try.ntmps27
  go_wp2
  go_ret
  exact ⟨rfl, bl_al (bl_al (Below.refl _ _) _) _⟩
set_option maxRecDepth 100000 in
set_option maxHeartbeats 400000 in
theorem same_1 (p q : Pk) (a b : Option Addr) (n c m d : Nat) (w : World) (hA : In w a n c p.data) (hB : In w b m d q.data) (e0 : (p.tos == q.tos) = true) (e1 : (p.id == q.id) = false) :
    Calls Try.prog 27 #[p.val a n c, q.val b m d] w fun e w' => e = .returned (.bool false) ∧ Below w.heap.size w w' := by
  clear hA hB
  go_enter Try.func27, Try.ntmps27
  go_wp2
  go_ret
  exact ⟨rfl, bl_al (bl_al (Below.refl _ _) _) _⟩
set_option maxRecDepth 100000 in
set_option maxHeartbeats 400000 in
theorem same_2 (p q : Pk) (a b : Option Addr) (n c m d : Nat) (w : World) (hA : In w a n c p.data) (hB : In w b m d q.data) (e0 : (p.tos == q.tos) = true) (e1 : (p.id == q.id) = true) (e2 : (p.ttl == q.ttl) = false) :
    Calls Try.prog 27 #[p.val a n c, q.val b m d] w fun e w' => e = .returned (.bool false) ∧ Below w.heap.size w w' := by
  clear hA hB
  go_enter Try.func27, Try.ntmps27
  go_wp2
  go_ret
  exact ⟨rfl, bl_al (bl_al (Below.refl _ _) _) _⟩
set_option maxRecDepth 100000 in
set_option maxHeartbeats 400000 in
theorem same_3 (p q : Pk) (a b : Option Addr) (n c m d : Nat) (w : World) (hA : In w a n c p.data) (hB : In w b m d q.data) (e0 : (p.tos == q.tos) = true) (e1 : (p.id == q.id) = true) (e2 : (p.ttl == q.ttl) = true) (e3 : flB p q = false) :
    Calls Try.prog 27 #[p.val a n c, q.val b m d] w fun e w' => e = .returned (.bool false) ∧ Below w.heap.size w w' := by
  have fl := fl_eql p q
  rw [e3] at fl
  clear e3
  clear hA hB
  go_enter Try.func27, Try.ntmps27
  go_wp2
  go_ret
  exact ⟨rfl, bl_al (bl_al (Below.refl _ _) _) _⟩
set_option maxRecDepth 100000 in
set_option maxHeartbeats 400000 in
theorem same_4 (p q : Pk) (a b : Option Addr) (n c m d : Nat) (w : World) (hA : In w a n c p.data) (hB : In w b m d q.data) (e0 : (p.tos == q.tos) = true) (e1 : (p.id == q.id) = true) (e2 : (p.ttl == q.ttl) = true) (e3 : flB p q = true) (e4 : (p.seq == q.seq) = false) :
    Calls Try.prog 27 #[p.val a n c, q.val b m d] w fun e w' => e = .returned (.bool false) ∧ Below w.heap.size w w' := by
  have fl := fl_eql p q
  rw [e3] at fl
  clear e3
  clear hA hB
  go_enter Try.func27, Try.ntmps27
  go_wp2
  go_ret
  exact ⟨rfl, bl_al (bl_al (Below.refl _ _) _) _⟩
set_option maxRecDepth 100000 in
set_option maxHeartbeats 400000 in
theorem same_5 (p q : Pk) (a b : Option Addr) (n c m d : Nat) (w : World) (hA : In w a n c p.data) (hB : In w b m d q.data) (e0 : (p.tos == q.tos) = true) (e1 : (p.id == q.id) = true) (e2 : (p.ttl == q.ttl) = true) (e3 : flB p q = true) (e4 : (p.seq == q.seq) = true) (e5 : (p.ack == q.ack) = false) :
    Calls Try.prog 27 #[p.val a n c, q.val b m d] w fun e w' => e = .returned (.bool false) ∧ Below w.heap.size w w' := by
  have fl := fl_eql p q
  rw [e3] at fl
  clear e3
  clear hA hB
  go_enter Try.func27, Try.ntmps27
  go_wp2
  go_ret
  exact ⟨rfl, bl_al (bl_al (Below.refl _ _) _) _⟩
set_option maxRecDepth 100000 in
set_option maxHeartbeats 400000 in
theorem same_6 (p q : Pk) (a b : Option Addr) (n c m d : Nat) (w : World) (hA : In w a n c p.data) (hB : In w b m d q.data) (e0 : (p.tos == q.tos) = true) (e1 : (p.id == q.id) = true) (e2 : (p.ttl == q.ttl) = true) (e3 : flB p q = true) (e4 : (p.seq == q.seq) = true) (e5 : (p.ack == q.ack) = true) (e6 : (p.flags == q.flags) = false) :
    Calls Try.prog 27 #[p.val a n c, q.val b m d] w fun e w' => e = .returned (.bool false) ∧ Below w.heap.size w w' := by
  have fl := fl_eql p q
  rw [e3] at fl
  clear e3
  clear hA hB
  go_enter Try.func27, Try.ntmps27
  go_wp2
  go_ret
  exact ⟨rfl, bl_al (bl_al (Below.refl _ _) _) _⟩
set_option maxRecDepth 100000 in
set_option maxHeartbeats 400000 in
theorem same_7 (p q : Pk) (a b : Option Addr) (n c m d : Nat) (w : World) (hA : In w a n c p.data) (hB : In w b m d q.data) (e0 : (p.tos == q.tos) = true) (e1 : (p.id == q.id) = true) (e2 : (p.ttl == q.ttl) = true) (e3 : flB p q = true) (e4 : (p.seq == q.seq) = true) (e5 : (p.ack == q.ack) = true) (e6 : (p.flags == q.flags) = true) (e7 : (p.win == q.win) = false) :
    Calls Try.prog 27 #[p.val a n c, q.val b m d] w fun e w' => e = .returned (.bool false) ∧ Below w.heap.size w w' := by
  have fl := fl_eql p q
  rw [e3] at fl
  clear e3
  clear hA hB
  go_enter Try.func27, Try.ntmps27
  go_wp2
  go_ret
  exact ⟨rfl, bl_al (bl_al (Below.refl _ _) _) _⟩
set_option maxRecDepth 100000 in
set_option maxHeartbeats 400000 in
theorem same_8 (p q : Pk) (a b : Option Addr) (n c m d : Nat) (w : World) (hA : In w a n c p.data) (hB : In w b m d q.data) (e0 : (p.tos == q.tos) = true) (e1 : (p.id == q.id) = true) (e2 : (p.ttl == q.ttl) = true) (e3 : flB p q = true) (e4 : (p.seq == q.seq) = true) (e5 : (p.ack == q.ack) = true) (e6 : (p.flags == q.flags) = true) (e7 : (p.win == q.win) = true) (e8 : same p.data q.data = false) :
    Calls Try.prog 27 #[p.val a n c, q.val b m d] w fun e w' => e = .returned (.bool false) ∧ Below w.heap.size w w' := by
  have fl := fl_eql p q
  rw [e3] at fl
  clear e3
  obtain ⟨W, hW⟩ : ∃ W, (w.alloc (p.obj a n c)).alloc (q.obj b m d) = W := ⟨_, rfl⟩
  have hb : Below w.heap.size w W := by rw [← hW]; exact bl_al (bl_al (Below.refl _ _) _) _
  have C := Lib.hid (equal_any p.data q.data a b n m c d W (hA.below hb).here (hB.below hb).here hA.len hB.len hA.fit hB.fit)
  rw [e8] at C
  have HW := Lib.hid hW
  have HB := Lib.hid hb
  clear hA hB e8 hW hb
  go_enter Try.func27, Try.ntmps27
  go_wp2_with fail
  rw [HW.out]
  refine C.out.mono ?_
  rintro e _ ⟨rfl, rfl⟩
  go_wp2
  go_ret
  exact ⟨rfl, HB.out⟩
set_option maxRecDepth 100000 in
set_option maxHeartbeats 400000 in
theorem same_9 (p q : Pk) (a b : Option Addr) (n c m d : Nat) (w : World) (hA : In w a n c p.data) (hB : In w b m d q.data) (e0 : (p.tos == q.tos) = true) (e1 : (p.id == q.id) = true) (e2 : (p.ttl == q.ttl) = true) (e3 : flB p q = true) (e4 : (p.seq == q.seq) = true) (e5 : (p.ack == q.ack) = true) (e6 : (p.flags == q.flags) = true) (e7 : (p.win == q.win) = true) (e8 : same p.data q.data = true) :
    Calls Try.prog 27 #[p.val a n c, q.val b m d] w fun e w' => e = .returned (.bool true) ∧ Below w.heap.size w w' := by
  have fl := fl_eql p q
  rw [e3] at fl
  clear e3
  obtain ⟨W, hW⟩ : ∃ W, (w.alloc (p.obj a n c)).alloc (q.obj b m d) = W := ⟨_, rfl⟩
  have hb : Below w.heap.size w W := by rw [← hW]; exact bl_al (bl_al (Below.refl _ _) _) _
  have C := Lib.hid (equal_any p.data q.data a b n m c d W (hA.below hb).here (hB.below hb).here hA.len hB.len hA.fit hB.fit)
  rw [e8] at C
  have HW := Lib.hid hW
  have HB := Lib.hid hb
  clear hA hB e8 hW hb
  go_enter Try.func27, Try.ntmps27
  go_wp2_with fail
  rw [HW.out]
  refine C.out.mono ?_
  rintro e _ ⟨rfl, rfl⟩
  go_wp2
  go_ret
  exact ⟨rfl, HB.out⟩
theorem same_any (p q : Pk) (a b : Option Addr) (n c m d : Nat) (w : World) (hA : In w a n c p.data) (hB : In w b m d q.data) :
    Calls Try.prog 27 #[p.val a n c, q.val b m d] w fun e w' => e = .returned (.bool (sameP p q)) ∧ Below w.heap.size w w' := by
  cases e0 : (p.tos == q.tos) with
  | false =>
    rw [sameP_def, e0]
    exact same_0 p q a b n c m d w hA hB e0
  | true =>
    cases e1 : (p.id == q.id) with
    | false =>
      rw [sameP_def, e0, e1]
      exact same_1 p q a b n c m d w hA hB e0 e1
    | true =>
      cases e2 : (p.ttl == q.ttl) with
      | false =>
        rw [sameP_def, e0, e1, e2]
        exact same_2 p q a b n c m d w hA hB e0 e1 e2
      | true =>
        cases e3 : flB p q with
        | false =>
          rw [sameP_def, e0, e1, e2, e3]
          exact same_3 p q a b n c m d w hA hB e0 e1 e2 e3
        | true =>
          cases e4 : (p.seq == q.seq) with
          | false =>
            rw [sameP_def, e0, e1, e2, e3, e4]
            exact same_4 p q a b n c m d w hA hB e0 e1 e2 e3 e4
          | true =>
            cases e5 : (p.ack == q.ack) with
            | false =>
              rw [sameP_def, e0, e1, e2, e3, e4, e5]
              exact same_5 p q a b n c m d w hA hB e0 e1 e2 e3 e4 e5
            | true =>
              cases e6 : (p.flags == q.flags) with
              | false =>
                rw [sameP_def, e0, e1, e2, e3, e4, e5, e6]
                exact same_6 p q a b n c m d w hA hB e0 e1 e2 e3 e4 e5 e6
              | true =>
                cases e7 : (p.win == q.win) with
                | false =>
                  rw [sameP_def, e0, e1, e2, e3, e4, e5, e6, e7]
                  exact same_7 p q a b n c m d w hA hB e0 e1 e2 e3 e4 e5 e6 e7
                | true =>
                  cases e8 : same p.data q.data with
                  | false =>
                    rw [sameP_def, e0, e1, e2, e3, e4, e5, e6, e7, e8]
                    exact same_8 p q a b n c m d w hA hB e0 e1 e2 e3 e4 e5 e6 e7 e8
                  | true =>
                    rw [sameP_def, e0, e1, e2, e3, e4, e5, e6, e7, e8]
                    exact same_9 p q a b n c m d w hA hB e0 e1 e2 e3 e4 e5 e6 e7 e8
end Go.Proofs.Ytfgajgdbojapcaa
