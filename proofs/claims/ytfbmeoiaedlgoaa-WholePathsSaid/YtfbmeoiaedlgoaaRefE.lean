/- Contract of the document's Good of a packet. Condition: the row's length is at most 2^62. -/
import Derived.Test.YtfbmeoiaedlgoaaRefD
namespace Go.Proofs.Ytfbmeoiaedlgoaa
open Go Go.RowKit
set_option linter.unusedVariables false
set_option linter.unusedSimpArgs false

def Head (p : Pk) : Prop := FlowOk p ∧ 0 ≤ p.tos ∧ p.tos ≤ 255 ∧ 0 ≤ p.id ∧ p.id ≤ 65535 ∧ 1 ≤ p.ttl ∧ p.ttl ≤ 255 ∧ 0 ≤ p.flags ∧ p.flags ≤ 255 ∧ 0 ≤ p.win ∧ p.win ≤ 65535
theorem head_no {p : Pk} (h : ¬ Head p) : (¬ FlowOk p) ∨ (FlowOk p ∧ ¬ 0 ≤ p.tos) ∨ (FlowOk p ∧ 0 ≤ p.tos ∧ ¬ p.tos ≤ 255) ∨ (FlowOk p ∧ 0 ≤ p.tos ∧ p.tos ≤ 255 ∧ ¬ 0 ≤ p.id) ∨ (FlowOk p ∧ 0 ≤ p.tos ∧ p.tos ≤ 255 ∧ 0 ≤ p.id ∧ ¬ p.id ≤ 65535) ∨ (FlowOk p ∧ 0 ≤ p.tos ∧ p.tos ≤ 255 ∧ 0 ≤ p.id ∧ p.id ≤ 65535 ∧ ¬ 1 ≤ p.ttl) ∨ (FlowOk p ∧ 0 ≤ p.tos ∧ p.tos ≤ 255 ∧ 0 ≤ p.id ∧ p.id ≤ 65535 ∧ 1 ≤ p.ttl ∧ ¬ p.ttl ≤ 255) ∨ (FlowOk p ∧ 0 ≤ p.tos ∧ p.tos ≤ 255 ∧ 0 ≤ p.id ∧ p.id ≤ 65535 ∧ 1 ≤ p.ttl ∧ p.ttl ≤ 255 ∧ ¬ 0 ≤ p.flags) ∨ (FlowOk p ∧ 0 ≤ p.tos ∧ p.tos ≤ 255 ∧ 0 ≤ p.id ∧ p.id ≤ 65535 ∧ 1 ≤ p.ttl ∧ p.ttl ≤ 255 ∧ 0 ≤ p.flags ∧ ¬ p.flags ≤ 255) ∨ (FlowOk p ∧ 0 ≤ p.tos ∧ p.tos ≤ 255 ∧ 0 ≤ p.id ∧ p.id ≤ 65535 ∧ 1 ≤ p.ttl ∧ p.ttl ≤ 255 ∧ 0 ≤ p.flags ∧ p.flags ≤ 255 ∧ ¬ 0 ≤ p.win) ∨ (FlowOk p ∧ 0 ≤ p.tos ∧ p.tos ≤ 255 ∧ 0 ≤ p.id ∧ p.id ≤ 65535 ∧ 1 ≤ p.ttl ∧ p.ttl ≤ 255 ∧ 0 ≤ p.flags ∧ p.flags ≤ 255 ∧ 0 ≤ p.win ∧ ¬ p.win ≤ 65535) := by
  by_cases h0 : FlowOk p
  · by_cases h1 : 0 ≤ p.tos
    · by_cases h2 : p.tos ≤ 255
      · by_cases h3 : 0 ≤ p.id
        · by_cases h4 : p.id ≤ 65535
          · by_cases h5 : 1 ≤ p.ttl
            · by_cases h6 : p.ttl ≤ 255
              · by_cases h7 : 0 ≤ p.flags
                · by_cases h8 : p.flags ≤ 255
                  · by_cases h9 : 0 ≤ p.win
                    · by_cases h10 : p.win ≤ 65535
                      · exact absurd ⟨h0, h1, h2, h3, h4, h5, h6, h7, h8, h9, h10⟩ h
                      · exact Or.inr (Or.inr (Or.inr (Or.inr (Or.inr (Or.inr (Or.inr (Or.inr (Or.inr (Or.inr (⟨h0, h1, h2, h3, h4, h5, h6, h7, h8, h9, h10⟩))))))))))
                    · exact Or.inr (Or.inr (Or.inr (Or.inr (Or.inr (Or.inr (Or.inr (Or.inr (Or.inr (Or.inl ⟨h0, h1, h2, h3, h4, h5, h6, h7, h8, h9⟩)))))))))
                  · exact Or.inr (Or.inr (Or.inr (Or.inr (Or.inr (Or.inr (Or.inr (Or.inr (Or.inl ⟨h0, h1, h2, h3, h4, h5, h6, h7, h8⟩))))))))
                · exact Or.inr (Or.inr (Or.inr (Or.inr (Or.inr (Or.inr (Or.inr (Or.inl ⟨h0, h1, h2, h3, h4, h5, h6, h7⟩)))))))
              · exact Or.inr (Or.inr (Or.inr (Or.inr (Or.inr (Or.inr (Or.inl ⟨h0, h1, h2, h3, h4, h5, h6⟩))))))
            · exact Or.inr (Or.inr (Or.inr (Or.inr (Or.inr (Or.inl ⟨h0, h1, h2, h3, h4, h5⟩)))))
          · exact Or.inr (Or.inr (Or.inr (Or.inr (Or.inl ⟨h0, h1, h2, h3, h4⟩))))
        · exact Or.inr (Or.inr (Or.inr (Or.inl ⟨h0, h1, h2, h3⟩)))
      · exact Or.inr (Or.inr (Or.inl ⟨h0, h1, h2⟩))
    · exact Or.inr (Or.inl ⟨h0, h1⟩)
  · exact Or.inl h0
set_option maxRecDepth 100000 in
set_option maxHeartbeats 400000 in
theorem refGood_low0 (p : Pk) (a : Option Addr) (n c : Nat) (h : ¬ FlowOk p) (q : Bool) (hq : (p.proto == 17) = q) (w : World) : Calls Try.prog 37 #[p.val a n c] w fun e w' => e = .returned (.bool false) ∧ Below w.heap.size w w' := by
  have C := Lib.hid (fun w => refFlow_no p h w)
  clear h
  obtain ⟨W, hW, hB⟩ := Box.start w p a n c
  have HW := Lib.hid hW
  have HB := Lib.hid hB
  clear hW hB
  cases q
  all_goals
    go_enter Try.func37, Try.ntmps37
    go_wp2_with fail
    rw [HW.out]
    refine (C.out _).mono ?_
    rintro e w1 ⟨rfl, hb⟩
    have HS := Lib.hid (HB.out.next hb)
    clear hb
    obtain ⟨⟨e0, e1, e2, e3, e4, e5, e6, e7, e8, e9, e10, e11, e12⟩, _⟩ := HS.out
    have HT := Lib.hid HS.out.below
    go_wp2
    go_ret
    exact ⟨rfl, HT.out⟩
set_option maxRecDepth 100000 in
set_option maxHeartbeats 400000 in
theorem refGood_low1 (p : Pk) (a : Option Addr) (n c : Nat) (h : FlowOk p) (h1 : ¬ 0 ≤ p.tos) (q : Bool) (hq : (p.proto == 17) = q) (w : World) : Calls Try.prog 37 #[p.val a n c] w fun e w' => e = .returned (.bool false) ∧ Below w.heap.size w w' := by
  have C := Lib.hid (fun w => refFlow_ok p h w)
  clear h
  obtain ⟨W, hW, hB⟩ := Box.start w p a n c
  have HW := Lib.hid hW
  have HB := Lib.hid hB
  clear hW hB
  cases q
  all_goals
    go_enter Try.func37, Try.ntmps37
    go_wp2_with fail
    rw [HW.out]
    refine (C.out _).mono ?_
    rintro e w1 ⟨rfl, hb⟩
    have HS := Lib.hid (HB.out.next hb)
    clear hb
    obtain ⟨⟨e0, e1, e2, e3, e4, e5, e6, e7, e8, e9, e10, e11, e12⟩, _⟩ := HS.out
    have HT := Lib.hid HS.out.below
    go_wp2
    go_ret
    exact ⟨rfl, HT.out⟩
set_option maxRecDepth 100000 in
set_option maxHeartbeats 400000 in
theorem refGood_low2 (p : Pk) (a : Option Addr) (n c : Nat) (h : FlowOk p) (h1 : 0 ≤ p.tos) (h2 : ¬ p.tos ≤ 255) (q : Bool) (hq : (p.proto == 17) = q) (w : World) : Calls Try.prog 37 #[p.val a n c] w fun e w' => e = .returned (.bool false) ∧ Below w.heap.size w w' := by
  have C := Lib.hid (fun w => refFlow_ok p h w)
  clear h
  obtain ⟨W, hW, hB⟩ := Box.start w p a n c
  have HW := Lib.hid hW
  have HB := Lib.hid hB
  clear hW hB
  cases q
  all_goals
    go_enter Try.func37, Try.ntmps37
    go_wp2_with fail
    rw [HW.out]
    refine (C.out _).mono ?_
    rintro e w1 ⟨rfl, hb⟩
    have HS := Lib.hid (HB.out.next hb)
    clear hb
    obtain ⟨⟨e0, e1, e2, e3, e4, e5, e6, e7, e8, e9, e10, e11, e12⟩, _⟩ := HS.out
    have HT := Lib.hid HS.out.below
    go_wp2
    go_ret
    exact ⟨rfl, HT.out⟩
set_option maxRecDepth 100000 in
set_option maxHeartbeats 400000 in
theorem refGood_low3 (p : Pk) (a : Option Addr) (n c : Nat) (h : FlowOk p) (h1 : 0 ≤ p.tos) (h2 : p.tos ≤ 255) (h3 : ¬ 0 ≤ p.id) (q : Bool) (hq : (p.proto == 17) = q) (w : World) : Calls Try.prog 37 #[p.val a n c] w fun e w' => e = .returned (.bool false) ∧ Below w.heap.size w w' := by
  have C := Lib.hid (fun w => refFlow_ok p h w)
  clear h
  obtain ⟨W, hW, hB⟩ := Box.start w p a n c
  have HW := Lib.hid hW
  have HB := Lib.hid hB
  clear hW hB
  cases q
  all_goals
    go_enter Try.func37, Try.ntmps37
    go_wp2_with fail
    rw [HW.out]
    refine (C.out _).mono ?_
    rintro e w1 ⟨rfl, hb⟩
    have HS := Lib.hid (HB.out.next hb)
    clear hb
    obtain ⟨⟨e0, e1, e2, e3, e4, e5, e6, e7, e8, e9, e10, e11, e12⟩, _⟩ := HS.out
    have HT := Lib.hid HS.out.below
    go_wp2
    go_ret
    exact ⟨rfl, HT.out⟩
set_option maxRecDepth 100000 in
set_option maxHeartbeats 400000 in
theorem refGood_low4 (p : Pk) (a : Option Addr) (n c : Nat) (h : FlowOk p) (h1 : 0 ≤ p.tos) (h2 : p.tos ≤ 255) (h3 : 0 ≤ p.id) (h4 : ¬ p.id ≤ 65535) (q : Bool) (hq : (p.proto == 17) = q) (w : World) : Calls Try.prog 37 #[p.val a n c] w fun e w' => e = .returned (.bool false) ∧ Below w.heap.size w w' := by
  have C := Lib.hid (fun w => refFlow_ok p h w)
  clear h
  obtain ⟨W, hW, hB⟩ := Box.start w p a n c
  have HW := Lib.hid hW
  have HB := Lib.hid hB
  clear hW hB
  cases q
  all_goals
    go_enter Try.func37, Try.ntmps37
    go_wp2_with fail
    rw [HW.out]
    refine (C.out _).mono ?_
    rintro e w1 ⟨rfl, hb⟩
    have HS := Lib.hid (HB.out.next hb)
    clear hb
    obtain ⟨⟨e0, e1, e2, e3, e4, e5, e6, e7, e8, e9, e10, e11, e12⟩, _⟩ := HS.out
    have HT := Lib.hid HS.out.below
    go_wp2
    go_ret
    exact ⟨rfl, HT.out⟩
set_option maxRecDepth 100000 in
set_option maxHeartbeats 400000 in
theorem refGood_low5 (p : Pk) (a : Option Addr) (n c : Nat) (h : FlowOk p) (h1 : 0 ≤ p.tos) (h2 : p.tos ≤ 255) (h3 : 0 ≤ p.id) (h4 : p.id ≤ 65535) (h5 : ¬ 1 ≤ p.ttl) (q : Bool) (hq : (p.proto == 17) = q) (w : World) : Calls Try.prog 37 #[p.val a n c] w fun e w' => e = .returned (.bool false) ∧ Below w.heap.size w w' := by
  have C := Lib.hid (fun w => refFlow_ok p h w)
  clear h
  obtain ⟨W, hW, hB⟩ := Box.start w p a n c
  have HW := Lib.hid hW
  have HB := Lib.hid hB
  clear hW hB
  cases q
  all_goals
    go_enter Try.func37, Try.ntmps37
    go_wp2_with fail
    rw [HW.out]
    refine (C.out _).mono ?_
    rintro e w1 ⟨rfl, hb⟩
    have HS := Lib.hid (HB.out.next hb)
    clear hb
    obtain ⟨⟨e0, e1, e2, e3, e4, e5, e6, e7, e8, e9, e10, e11, e12⟩, _⟩ := HS.out
    have HT := Lib.hid HS.out.below
    go_wp2
    go_ret
    exact ⟨rfl, HT.out⟩
set_option maxRecDepth 100000 in
set_option maxHeartbeats 400000 in
theorem refGood_low6 (p : Pk) (a : Option Addr) (n c : Nat) (h : FlowOk p) (h1 : 0 ≤ p.tos) (h2 : p.tos ≤ 255) (h3 : 0 ≤ p.id) (h4 : p.id ≤ 65535) (h5 : 1 ≤ p.ttl) (h6 : ¬ p.ttl ≤ 255) (q : Bool) (hq : (p.proto == 17) = q) (w : World) : Calls Try.prog 37 #[p.val a n c] w fun e w' => e = .returned (.bool false) ∧ Below w.heap.size w w' := by
  have C := Lib.hid (fun w => refFlow_ok p h w)
  clear h
  obtain ⟨W, hW, hB⟩ := Box.start w p a n c
  have HW := Lib.hid hW
  have HB := Lib.hid hB
  clear hW hB
  cases q
  all_goals
    go_enter Try.func37, Try.ntmps37
    go_wp2_with fail
    rw [HW.out]
    refine (C.out _).mono ?_
    rintro e w1 ⟨rfl, hb⟩
    have HS := Lib.hid (HB.out.next hb)
    clear hb
    obtain ⟨⟨e0, e1, e2, e3, e4, e5, e6, e7, e8, e9, e10, e11, e12⟩, _⟩ := HS.out
    have HT := Lib.hid HS.out.below
    go_wp2
    go_ret
    exact ⟨rfl, HT.out⟩
set_option maxRecDepth 100000 in
set_option maxHeartbeats 400000 in
theorem refGood_low7 (p : Pk) (a : Option Addr) (n c : Nat) (h : FlowOk p) (h1 : 0 ≤ p.tos) (h2 : p.tos ≤ 255) (h3 : 0 ≤ p.id) (h4 : p.id ≤ 65535) (h5 : 1 ≤ p.ttl) (h6 : p.ttl ≤ 255) (h7 : ¬ 0 ≤ p.flags) (q : Bool) (hq : (p.proto == 17) = q) (w : World) : Calls Try.prog 37 #[p.val a n c] w fun e w' => e = .returned (.bool false) ∧ Below w.heap.size w w' := by
  have C := Lib.hid (fun w => refFlow_ok p h w)
  clear h
  obtain ⟨W, hW, hB⟩ := Box.start w p a n c
  have HW := Lib.hid hW
  have HB := Lib.hid hB
  clear hW hB
  cases q
  all_goals
    go_enter Try.func37, Try.ntmps37
    go_wp2_with fail
    rw [HW.out]
    refine (C.out _).mono ?_
    rintro e w1 ⟨rfl, hb⟩
    have HS := Lib.hid (HB.out.next hb)
    clear hb
    obtain ⟨⟨e0, e1, e2, e3, e4, e5, e6, e7, e8, e9, e10, e11, e12⟩, _⟩ := HS.out
    have HT := Lib.hid HS.out.below
    go_wp2
    go_ret
    exact ⟨rfl, HT.out⟩
set_option maxRecDepth 100000 in
set_option maxHeartbeats 400000 in
theorem refGood_low8 (p : Pk) (a : Option Addr) (n c : Nat) (h : FlowOk p) (h1 : 0 ≤ p.tos) (h2 : p.tos ≤ 255) (h3 : 0 ≤ p.id) (h4 : p.id ≤ 65535) (h5 : 1 ≤ p.ttl) (h6 : p.ttl ≤ 255) (h7 : 0 ≤ p.flags) (h8 : ¬ p.flags ≤ 255) (q : Bool) (hq : (p.proto == 17) = q) (w : World) : Calls Try.prog 37 #[p.val a n c] w fun e w' => e = .returned (.bool false) ∧ Below w.heap.size w w' := by
  have C := Lib.hid (fun w => refFlow_ok p h w)
  clear h
  obtain ⟨W, hW, hB⟩ := Box.start w p a n c
  have HW := Lib.hid hW
  have HB := Lib.hid hB
  clear hW hB
  cases q
  all_goals
    go_enter Try.func37, Try.ntmps37
    go_wp2_with fail
    rw [HW.out]
    refine (C.out _).mono ?_
    rintro e w1 ⟨rfl, hb⟩
    have HS := Lib.hid (HB.out.next hb)
    clear hb
    obtain ⟨⟨e0, e1, e2, e3, e4, e5, e6, e7, e8, e9, e10, e11, e12⟩, _⟩ := HS.out
    have HT := Lib.hid HS.out.below
    go_wp2
    go_ret
    exact ⟨rfl, HT.out⟩
set_option maxRecDepth 100000 in
set_option maxHeartbeats 400000 in
theorem refGood_low9 (p : Pk) (a : Option Addr) (n c : Nat) (h : FlowOk p) (h1 : 0 ≤ p.tos) (h2 : p.tos ≤ 255) (h3 : 0 ≤ p.id) (h4 : p.id ≤ 65535) (h5 : 1 ≤ p.ttl) (h6 : p.ttl ≤ 255) (h7 : 0 ≤ p.flags) (h8 : p.flags ≤ 255) (h9 : ¬ 0 ≤ p.win) (q : Bool) (hq : (p.proto == 17) = q) (w : World) : Calls Try.prog 37 #[p.val a n c] w fun e w' => e = .returned (.bool false) ∧ Below w.heap.size w w' := by
  have C := Lib.hid (fun w => refFlow_ok p h w)
  clear h
  obtain ⟨W, hW, hB⟩ := Box.start w p a n c
  have HW := Lib.hid hW
  have HB := Lib.hid hB
  clear hW hB
  cases q
  all_goals
    go_enter Try.func37, Try.ntmps37
    go_wp2_with fail
    rw [HW.out]
    refine (C.out _).mono ?_
    rintro e w1 ⟨rfl, hb⟩
    have HS := Lib.hid (HB.out.next hb)
    clear hb
    obtain ⟨⟨e0, e1, e2, e3, e4, e5, e6, e7, e8, e9, e10, e11, e12⟩, _⟩ := HS.out
    have HT := Lib.hid HS.out.below
    go_wp2
    go_ret
    exact ⟨rfl, HT.out⟩
set_option maxRecDepth 100000 in
set_option maxHeartbeats 400000 in
theorem refGood_low10 (p : Pk) (a : Option Addr) (n c : Nat) (h : FlowOk p) (h1 : 0 ≤ p.tos) (h2 : p.tos ≤ 255) (h3 : 0 ≤ p.id) (h4 : p.id ≤ 65535) (h5 : 1 ≤ p.ttl) (h6 : p.ttl ≤ 255) (h7 : 0 ≤ p.flags) (h8 : p.flags ≤ 255) (h9 : 0 ≤ p.win) (h10 : ¬ p.win ≤ 65535) (q : Bool) (hq : (p.proto == 17) = q) (w : World) : Calls Try.prog 37 #[p.val a n c] w fun e w' => e = .returned (.bool false) ∧ Below w.heap.size w w' := by
  have C := Lib.hid (fun w => refFlow_ok p h w)
  clear h
  obtain ⟨W, hW, hB⟩ := Box.start w p a n c
  have HW := Lib.hid hW
  have HB := Lib.hid hB
  clear hW hB
  cases q
  all_goals
    go_enter Try.func37, Try.ntmps37
    go_wp2_with fail
    rw [HW.out]
    refine (C.out _).mono ?_
    rintro e w1 ⟨rfl, hb⟩
    have HS := Lib.hid (HB.out.next hb)
    clear hb
    obtain ⟨⟨e0, e1, e2, e3, e4, e5, e6, e7, e8, e9, e10, e11, e12⟩, _⟩ := HS.out
    have HT := Lib.hid HS.out.below
    go_wp2
    go_ret
    exact ⟨rfl, HT.out⟩
set_option maxRecDepth 100000 in
set_option maxHeartbeats 400000 in
theorem refGood_u0 (p : Pk) (a : Option Addr) (n c : Nat) (h : FlowOk p) (h1 : 0 ≤ p.tos) (h2 : p.tos ≤ 255) (h3 : 0 ≤ p.id) (h4 : p.id ≤ 65535) (h5 : 1 ≤ p.ttl) (h6 : p.ttl ≤ 255) (h7 : 0 ≤ p.flags) (h8 : p.flags ≤ 255) (h9 : 0 ≤ p.win) (h10 : p.win ≤ 65535) (t0 : (p.seq == 0) = false) (hq : (p.proto == 17) = true) (w : World) : Calls Try.prog 37 #[p.val a n c] w fun e w' => e = .returned (.bool false) ∧ Below w.heap.size w w' := by
  have C := Lib.hid (fun w => refFlow_ok p h w)
  clear h
  obtain ⟨W, hW, hB⟩ := Box.start w p a n c
  have HW := Lib.hid hW
  have HB := Lib.hid hB
  clear hW hB
  go_enter Try.func37, Try.ntmps37
  go_wp2_with fail
  rw [HW.out]
  refine (C.out _).mono ?_
  rintro e w1 ⟨rfl, hb⟩
  have HS := Lib.hid (HB.out.next hb)
  clear hb
  obtain ⟨⟨e0, e1, e2, e3, e4, e5, e6, e7, e8, e9, e10, e11, e12⟩, _⟩ := HS.out
  have HT := Lib.hid HS.out.below
  go_wp2
  go_ret
  exact ⟨rfl, HT.out⟩
set_option maxRecDepth 100000 in
set_option maxHeartbeats 400000 in
theorem refGood_u1 (p : Pk) (a : Option Addr) (n c : Nat) (h : FlowOk p) (h1 : 0 ≤ p.tos) (h2 : p.tos ≤ 255) (h3 : 0 ≤ p.id) (h4 : p.id ≤ 65535) (h5 : 1 ≤ p.ttl) (h6 : p.ttl ≤ 255) (h7 : 0 ≤ p.flags) (h8 : p.flags ≤ 255) (h9 : 0 ≤ p.win) (h10 : p.win ≤ 65535) (t0 : (p.seq == 0) = true) (t1 : (p.ack == 0) = false) (hq : (p.proto == 17) = true) (w : World) : Calls Try.prog 37 #[p.val a n c] w fun e w' => e = .returned (.bool false) ∧ Below w.heap.size w w' := by
  have C := Lib.hid (fun w => refFlow_ok p h w)
  clear h
  obtain ⟨W, hW, hB⟩ := Box.start w p a n c
  have HW := Lib.hid hW
  have HB := Lib.hid hB
  clear hW hB
  go_enter Try.func37, Try.ntmps37
  go_wp2_with fail
  rw [HW.out]
  refine (C.out _).mono ?_
  rintro e w1 ⟨rfl, hb⟩
  have HS := Lib.hid (HB.out.next hb)
  clear hb
  obtain ⟨⟨e0, e1, e2, e3, e4, e5, e6, e7, e8, e9, e10, e11, e12⟩, _⟩ := HS.out
  have HT := Lib.hid HS.out.below
  go_wp2
  go_ret
  exact ⟨rfl, HT.out⟩
set_option maxRecDepth 100000 in
set_option maxHeartbeats 400000 in
theorem refGood_u2 (p : Pk) (a : Option Addr) (n c : Nat) (h : FlowOk p) (h1 : 0 ≤ p.tos) (h2 : p.tos ≤ 255) (h3 : 0 ≤ p.id) (h4 : p.id ≤ 65535) (h5 : 1 ≤ p.ttl) (h6 : p.ttl ≤ 255) (h7 : 0 ≤ p.flags) (h8 : p.flags ≤ 255) (h9 : 0 ≤ p.win) (h10 : p.win ≤ 65535) (t0 : (p.seq == 0) = true) (t1 : (p.ack == 0) = true) (t2 : (p.flags == 0) = false) (hq : (p.proto == 17) = true) (w : World) : Calls Try.prog 37 #[p.val a n c] w fun e w' => e = .returned (.bool false) ∧ Below w.heap.size w w' := by
  have C := Lib.hid (fun w => refFlow_ok p h w)
  clear h
  obtain ⟨W, hW, hB⟩ := Box.start w p a n c
  have HW := Lib.hid hW
  have HB := Lib.hid hB
  clear hW hB
  go_enter Try.func37, Try.ntmps37
  go_wp2_with fail
  rw [HW.out]
  refine (C.out _).mono ?_
  rintro e w1 ⟨rfl, hb⟩
  have HS := Lib.hid (HB.out.next hb)
  clear hb
  obtain ⟨⟨e0, e1, e2, e3, e4, e5, e6, e7, e8, e9, e10, e11, e12⟩, _⟩ := HS.out
  have HT := Lib.hid HS.out.below
  go_wp2
  go_ret
  exact ⟨rfl, HT.out⟩
set_option maxRecDepth 100000 in
set_option maxHeartbeats 400000 in
theorem refGood_u3 (p : Pk) (a : Option Addr) (n c : Nat) (h : FlowOk p) (h1 : 0 ≤ p.tos) (h2 : p.tos ≤ 255) (h3 : 0 ≤ p.id) (h4 : p.id ≤ 65535) (h5 : 1 ≤ p.ttl) (h6 : p.ttl ≤ 255) (h7 : 0 ≤ p.flags) (h8 : p.flags ≤ 255) (h9 : 0 ≤ p.win) (h10 : p.win ≤ 65535) (t0 : (p.seq == 0) = true) (t1 : (p.ack == 0) = true) (t2 : (p.flags == 0) = true) (t3 : (p.win == 0) = false) (hq : (p.proto == 17) = true) (w : World) : Calls Try.prog 37 #[p.val a n c] w fun e w' => e = .returned (.bool false) ∧ Below w.heap.size w w' := by
  have C := Lib.hid (fun w => refFlow_ok p h w)
  clear h
  obtain ⟨W, hW, hB⟩ := Box.start w p a n c
  have HW := Lib.hid hW
  have HB := Lib.hid hB
  clear hW hB
  go_enter Try.func37, Try.ntmps37
  go_wp2_with fail
  rw [HW.out]
  refine (C.out _).mono ?_
  rintro e w1 ⟨rfl, hb⟩
  have HS := Lib.hid (HB.out.next hb)
  clear hb
  obtain ⟨⟨e0, e1, e2, e3, e4, e5, e6, e7, e8, e9, e10, e11, e12⟩, _⟩ := HS.out
  have HT := Lib.hid HS.out.below
  go_wp2
  go_ret
  exact ⟨rfl, HT.out⟩

end Go.Proofs.Ytfbmeoiaedlgoaa
