/- Contract of the document's Good of a packet: it is in form. Condition: the row's length is at most 2^62. -/
import Derived.Test.YtfbmeoiaedlgoaaRefE
namespace Go.Proofs.Ytfbmeoiaedlgoaa
open Go Go.RowKit
set_option linter.unusedVariables false
set_option linter.unusedSimpArgs false

set_option maxRecDepth 100000 in
set_option maxHeartbeats 400000 in
theorem refGood_u4 (p : Pk) (a : Option Addr) (n c : Nat) (h : FlowOk p) (h1 : 0 ≤ p.tos) (h2 : p.tos ≤ 255) (h3 : 0 ≤ p.id) (h4 : p.id ≤ 65535) (h5 : 1 ≤ p.ttl) (h6 : p.ttl ≤ 255) (h7 : 0 ≤ p.flags) (h8 : p.flags ≤ 255) (h9 : 0 ≤ p.win) (h10 : p.win ≤ 65535) (t0 : (p.seq == 0) = true) (t1 : (p.ack == 0) = true) (t2 : (p.flags == 0) = true) (t3 : (p.win == 0) = true) (hn : n ≤ 4611686018427387904) (hq : (p.proto == 17) = true) (w : World) : Calls Try.prog 37 #[p.val a n c] w fun e w' => e = .returned (.bool (decide ((n : Int) ≤ 1472))) ∧ Below w.heap.size w w' := by
  have C := Lib.hid (fun w => refFlow_ok p h w)
  clear h
  obtain ⟨W, hW, hB⟩ := Box.start w p a n c
  have HW := Lib.hid hW
  have HB := Lib.hid hB
  clear hW hB
  go_enter Try.func37, Try.ntmps37
  go_wp2_with fail
  rw [HW.out]
  refine (C.out _).mono ?_
  rintro e w1 ⟨rfl, hb⟩
  have HS := Lib.hid (HB.out.next hb)
  clear hb
  obtain ⟨⟨e0, e1, e2, e3, e4, e5, e6, e7, e8, e9, e10, e11, e12⟩, _⟩ := HS.out
  have HT := Lib.hid HS.out.below
  go_wp2
  go_ret
  exact ⟨rfl, HT.out⟩
set_option maxRecDepth 100000 in
set_option maxHeartbeats 400000 in
theorem refGood_t0 (p : Pk) (a : Option Addr) (n c : Nat) (h : FlowOk p) (h1 : 0 ≤ p.tos) (h2 : p.tos ≤ 255) (h3 : 0 ≤ p.id) (h4 : p.id ≤ 65535) (h5 : 1 ≤ p.ttl) (h6 : p.ttl ≤ 255) (h7 : 0 ≤ p.flags) (h8 : p.flags ≤ 255) (h9 : 0 ≤ p.win) (h10 : p.win ≤ 65535) (hn : n ≤ 4611686018427387904) (hq : (p.proto == 17) = false) (w : World) : Calls Try.prog 37 #[p.val a n c] w fun e w' => e = .returned (.bool (decide ((n : Int) ≤ 1460))) ∧ Below w.heap.size w w' := by
  have C := Lib.hid (fun w => refFlow_ok p h w)
  clear h
  obtain ⟨W, hW, hB⟩ := Box.start w p a n c
  have HW := Lib.hid hW
  have HB := Lib.hid hB
  clear hW hB
  go_enter Try.func37, Try.ntmps37
  go_wp2_with fail
  rw [HW.out]
  refine (C.out _).mono ?_
  rintro e w1 ⟨rfl, hb⟩
  have HS := Lib.hid (HB.out.next hb)
  clear hb
  obtain ⟨⟨e0, e1, e2, e3, e4, e5, e6, e7, e8, e9, e10, e11, e12⟩, _⟩ := HS.out
  have HT := Lib.hid HS.out.below
  go_wp2
  go_ret
  exact ⟨rfl, HT.out⟩

theorem refGood_any (p : Pk) (a : Option Addr) (n c : Nat) (hl : p.data.length = n) (hn : n ≤ 4611686018427387904) (w : World) : (Ok p → Calls Try.prog 37 #[p.val a n c] w fun e w' => e = .returned (.bool true) ∧ Below w.heap.size w w') ∧ (¬ Ok p → Calls Try.prog 37 #[p.val a n c] w fun e w' => e = .returned (.bool false) ∧ Below w.heap.size w w') := by
  constructor
  · intro h
    have hL := h.len
    unfold segLen at hL
    have hf : FlowOk p := ⟨h.proto, h.sp, h.dp⟩
    rcases h.proto with hp | hp
    · rw [if_neg (by omega)] at hL
      have T := refGood_t0 p a n c hf h.tos.1 h.tos.2 h.id.1 h.id.2 h.ttl.1 h.ttl.2 h.flags.1 h.flags.2 h.win.1 h.win.2 hn (by simp [hp]) w
      rwa [decide_eq_true (show (n : Int) ≤ 1460 by omega)] at T
    · rw [if_pos hp] at hL
      obtain ⟨q1, q2, q3, q4⟩ := h.udp hp
      have T := refGood_u4 p a n c hf h.tos.1 h.tos.2 h.id.1 h.id.2 h.ttl.1 h.ttl.2 h.flags.1 h.flags.2 h.win.1 h.win.2 (by simp [q1]) (by simp [q2]) (by simp [q3]) (by simp [q4]) hn (by simp [hp]) w
      rwa [decide_eq_true (show (n : Int) ≤ 1472 by omega)] at T
  · intro h
    by_cases hh : Head p
    · obtain ⟨hf, h1, h2, h3, h4, h5, h6, h7, h8, h9, h10⟩ := hh
      by_cases hp : p.proto = 17
      · have hq : (p.proto == 17) = true := by simp [hp]
        cases t0 : (p.seq == 0) with
        | false => exact refGood_u0 p a n c hf h1 h2 h3 h4 h5 h6 h7 h8 h9 h10 t0 hq w
        | true =>
          cases t1 : (p.ack == 0) with
          | false => exact refGood_u1 p a n c hf h1 h2 h3 h4 h5 h6 h7 h8 h9 h10 t0 t1 hq w
          | true =>
            cases t2 : (p.flags == 0) with
            | false => exact refGood_u2 p a n c hf h1 h2 h3 h4 h5 h6 h7 h8 h9 h10 t0 t1 t2 hq w
            | true =>
              cases t3 : (p.win == 0) with
              | false => exact refGood_u3 p a n c hf h1 h2 h3 h4 h5 h6 h7 h8 h9 h10 t0 t1 t2 t3 hq w
              | true =>
                have T := refGood_u4 p a n c hf h1 h2 h3 h4 h5 h6 h7 h8 h9 h10 t0 t1 t2 t3 hn hq w
                have : ¬ (n : Int) ≤ 1472 := fun hl' => h ⟨⟨h1, h2⟩, ⟨h3, h4⟩, ⟨h5, h6⟩, hf.1, hf.2.1, hf.2.2, ⟨h7, h8⟩, ⟨h9, h10⟩, fun _ => ⟨by simpa using t0, by simpa using t1, by simpa using t2, by simpa using t3⟩, by unfold segLen; rw [if_pos hp]; omega⟩
                rwa [decide_eq_false this] at T
      · have hq : (p.proto == 17) = false := by simp [hp]
        have T := refGood_t0 p a n c hf h1 h2 h3 h4 h5 h6 h7 h8 h9 h10 hn hq w
        have : ¬ (n : Int) ≤ 1460 := fun hl' => h ⟨⟨h1, h2⟩, ⟨h3, h4⟩, ⟨h5, h6⟩, hf.1, hf.2.1, hf.2.2, ⟨h7, h8⟩, ⟨h9, h10⟩, fun e => absurd e hp, by unfold segLen; rw [if_neg hp]; omega⟩
        rwa [decide_eq_false this] at T
    · rcases head_no hh with h | ⟨h, h1⟩ | ⟨h, h1, h2⟩ | ⟨h, h1, h2, h3⟩ | ⟨h, h1, h2, h3, h4⟩ | ⟨h, h1, h2, h3, h4, h5⟩ | ⟨h, h1, h2, h3, h4, h5, h6⟩ | ⟨h, h1, h2, h3, h4, h5, h6, h7⟩ | ⟨h, h1, h2, h3, h4, h5, h6, h7, h8⟩ | ⟨h, h1, h2, h3, h4, h5, h6, h7, h8, h9⟩ | ⟨h, h1, h2, h3, h4, h5, h6, h7, h8, h9, h10⟩
      · exact refGood_low0 p a n c h _ rfl w
      · exact refGood_low1 p a n c h h1 _ rfl w
      · exact refGood_low2 p a n c h h1 h2 _ rfl w
      · exact refGood_low3 p a n c h h1 h2 h3 _ rfl w
      · exact refGood_low4 p a n c h h1 h2 h3 h4 _ rfl w
      · exact refGood_low5 p a n c h h1 h2 h3 h4 h5 _ rfl w
      · exact refGood_low6 p a n c h h1 h2 h3 h4 h5 h6 _ rfl w
      · exact refGood_low7 p a n c h h1 h2 h3 h4 h5 h6 h7 _ rfl w
      · exact refGood_low8 p a n c h h1 h2 h3 h4 h5 h6 h7 h8 _ rfl w
      · exact refGood_low9 p a n c h h1 h2 h3 h4 h5 h6 h7 h8 h9 _ rfl w
      · exact refGood_low10 p a n c h h1 h2 h3 h4 h5 h6 h7 h8 h9 h10 _ rfl w

end Go.Proofs.Ytfbmeoiaedlgoaa
