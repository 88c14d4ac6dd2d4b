/- Contracts of packet's small functions: within, headLen, checkNoughts, Check; of addr.isPort and addr.Check; of towpathnum.Num at the errors that packet answers. No conditions but that a row's length is at most 2^62. -/
import Derived.Test.YtfbmeoiaedlgoaaPkP
import Derived.Test.YtfbmeoiaedlgoaaNumA
import Derived.Deep.RegionHeld3
import Derived.Deep.RegionWith
namespace Go.Proofs.Ytfbmeoiaedlgoaa
open Go Go.RowKit
set_option linter.unusedVariables false
set_option linter.unusedSimpArgs false

abbrev errno (n : Int) : Value := .iface 47 (.int .i64 n)
/-- A packet as a value, its Data a row. -/
abbrev Pk.cs (p : Pk) (a : Option Addr) (n c : Nat) : Array Value := #[.int .i64 p.tos, .int .i64 p.id, .int .i64 p.ttl, .int .i64 p.proto, .int .u32 p.src, .int .i64 p.sp, .int .u32 p.dst, .int .i64 p.dp, .int .u32 p.seq, .int .u32 p.ack, .int .i64 p.flags, .int .i64 p.win, .slice a n c]
abbrev Pk.val (p : Pk) (a : Option Addr) (n c : Nat) : Value := .agg (p.cs a n c)
abbrev Pk.obj (p : Pk) (a : Option Addr) (n c : Nat) : Obj := .cells (p.cs a n c) 49
abbrev Pk.flow (p : Pk) : Value := .agg #[.int .i64 p.proto, .int .u32 p.src, .int .i64 p.sp, .int .u32 p.dst, .int .i64 p.dp]

def inB (n lo hi : Int) : Bool := decide (lo ≤ n) && decide (n ≤ hi)
theorem inB_yes {n lo hi : Int} (h : lo ≤ n ∧ n ≤ hi) : inB n lo hi = true := by simp [inB, h.1, h.2]
theorem inB_no {n lo hi : Int} (h : ¬ (lo ≤ n ∧ n ≤ hi)) : inB n lo hi = false := by
  unfold inB
  by_cases h0 : lo ≤ n
  · have : ¬ n ≤ hi := fun h1 => h ⟨h0, h1⟩
    simp [this]
  · simp [h0]
theorem within_any (n lo hi : Int) (w : World) : Calls Try.prog 64 #[.int .i64 n, .int .i64 lo, .int .i64 hi] w fun e w' => e = .returned (.bool (inB n lo hi)) ∧ w = w' := by
  by_cases h0 : lo ≤ n
  · have HB : Hid (inB n lo hi = decide (n ≤ hi)) := Lib.hid (by simp [inB, h0])
    go_enter Try.func64, Try.ntmps64
    go_wp2
    go_ret
    exact ⟨by rw [HB.out]; rfl, rfl⟩
  · have HB : Hid (inB n lo hi = false) := Lib.hid (by simp [inB, h0])
    go_enter Try.func64, Try.ntmps64
    go_wp2
    go_ret
    exact ⟨by rw [HB.out]; rfl, rfl⟩
theorem port_any (n : Int) (w : World) : Calls Try.prog 69 #[.int .i64 n] w fun e w' => e = .returned (.bool (inB n 0 65535)) ∧ w = w' := by
  by_cases h0 : 0 ≤ n
  · have HB : Hid (inB n 0 65535 = decide (n ≤ 65535)) := Lib.hid (by simp [inB, h0])
    go_enter Try.func69, Try.ntmps69
    go_wp2
    go_ret
    exact ⟨by rw [HB.out]; rfl, rfl⟩
  · have HB : Hid (inB n 0 65535 = false) := Lib.hid (by simp [inB, h0])
    go_enter Try.func69, Try.ntmps69
    go_wp2
    go_ret
    exact ⟨by rw [HB.out]; rfl, rfl⟩
theorem headLen_udp (w : World) : Calls Try.prog 50 #[.int .i64 17] w fun e w' => e = .returned (.int .i64 8) ∧ w = w' := by
  go_enter Try.func50, Try.ntmps50
  go_wp2
  go_ret
  exact ⟨rfl, rfl⟩
theorem headLen_else (n : Int) (h : n ≠ 17) (w : World) : Calls Try.prog 50 #[.int .i64 n] w fun e w' => e = .returned (.int .i64 20) ∧ w = w' := by
  have q : (n == 17) = false := by simp [h]
  clear h
  go_enter Try.func50, Try.ntmps50
  go_wp2
  go_ret
  exact ⟨rfl, rfl⟩

theorem headLen_is (n K : Int) (h : (n = 17 ∧ K = 8) ∨ (n ≠ 17 ∧ K = 20)) (w : World) : Calls Try.prog 50 #[.int .i64 n] w fun e w' => e = .returned (.int .i64 K) ∧ w = w' := by
  rcases h with ⟨rfl, rfl⟩ | ⟨h, rfl⟩
  · exact headLen_udp w
  · exact headLen_else n h w

theorem num_nil (w : World) : Calls Try.prog 13 #[.nilIface] w fun e w' => e = .returned (.int .i64 0) ∧ w = w' := by
  go_enter Try.func13, Try.ntmps13
  go_wp2
  go_ret
  exact ⟨rfl, rfl⟩
set_option maxRecDepth 100000 in
theorem num_two (w : World) : Calls Try.prog 13 #[errno 2] w fun e w' => e = .returned (.int .i64 2) ∧ w = w' := by
  have ta : ∀ w : World, (Instr.typeAssert (errno 2) 28 47 true).run Try.prog w = .ok (.tuple #[.int .i64 2, .bool true]) w := fun _ => by kernel_rfl
  go_enter Try.func13, Try.ntmps13
  go_wp2
  go_ret
  exact ⟨rfl, rfl⟩
set_option maxRecDepth 100000 in
theorem num_nine (w : World) : Calls Try.prog 13 #[errno 9] w fun e w' => e = .returned (.int .i64 9) ∧ w = w' := by
  have ta : ∀ w : World, (Instr.typeAssert (errno 9) 28 47 true).run Try.prog w = .ok (.tuple #[.int .i64 9, .bool true]) w := fun _ => by kernel_rfl
  go_enter Try.func13, Try.ntmps13
  go_wp2
  go_ret
  exact ⟨rfl, rfl⟩

/-- A flow in form. -/
def FlowOk (p : Pk) : Prop := (p.proto = 6 ∨ p.proto = 17) ∧ (0 ≤ p.sp ∧ p.sp ≤ 65535) ∧ (0 ≤ p.dp ∧ p.dp ≤ 65535)
theorem flow_ok (p : Pk) (h : FlowOk p) (w : World) : Calls Try.prog 57 #[p.flow] w fun e w' => e = .returned .nilIface ∧ Below w.heap.size w w' := by
  obtain ⟨hp, hs, hd⟩ := h
  have ps := inB_yes hs
  have pd := inB_yes hd
  have hq : ((p.proto != 6) = true ∧ (p.proto != 17) = false) ∨ ((p.proto != 6) = false) := by
    rcases hp with h | h
    · right; simp [h]
    · left; simp [h]
  clear hp hs hd
  rcases hq with ⟨q1, q2⟩ | q1
  all_goals
    go_enter Try.func57, Try.ntmps57
    go_wp2_with (go_at_call 69; refine (port_any _ _).mono ?_; rintro e w1 ⟨rfl, rfl⟩)
    go_ret
    exact ⟨rfl, bl_al (Below.refl _ _) _⟩
theorem flow_no (p : Pk) (h : ¬ FlowOk p) (w : World) : Calls Try.prog 57 #[p.flow] w fun e w' => e = .returned (errno 9) ∧ Below w.heap.size w w' := by
  by_cases hp : p.proto = 6 ∨ p.proto = 17
  · have hq : ((p.proto != 6) = true ∧ (p.proto != 17) = false) ∨ ((p.proto != 6) = false) := by
      rcases hp with h | h
      · right; simp [h]
      · left; simp [h]
    by_cases hs : 0 ≤ p.sp ∧ p.sp ≤ 65535
    · have hd : ¬ (0 ≤ p.dp ∧ p.dp ≤ 65535) := fun hd => h ⟨hp, hs, hd⟩
      have ps := inB_yes hs
      have pd := inB_no hd
      clear hp hs hd h
      rcases hq with ⟨q1, q2⟩ | q1
      all_goals
        go_enter Try.func57, Try.ntmps57
        go_wp2_with (go_at_call 69; refine (port_any _ _).mono ?_; rintro e w1 ⟨rfl, rfl⟩)
        go_ret
        exact ⟨rfl, bl_al (Below.refl _ _) _⟩
    · have ps := inB_no hs
      clear hp hs h
      rcases hq with ⟨q1, q2⟩ | q1
      all_goals
        go_enter Try.func57, Try.ntmps57
        go_wp2_with (go_at_call 69; refine (port_any _ _).mono ?_; rintro e w1 ⟨rfl, rfl⟩)
        go_ret
        exact ⟨rfl, bl_al (Below.refl _ _) _⟩
  · have q1 : (p.proto != 6) = true := by simp; omega
    have q2 : (p.proto != 17) = true := by simp; omega
    clear hp h
    go_enter Try.func57, Try.ntmps57
    go_wp2
    go_ret
    exact ⟨rfl, bl_al (Below.refl _ _) _⟩

theorem noughts_ok (p : Pk) (a : Option Addr) (n c : Nat) (h : p.seq = 0 ∧ p.ack = 0 ∧ p.flags = 0 ∧ p.win = 0) (w : World) : Calls Try.prog 65 #[p.val a n c] w fun e w' => e = .returned .nilIface ∧ Below w.heap.size w w' := by
  obtain ⟨tos, id, ttl, proto, src, sp, dst, dp, seq, ack, flags, win, data⟩ := p
  obtain ⟨h1, h2, h3, h4⟩ := h
  simp only at h1 h2 h3 h4
  subst h1 h2 h3 h4
  go_enter Try.func65, Try.ntmps65
  go_wp2
  go_ret
  exact ⟨rfl, bl_al (Below.refl _ _) _⟩
theorem noughts_no (p : Pk) (a : Option Addr) (n c : Nat) (h : ¬ (p.seq = 0 ∧ p.ack = 0 ∧ p.flags = 0 ∧ p.win = 0)) (w : World) : Calls Try.prog 65 #[p.val a n c] w fun e w' => e = .returned (errno 9) ∧ Below w.heap.size w w' := by
  obtain ⟨tos, id, ttl, proto, src, sp, dst, dp, seq, ack, flags, win, data⟩ := p
  simp only at h
  by_cases h1 : seq = 0
  · subst h1
    by_cases h2 : ack = 0
    · subst h2
      by_cases h3 : flags = 0
      · subst h3
        have q : (win != 0) = true := by simp at h; simp [h]
        clear h
        go_enter Try.func65, Try.ntmps65
        go_wp2
        go_ret
        exact ⟨rfl, bl_al (Below.refl _ _) _⟩
      · have q : (flags != 0) = true := by simp [h3]
        clear h h3
        go_enter Try.func65, Try.ntmps65
        go_wp2
        go_ret
        exact ⟨rfl, bl_al (Below.refl _ _) _⟩
    · have q : (ack != 0) = true := by simp [h2]
      clear h h2
      go_enter Try.func65, Try.ntmps65
      go_wp2
      go_ret
      exact ⟨rfl, bl_al (Below.refl _ _) _⟩
  · have q : (seq != 0) = true := by simp [h1]
    clear h h1
    go_enter Try.func65, Try.ntmps65
    go_wp2
    go_ret
    exact ⟨rfl, bl_al (Below.refl _ _) _⟩
end Go.Proofs.Ytfbmeoiaedlgoaa
