/- Contracts of the document's Good and number; messages in memory. Conditions: rows of the call's own; numbers of 64 bits. -/
import Derived.Test.YtbfcgnggcgodhaaMgP
namespace Go.Proofs.Ytbfcgnggcgodhaa
open Go Go.RowKit
set_option linter.unusedVariables false
set_option linter.unusedSimpArgs false

abbrev errnoM (n : Int) : Value := .iface 48 (.int .i64 n)
abbrev mcs (kind : Int) (a : Option Addr) (n c : Nat) (b : Option Addr) (k d : Nat) : Array Value := #[.int .i64 kind, .slice a n c, .slice b k d]
abbrev mval (kind : Int) (a : Option Addr) (n c : Nat) (b : Option Addr) (k d : Nat) : Value := .agg (mcs kind a n c b k d)
abbrev mobj (kind : Int) (a : Option Addr) (n c : Nat) (b : Option Addr) (k d : Nat) : Obj := .cells (mcs kind a n c b k d) 25
/-- A message in a block. -/
structure MAt (w : World) (q : Nat) (kind : Int) (a : Option Addr) (n c : Nat) (b : Option Addr) (k d : Nat) : Prop where
  c0 : w.cell? ⟨q, 0, none⟩ = some (.int .i64 kind)
  c1 : w.cell? ⟨q, 1, none⟩ = some (.slice a n c)
  c2 : w.cell? ⟨q, 2, none⟩ = some (.slice b k d)
theorem MAt.new (w : World) (kind : Int) (a : Option Addr) (n c : Nat) (b : Option Addr) (k d : Nat) : MAt (w.alloc (mobj kind a n c b k d)) w.heap.size kind a n c b k d := by
  constructor <;> simp [go_sem]
theorem MAt.lt {w : World} {q : Nat} {kind : Int} {a : Option Addr} {n c : Nat} {b : Option Addr} {k d : Nat} (h : MAt w q kind a n c b k d) : q < w.heap.size := World.block_lt_of_cell? _ _ h.c0
theorem MAt.below {w w' : World} {q S : Nat} {kind : Int} {a : Option Addr} {n c : Nat} {b : Option Addr} {k d : Nat} (h : MAt w q kind a n c b k d) (hB : Below S w w') (hq : q < S) : MAt w' q kind a n c b k d :=
  ⟨(hB.cell (p := ⟨q, 0, none⟩) hq).trans h.c0, (hB.cell (p := ⟨q, 1, none⟩) hq).trans h.c1, (hB.cell (p := ⟨q, 2, none⟩) hq).trans h.c2⟩
/-- A message's box, and that nothing old has turned. -/
structure MBox (w : World) (kind : Int) (a : Option Addr) (n c : Nat) (b : Option Addr) (k d : Nat) (wx : World) : Prop where
  here : MAt wx w.heap.size kind a n c b k d
  below : Below w.heap.size w wx
theorem MBox.start (w : World) (kind : Int) (a : Option Addr) (n c : Nat) (b : Option Addr) (k d : Nat) : ∃ W, w.alloc (mobj kind a n c b k d) = W ∧ MBox w kind a n c b k d W := ⟨_, rfl, MAt.new _ _ _ _ _ _ _ _, bl_al (Below.refl _ _) _⟩
theorem MBox.next {w : World} {kind : Int} {a : Option Addr} {n c : Nat} {b : Option Addr} {k d : Nat} {wx wy : World} (h : MBox w kind a n c b k d wx) (hb : Below wx.heap.size wx wy) : MBox w kind a n c b k d wy := ⟨h.here.below hb h.here.lt, bl_tr h.below hb⟩
theorem MBox.next2 {w : World} {kind : Int} {a : Option Addr} {n c : Nat} {b : Option Addr} {k d : Nat} {wx wy : World} (h : MBox w kind a n c b k d wx) (hb : Below (w.heap.size + 1) wx wy) : MBox w kind a n c b k d wy := ⟨h.here.below hb (Nat.lt_succ_self _), h.below.trans (hb.mono (by omega))⟩
/-- A message's two rows. -/
structure MIn (w : World) (a : Option Addr) (n c : Nat) (b : Option Addr) (k d : Nat) (m : Mg) : Prop where
  nums : InI w a n c m.nums
  data : In w b k d m.data
theorem MIn.below {w w' : World} {a : Option Addr} {n c : Nat} {b : Option Addr} {k d : Nat} {m : Mg} (h : MIn w a n c b k d m) (hb : Below w.heap.size w w') : MIn w' a n c b k d m := ⟨h.nums.below hb, h.data.below hb⟩
theorem MIn.typed {w : World} {a : Option Addr} {n c : Nat} {b : Option Addr} {k d : Nat} {m : Mg} (h : MIn w a n c b k d m) : TyM m := ⟨h.nums.fit, h.data.fit⟩

set_option maxRecDepth 100000 in
theorem goodM_yes (kind : Int) (a : Option Addr) (n c : Nat) (b : Option Addr) (k d : Nat) (h1 : 0 ≤ kind) (h2 : kind ≤ 255) (h3 : n ≤ 40) (h4 : k ≤ 65536) (w : World) :
    Calls Try.prog 33 #[mval kind a n c b k d] w fun e w' => e = .returned (.bool true) ∧ Below w.heap.size w w' := by
  have HB := Lib.hid (bl_al (Below.refl w.heap.size w) (mobj kind a n c b k d))
  have i3 : (n : Int) ≤ 40 := by omega
  have i4 : (k : Int) ≤ 65536 := by omega
  go_enter Try.func33, Try.ntmps33
  go_wp2
  go_ret
  exact ⟨rfl, HB.out⟩
set_option maxRecDepth 100000 in
theorem goodM_no (kind : Int) (a : Option Addr) (n c : Nat) (b : Option Addr) (k d : Nat) (h : ¬ (0 ≤ kind ∧ kind ≤ 255 ∧ n ≤ 40 ∧ k ≤ 65536)) (w : World) :
    Calls Try.prog 33 #[mval kind a n c b k d] w fun e w' => e = .returned (.bool false) ∧ Below w.heap.size w w' := by
  have HB := Lib.hid (bl_al (Below.refl w.heap.size w) (mobj kind a n c b k d))
  have hcase : kind < 0 ∨ 0 ≤ kind ∧ 255 < kind ∨ 0 ≤ kind ∧ kind ≤ 255 ∧ 40 < (n : Int) ∨ 0 ≤ kind ∧ kind ≤ 255 ∧ (n : Int) ≤ 40 ∧ 65536 < (k : Int) := by omega
  clear h
  rcases hcase with q1 | ⟨q1, q2⟩ | ⟨q1, q2, q3⟩ | ⟨q1, q2, q3, q4⟩
  all_goals
    go_enter Try.func33, Try.ntmps33
    go_wp2
    go_ret
    exact ⟨by simp; try omega, HB.out⟩

theorem be_next8 {size j d : Nat} {n q : Int} (hd : d + 1 + j = size) (hd8 : d ≤ 7) (hq : q = n / 2 ^ (8 * d)) : (be size n).take (j + 1) = (be size n).take j ++ [IntKind.u8.wrap q] := by
  have hj : j < (be size n).length := by rw [be_len]; omega
  rw [take_more _ 0 hj, be_at n (by omega), show size - 1 - j = d by omega, IntKind.wrap_u8', hq]
  have : d = 0 ∨ d = 1 ∨ d = 2 ∨ d = 3 ∨ d = 4 ∨ d = 5 ∨ d = 6 ∨ d = 7 := by omega
  rcases this with rfl | rfl | rfl | rfl | rfl | rfl | rfl | rfl <;> rfl
/-- A row of the call's own behind block B, and that nothing below B has turned. -/
def PutM (B : Nat) (w : World) (m : Nat) (l : List Int) (e : Ending) (w' : World) : Prop :=
  ∃ ao c, e = .returned (.slice ao m c) ∧ w'.ownsRow B 5 1 (.slice ao m c) m (u8s l) ∧ Below B w w'
set_option maxRecDepth 100000 in
set_option maxHeartbeats 1000000 in
theorem numR_any (x : Int) (size : Nat) (hx : 0 ≤ x ∧ x < 18446744073709551616) (hs : 1 ≤ size ∧ size ≤ 8) (B m : Nat) (ao : Option Addr) (c : Nat) (l : List Int) (w : World) (hO : w.ownsRow B 5 1 (.slice ao m c) m (u8s l)) (hB : B ≤ w.heap.size) (hm : m ≤ 1048576) :
    Calls Try.prog 34 #[.slice ao m c, .int .u64 x, .int .i64 size] w (PutM B w (m + size) (l ++ be size x)) := by
  obtain ⟨i0, hi0, hz0, hz1, hz2⟩ := info_parts info5
  obtain ⟨s1, s8⟩ := hs
  obtain ⟨x0, x1⟩ := hx
  have HO := Lib.hid (show w.ownsRow B 5 1 (.slice ao (m + 0) c) (m + 0) (u8s (l ++ (be size x).take 0)) by simpa using hO)
  have HB := Lib.hid hB
  have HB0 := Lib.hid (Below.refl B w)
  have a0 : ∀ [Inhabited Nat], IntKind.i64.wrap ((size : Int) - 1) = (size : Int) - 1 := by intro _; exact IntWalk.i64_in _ (by omega)
  clear hO hB
  go_enter Try.func34, Try.ntmps34
  go_wp2
  go_loopw [0, 7] (fun v i wr => ∃ (j : Nat) (ao : Option Addr) (c : Nat), j ≤ size ∧ i = .int .i64 ((size : Int) - 1 - (j : Int)) ∧ v = .slice ao (m + j) c ∧ Hid (wr.ownsRow B 5 1 (.slice ao (m + j) c) (m + j) (u8s (l ++ (be size x).take j))) ∧ Hid (Below B w wr)) (fun _ i _ => (intOf i + 1).toNat)
  case atStart => exact ⟨0, ao, c, by omega, by simp, rfl, HO, HB0⟩
  case round =>
    obtain ⟨j, a2, c2, hj, rfl, rfl, hO, hBl⟩ := hrel
    clear HO HB0
    by_cases hlj : j < size
    · obtain ⟨d, hd⟩ : ∃ d : Nat, d + 1 + j = size := ⟨size - 1 - j, by omega⟩
      have hd8 : d ≤ 7 := by omega
      have ei : (size : Int) - 1 - (j : Int) = (d : Int) := by omega
      rw [ei]
      obtain ⟨q, hq⟩ : ∃ q, q = x / 2 ^ (8 * d) := ⟨_, rfl⟩
      have a1 : ∀ [Inhabited Nat], IntKind.i64.wrap (8 * (d : Int)) = 8 * (d : Int) := by intro _; exact IntWalk.i64_in _ (by omega)
      have a2' : ∀ [Inhabited Nat], IntKind.u64.wrap (8 * (d : Int)) = 8 * (d : Int) := by intro _; rw [IntKind.wrap_u64]; omega
      have a3 : 0 ≤ 8 * (d : Int) := by omega
      have a4 : x / 2 ^ (8 * (d : Int)).toNat = q := by rw [hq]; congr 2
      have a5 : ∀ [Inhabited Nat], IntKind.i64.wrap ((d : Int) - 1) = (size : Int) - 1 - ((j + 1 : Nat) : Int) := by intro _; rw [IntWalk.i64_in _ (by omega)]; omega
      have HC3 : Hid (u8s (l ++ (be size x).take j) ++ [Value.int .u8 (IntKind.u8.wrap q)] = u8s (l ++ (be size x).take (j + 1))) := Lib.hid (by rw [be_next8 hd hd8 hq, ← List.append_assoc, ← u8s_app (l ++ (be size x).take j)]; rfl)
      have hms : m + j ≤ 1048600 := by omega
      have d0 : (0 : Int) ≤ (d : Int) := by omega
      clear hq a0
      have HD := Lib.hid hd
      clear hd
      go_wp2_with (at_builtin; refine wpList_append_own _ rfl (.tmp 14) (.tmp 21) 23 rfl B 5 i0 (.int .u8 0) 1 1 Try.underlying23 hi0 hz0 hz1 hz2 rfl (by decide) _ (m + j) (u8s (l ++ (be size x).take j)) rfl (hO.out.alloc _) ⟨wr.heap.size, 0, none⟩ 1 1 [.int .u8 (IntKind.u8.wrap q)] rfl rfl (cell_one_new wr _ _) ?c3 ?c4 ?c5 ?c6 ?_)
      case c3 => intro u hu; simp at hu; subst hu; rfl
      case c4 => unfold maxLen; omega
      case c5 => omega
      case c6 => have := hBl.out.size; have := HB.out; simp; omega
      intro v4 w4 hown hg _
      have hsz : B ≤ wr.heap.size := by have := hBl.out.size; have := HB.out; omega
      have HB4 := Lib.hid ((hBl.out.alloc hsz (.cells #[.int .u8 (IntKind.u8.wrap q)] 5)).grown hg (by simp; omega) (fun k hk => (hO.out.lt k hk).1))
      rw [HC3.out] at hown
      obtain ⟨a4', c4, rfl⟩ := own_form hown
      have HO4 := Lib.hid hown
      clear hown hg hO hsz a4 a3
      go_wp2
      go_roundw
      case rel => exact ⟨j + 1, a4', c4, by omega, by first | rfl | (simp; omega), rfl, HO4, HB4⟩
      case measure => have := HD.out; simp [intOf]; omega
    · have hjs : j = size := by omega
      have hto : (be size x).take j = be size x := List.take_of_length_le (by rw [be_len]; omega)
      rw [hto] at hO
      subst hjs
      have ei : ¬ (0 ≤ (j : Int) - 1 - (j : Int)) := by omega
      clear hto
      go_wp2
      go_ret
      exact ⟨a2, c2, rfl, hO.out, hBl.out⟩
end Go.Proofs.Ytbfcgnggcgodhaa
