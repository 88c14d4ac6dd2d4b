/- Contract of codec.appendNumber. Conditions: a row of the call's own, of at most 2^20 bytes; one to eight bytes are put. -/
import Derived.Test.YtbfcgnggcgodhaaMgA
namespace Go.Proofs.Ytbfcgnggcgodhaa
open Go Go.RowKit
set_option linter.unusedVariables false
set_option linter.unusedSimpArgs false

set_option maxRecDepth 100000 in
set_option maxHeartbeats 1000000 in
theorem put_any (x : Int) (size : Nat) (hx : -9223372036854775808 ≤ x ∧ x < 9223372036854775808) (hs : 1 ≤ size ∧ size ≤ 8) (B m : Nat) (ao : Option Addr) (c : Nat) (l : List Int) (w : World) (hO : w.ownsRow B 5 1 (.slice ao m c) m (u8s l)) (hB : B ≤ w.heap.size) (hm : m ≤ 1048576) :
    Calls Try.prog 31 #[.slice ao m c, .int .i64 size, .int .i64 x] w (PutM B w (m + size) (l ++ be size x)) := by
  obtain ⟨i0, hi0, hz0, hz1, hz2⟩ := info_parts info5
  obtain ⟨s1, s8⟩ := hs
  have HO := Lib.hid (show w.ownsRow B 5 1 (.slice ao (m + 0) c) (m + 0) (u8s (l ++ (be size x).take 0)) by simpa using hO)
  have HB := Lib.hid hB
  have HB0 := Lib.hid (Below.refl B w)
  have a0 : ∀ [Inhabited Nat], IntKind.i64.wrap ((size : Int) - 1) = (size : Int) - 1 := by intro _; exact IntWalk.i64_in _ (by omega)
  clear hO hB hx
  go_enter Try.func31, Try.ntmps31
  go_wp2
  go_loopw [0, 7, 9] (fun v _ i wr => ∃ (j : Nat) (ao : Option Addr) (c : Nat), j ≤ size ∧ i = .int .i64 j ∧ v = .slice ao (m + j) c ∧ Hid (wr.ownsRow B 5 1 (.slice ao (m + j) c) (m + j) (u8s (l ++ (be size x).take j))) ∧ Hid (Below B w wr)) (fun _ _ i _ => size - (intOf i).toNat)
  case atStart => exact ⟨0, ao, c, by omega, rfl, rfl, HO, HB0⟩
  case round =>
    obtain ⟨j, a2, c2, hj, rfl, rfl, hO, hBl⟩ := hrel
    clear HO HB0
    by_cases hlj : j < size
    · obtain ⟨d, hd⟩ : ∃ d : Nat, d + 1 + j = size := ⟨size - 1 - j, by omega⟩
      have hd8 : d ≤ 7 := by omega
      obtain ⟨q, hq⟩ : ∃ q, q = x / 2 ^ (8 * d) := ⟨_, rfl⟩
      have a1 : ∀ [Inhabited Nat], IntKind.i64.wrap ((size : Int) - 1 - (j : Int)) = (d : Int) := by intro _; rw [IntWalk.i64_in _ (by omega)]; omega
      have a2' : ∀ [Inhabited Nat], IntKind.i64.wrap (8 * (d : Int)) = 8 * (d : Int) := by intro _; exact IntWalk.i64_in _ (by omega)
      have a3 : 0 ≤ 8 * (d : Int) := by omega
      have a4 : x / 2 ^ (8 * (d : Int)).toNat = q := by rw [hq]; congr 2
      have HC3 : Hid (u8s (l ++ (be size x).take j) ++ [Value.int .u8 (IntKind.u8.wrap q)] = u8s (l ++ (be size x).take (j + 1))) := Lib.hid (by rw [be_next8 hd hd8 hq, ← List.append_assoc, ← u8s_app (l ++ (be size x).take j)]; rfl)
      have hms : m + j ≤ 1048600 := by omega
      have ilj : (j : Int) < (size : Int) := by omega
      clear hq
      have HD := Lib.hid hd
      clear hd
      go_wp2_with (at_builtin; refine wpList_append_own _ rfl (.tmp 12) (.tmp 21) 23 rfl B 5 i0 (.int .u8 0) 1 1 Try.underlying23 hi0 hz0 hz1 hz2 rfl (by decide) _ (m + j) (u8s (l ++ (be size x).take j)) rfl (hO.out.alloc _) ⟨wr.heap.size, 0, none⟩ 1 1 [.int .u8 (IntKind.u8.wrap q)] rfl rfl (cell_one_new wr _ _) ?c3 ?c4 ?c5 ?c6 ?_)
      case c3 => intro u hu; simp at hu; subst hu; rfl
      case c4 => unfold maxLen; omega
      case c5 => omega
      case c6 => have := hBl.out.size; have := HB.out; simp; omega
      intro v4 w4 hown hg _
      have hsz : B ≤ wr.heap.size := by have := hBl.out.size; have := HB.out; omega
      have HB4 := Lib.hid ((hBl.out.alloc hsz (.cells #[.int .u8 (IntKind.u8.wrap q)] 5)).grown hg (by simp; omega) (fun k hk => (hO.out.lt k hk).1))
      rw [HC3.out] at hown
      obtain ⟨a4', c4, rfl⟩ := own_form hown
      have HO4 := Lib.hid hown
      clear hown hg hO hsz a4 a3
      go_wp2
      go_roundw
      case rel => exact ⟨j + 1, a4', c4, by omega, by go_num, rfl, HO4, HB4⟩
      case measure => have := HD.out; simp [intOf]; omega
    · have hjs : j = size := by omega
      have hto : (be size x).take j = be size x := List.take_of_length_le (by rw [be_len]; omega)
      rw [hto] at hO
      subst hjs
      clear hto
      go_wp2
      go_ret
      exact ⟨a2, c2, rfl, hO.out, hBl.out⟩
end Go.Proofs.Ytbfcgnggcgodhaa
