/- The document's eight: a number's bytes behind a row of the call's own. Conditions: those stated. -/
import Derived.Test.YtnhnpfhfcbmmlaaVgA
import Derived.Maps.AppendAt
namespace Go.Proofs.Ytnhnpfhfcbmmlaa
open Go Go.RowKit
set_option linter.unusedVariables false
set_option linter.unusedSimpArgs false

/-- A number's bits, shifted. -/
def sh8 (x : Int) : Nat → Int
  | 0 => x % 18446744073709551616
  | j + 1 => sh8 x j * 256 % 18446744073709551616
theorem sh8_all (x : Int) : sh8 x 0 = x % 18446744073709551616 ∧ sh8 x 1 = x % 72057594037927936 * 256 ∧ sh8 x 2 = x % 281474976710656 * 65536 ∧ sh8 x 3 = x % 1099511627776 * 16777216 ∧ sh8 x 4 = x % 4294967296 * 4294967296 ∧ sh8 x 5 = x % 16777216 * 1099511627776 ∧ sh8 x 6 = x % 65536 * 281474976710656 ∧ sh8 x 7 = x % 256 * 72057594037927936 := by
  have h0 : sh8 x 0 = x % 18446744073709551616 := rfl
  have h1 : sh8 x 1 = x % 72057594037927936 * 256 := by have : sh8 x 1 = sh8 x 0 * 256 % 18446744073709551616 := rfl; rw [this, h0]; omega
  have h2 : sh8 x 2 = x % 281474976710656 * 65536 := by have : sh8 x 2 = sh8 x 1 * 256 % 18446744073709551616 := rfl; rw [this, h1]; omega
  have h3 : sh8 x 3 = x % 1099511627776 * 16777216 := by have : sh8 x 3 = sh8 x 2 * 256 % 18446744073709551616 := rfl; rw [this, h2]; omega
  have h4 : sh8 x 4 = x % 4294967296 * 4294967296 := by have : sh8 x 4 = sh8 x 3 * 256 % 18446744073709551616 := rfl; rw [this, h3]; omega
  have h5 : sh8 x 5 = x % 16777216 * 1099511627776 := by have : sh8 x 5 = sh8 x 4 * 256 % 18446744073709551616 := rfl; rw [this, h4]; omega
  have h6 : sh8 x 6 = x % 65536 * 281474976710656 := by have : sh8 x 6 = sh8 x 5 * 256 % 18446744073709551616 := rfl; rw [this, h5]; omega
  have h7 : sh8 x 7 = x % 256 * 72057594037927936 := by have : sh8 x 7 = sh8 x 6 * 256 % 18446744073709551616 := rfl; rw [this, h6]; omega
  exact ⟨h0, h1, h2, h3, h4, h5, h6, h7⟩
theorem sh8_bound (x : Int) : ∀ j, 0 ≤ sh8 x j ∧ sh8 x j < 18446744073709551616
  | 0 => by show 0 ≤ x % 18446744073709551616 ∧ x % 18446744073709551616 < 18446744073709551616; omega
  | j + 1 => by show 0 ≤ sh8 x j * 256 % 18446744073709551616 ∧ sh8 x j * 256 % 18446744073709551616 < 18446744073709551616; omega
theorem sh8_byte (x : Int) {j : Nat} (h : j < 8) : sh8 x j / 72057594037927936 = (b8 x).getD j 0 := by
  obtain ⟨h0, h1, h2, h3, h4, h5, h6, h7⟩ := sh8_all x
  have : j = 0 ∨ j = 1 ∨ j = 2 ∨ j = 3 ∨ j = 4 ∨ j = 5 ∨ j = 6 ∨ j = 7 := by omega
  rcases this with rfl | rfl | rfl | rfl | rfl | rfl | rfl | rfl <;> simp only [b8, List.getD_cons_zero, List.getD_cons_succ] <;> omega
/-- A row of the call's own that grew: in its block, or in a new one. -/
structure OwR (w0 w : World) (B : Nat) (l : List Int) (ao0 : Option Addr) (n0 c0 : Nat) (ao : Option Addr) (c : Nat) : Prop where
  own : w.ownsRow B 5 1 (.slice ao l.length c) l.length (u8s l)
  tch : Tch (fun k => some k = (Value.slice ao0 n0 c0).ownBlock) w0 w
  blk : ∀ g, (Value.slice ao l.length c).ownBlock = some g → (Value.slice ao0 n0 c0).ownBlock = some g ∨ w0.heap.size ≤ g
theorem own_blk (a : Option Addr) (n m c d : Nat) : (Value.slice a n c).ownBlock = (Value.slice a m d).ownBlock := by
  cases a <;> rfl
set_option maxRecDepth 100000 in
set_option maxHeartbeats 4000000 in
theorem eight_c (x : Int) (hx : i64c x) (B : Nat) (l : List Int) (ao : Option Addr) (c : Nat) (w : World) (hO : w.ownsRow B 5 1 (.slice ao l.length c) l.length (u8s l)) (hl : l.length ≤ 4194304) (hB : B ≤ w.heap.size) :
    Calls Try.prog 100 #[.slice ao l.length c, .int .i64 x] w fun e w' => ∃ a2 c2, e = .returned (.slice a2 (l.length + 8) c2) ∧ OwR w w' B (l ++ b8 x) ao l.length c a2 c2 := by
  obtain ⟨i0, hi0, hz0, hz1, hz2⟩ := info_parts info5
  have HB := Lib.hid hB
  have HL := Lib.hid hl
  have HX := Lib.hid hx
  obtain ⟨n, hn⟩ : ∃ n, n = l.length := ⟨_, rfl⟩
  rw [← hn]
  rw [← hn] at hO
  have HN := Lib.hid hn
  have S0 : Hid (OwR w w B (l ++ (b8 x).take 0) ao n c ao c) := Lib.hid ⟨by simpa [hn] using hO, Tch.refl _ _, fun g hg => .inl (by rw [← hg]; exact own_blk _ _ _ _ _)⟩
  clear hO hB hl hx hn
  go_enter Try.func100, Try.ntmps100
  go_wp2
  go_loopw [0, 5, 6] (fun rv xv iv wr => ∃ (j : Nat) (a2 : Option Addr) (c2 : Nat), j ≤ 8 ∧ iv = .int .i64 j ∧ rv = .slice a2 (n + j) c2 ∧ xv = .int .u64 (sh8 x j) ∧ Hid (OwR w wr B (l ++ (b8 x).take j) ao n c a2 c2)) (fun _ _ iv _ => 8 - (intOf iv).toNat)
  case atStart => exact ⟨0, ao, c, by omega, rfl, rfl, rfl, S0⟩
  case round =>
    obtain ⟨j, a2, c2, hj, rfl, rfl, rfl, HS⟩ := hrel
    obtain ⟨w2, rfl⟩ : ∃ v, v = wr := ⟨_, rfl⟩
    clear S0
    by_cases hlt : j < 8
    · have ii : (j : Int) < 8 := by omega
      have hsb := sh8_bound x j
      have HBY := Lib.hid (sh8_byte x hlt)
      have HTK : Hid ((b8 x).take (j + 1) = (b8 x).take j ++ [(b8 x).getD j 0] ∧ (l ++ (b8 x).take j).length = n + j) := Lib.hid ⟨take_more _ 0 (by rw [b8_len]; exact hlt), by rw [List.length_append, List.length_take, b8_len, HN.out]; omega⟩
      have HBW : Hid (B ≤ w2.heap.size) := Lib.hid (by have := HB.out; have := HS.out.tch.size; omega)
      have HO2 : Hid (w2.ownsRow B 5 1 (.slice a2 (n + j) c2) (n + j) (u8s (l ++ (b8 x).take j))) := Lib.hid (by have := HS.out.own; rwa [HTK.out.2] at this)
      have HOL := Lib.hid (HO2.out.alloc (.cells #[.int .u8 (sh8 x j / 72057594037927936)] 5))
      have HN5 := Lib.hid (one_new w2 (.int .u8 (sh8 x j / 72057594037927936)) 5)
      have hn8 : n ≤ 4194304 := by have := HL.out; have := HN.out; omega
      go_wp2_with (at_builtin; refine wpList_append_own_at _ rfl (.tmp 13) (.tmp 17) 26 rfl B 5 i0 (.int .u8 0) 1 1 Try.underlying26 hi0 hz0 hz1 hz2 rfl (by decide) _ (n + j) (u8s (l ++ (b8 x).take j)) rfl HOL.out ⟨w2.heap.size, 0, none⟩ 1 1 [.int .u8 (sh8 x j / 72057594037927936)] rfl rfl HN5.out (by intro u hu; simp at hu; subst hu; rfl) (by unfold maxLen; omega) (by omega) (by have := HBW.out; simp; omega) ?_)
      intro v8 w8 hown8 hg8 _ hb8
      obtain ⟨a8, c8, rfl⟩ := own_form hown8
      have HF : Hid (OwR w w8 B (l ++ (b8 x).take (j + 1)) ao n c a8 c8) := Lib.hid (by
        have e1 : u8s (l ++ (b8 x).take (j + 1)) = u8s (l ++ (b8 x).take j) ++ [.int .u8 (sh8 x j / 72057594037927936)] := by
          rw [HTK.out.1, HBY.out, ← List.append_assoc, ← u8s_app]
          rfl
        have e2 : (l ++ (b8 x).take (j + 1)).length = n + (j + 1) := by rw [HTK.out.1, ← List.append_assoc, List.length_append, HTK.out.2]; rfl
        have e3 : (Value.slice a2 (n + j) c2).ownBlock = (Value.slice a2 (l ++ (b8 x).take j).length c2).ownBlock := own_blk _ _ _ _ _
        refine ⟨by rw [e1, e2]; exact hown8, ?_, fun g hg => ?_⟩
        · refine HS.out.tch.trans' (((tch_alloc w2 _).mono (fun _ h => h.elim)).trans (tch_grown hg8)) (fun k hk e => ?_)
          rw [e3] at e
          rcases HS.out.blk k e.symm with h | h
          · exact h.symm
          · omega
        · rw [e2] at hg
          rcases hb8 with h | h
          · rw [show (Value.slice a8 (n + (j + 1)) c8).ownBlock = (Value.slice a8 (n + j + 1) c8).ownBlock from rfl, h, e3] at hg
            exact HS.out.blk g hg
          · rw [show (Value.slice a8 (n + (j + 1)) c8).ownBlock = (Value.slice a8 (n + j + 1) c8).ownBlock from rfl, h] at hg
            simp only [World.size_alloc, Option.some.injEq] at hg
            have := HS.out.tch.size
            exact .inr (by omega))
      have HNX : Hid (sh8 x (j + 1) = sh8 x j * 256 % 18446744073709551616) := Lib.hid rfl
      clear hown8 hg8 hb8 HOL HN5
      go_wp2
      go_roundw
      case rel => exact ⟨j + 1, a8, c8, by omega, by go_num, rfl, by rw [HNX.out]; go_num, HF⟩
      case measure => simp [intOf]; omega
    · have ii : ¬ (j : Int) < 8 := by omega
      obtain rfl : j = 8 := by omega
      have HF : Hid (OwR w w2 B (l ++ b8 x) ao n c a2 c2) := Lib.hid (by have := HS.out; rwa [show (b8 x).take 8 = b8 x from rfl] at this)
      clear HS
      go_wp2
      go_ret
      exact ⟨a2, c2, rfl, HF.out⟩
end Go.Proofs.Ytnhnpfhfcbmmlaa
