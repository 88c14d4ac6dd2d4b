/- Contract of PacketSlips: true. Conditions: the Data came in, the packet's numbers are of their types, rows of at most 2^47 - 4096 bytes. -/
import Derived.Test.YtkgfdndbjaeohaaAliA
namespace Go.Proofs.Ytkgfdndbjaeohaa
open Go Go.RowKit
set_option linter.unusedVariables false
set_option linter.unusedSimpArgs false

theorem own_set {w : World} {B g cap N : Nat} {l : List Int} (h : Own w B g cap N l) (j : Nat) (x : Int) : Own (w.setCell ⟨g, j, none⟩ (.int .u8 x)) B g cap N (l.set j x) := by
  have h1 := (h.1.stored j (.int .u8 x)).1
  rw [u8s_set] at h1
  exact ⟨h1, by rw [List.length_set]; exact h.2.1, h.2.2⟩
theorem i64_of {n : Int} (h : (Lit.int .i64 n).wf = true) : -9223372036854775808 ≤ n ∧ n ≤ 9223372036854775807 := by
  simpa [Lit.wf, IntKind.min, IntKind.max, IntKind.signed, IntKind.bits] using h
theorem same_two (w : World) : (binOp .eql 32 (errno 2) (.iface 52 (.int .i64 2))).run Try.prog w = .ok (.bool true) w := by kernel_rfl
theorem xor8 (x d : Int) (hx : 0 ≤ x ∧ x < 256) (hd : 0 < d ∧ d < 256) : (0 ≤ bits .xor .u8 x d ∧ bits .xor .u8 x d < 256) ∧ bits .xor .u8 x d ≠ x := by
  have h := u8_xor x d hx.1 hx.2 (by omega) hd.2
  have hl : x.toNat ^^^ d.toNat < 256 := Nat.xor_lt_two_pow (n := 8) (by omega) (by omega)
  rw [h]
  refine ⟨by omega, fun e => ?_⟩
  have e2 : x.toNat ^^^ d.toNat = x.toNat := by omega
  have e3 : x.toNat ^^^ (x.toNat ^^^ d.toNat) = x.toNat ^^^ x.toNat := by rw [e2]
  rw [← Nat.xor_assoc, Nat.xor_self, Nat.zero_xor] at e3
  omega
theorem bit8 {s : Nat} (h : s < 8) : 0 < (2 : Int) ^ s % 256 ∧ (2 : Int) ^ s % 256 < 256 := by
  have : s = 0 ∨ s = 1 ∨ s = 2 ∨ s = 3 ∨ s = 4 ∨ s = 5 ∨ s = 6 ∨ s = 7 := by omega
  rcases this with rfl | rfl | rfl | rfl | rfl | rfl | rfl | rfl <;> decide
set_option maxRecDepth 100000 in
set_option maxHeartbeats 1000000 in
theorem slips_any (p : Pk) (a : Option Addr) (n c : Nat) (i : Int) (w : World) (hI : In w a n c p.data) (ht : Typed p) (hn : n ≤ 4611686018427387904) (hi : -9223372036854775808 ≤ i ∧ i ≤ 9223372036854775807) :
    Calls Try.prog 6 #[p.val a n c, .int .i64 i] w fun e w' => e = .returned (.bool true) ∧ Below w.heap.size w w' := by
  obtain ⟨W, hW, hB⟩ := Box.start w p a n c
  have HW := Lib.hid hW
  have HB := Lib.hid hB
  have HI := Lib.hid hI
  have HT := Lib.hid ht
  clear hW hB hI ht
  by_cases hok : Ok p
  · have hsl := hok.len
    have hs8 : 8 ≤ segLen p := by unfold segLen; split <;> omega
    have CB := Lib.hid (fun W (h : In W a n c p.data) => build_ok p a n c hok HT.out W h)
    have HIS := Lib.hid (Is.of hok HT.out (b := bts p) rfl).1
    obtain ⟨N, hN⟩ : ∃ N, N = 20 + segLen p := ⟨_, rfl⟩
    rw [← hN] at CB
    have HBL : Hid ((bts p).length = N) := Lib.hid (by rw [hN, bts_len])
    have HFB := Lib.hid (fit_bts HT.out.data)
    have hN1 : 28 ≤ N ∧ N ≤ 1500 := by omega
    obtain ⟨N0, N1⟩ := hN1
    -- the bit
    obtain ⟨r, hr, r0, r1⟩ : ∃ r, IntKind.u64.wrap i = r ∧ 0 ≤ r ∧ r < 18446744073709551616 := ⟨_, rfl, by rw [IntKind.wrap_u64]; omega, by rw [IntKind.wrap_u64]; omega⟩
    obtain ⟨B, hBt, hB1⟩ : ∃ B : Nat, r % (8 * (N : Int)) = (B : Int) ∧ B < 8 * N := ⟨(r % (8 * (N : Int))).toNat, by have := Int.emod_nonneg r (b := 8 * (N : Int)) (by omega); omega, by have := Int.emod_lt_of_pos r (b := 8 * (N : Int)) (by omega); have := Int.emod_nonneg r (b := 8 * (N : Int)) (by omega); omega⟩
    obtain ⟨J, hJ⟩ : ∃ J : Nat, J = B / 8 := ⟨_, rfl⟩
    have hJn : J < N := by omega
    have hJ2 : (B : Int) / 8 = (J : Int) := by omega
    have hB2 : (B : Int) % 8 = ((B % 8 : Nat) : Int) := by omega
    have hB3 : B % 8 < 8 := by omega
    obtain ⟨s, hs⟩ : ∃ s, s = B % 8 := ⟨_, rfl⟩
    rw [← hs] at hB2 hB3
    clear hJ hs hN hsl hs8 hok
    go_enter Try.func6, Try.ntmps6
    go_wp2_with fail
    rw [HW.out]
    refine (alive_any W).mono ?_
    rintro e w1 ⟨rfl, hb⟩
    have HB1 := Lib.hid (HB.out.next hb)
    obtain ⟨e0, e1, e2, e3, e4, e5, e6, e7, e8, e9, e10, e11, e12⟩ := HB1.out.here
    clear hb HB HW
    go_wp2_with fail
    refine (CB.out w1 (HI.out.below HB1.out.below)).mono ?_
    rintro e w2 ⟨g, cap, rfl, hown, hb⟩
    have HO2 := Lib.hid hown
    have HB2 := Lib.hid (bl_tr HB1.out.below hb)
    obtain ⟨x, hx⟩ : ∃ x, x = (bts p).getD J 0 := ⟨_, rfl⟩
    have hJl : J < (bts p).length := by rw [HBL.out]; exact hJn
    have hcell := (hown.1.cellAt J (by omega)).trans (u8s_at hJl)
    have hfr := hown.1.frozenAt J
    have hx0 := fit_at HFB.out hJl
    rw [← hx] at hcell hx0
    have HX := Lib.hid hx
    clear hown hb hx e0 e1 e2 e3 e4 e5 e6 e7 e8 e9 e10 e11 e12
    obtain ⟨x0, x1⟩ := hx0
    go_wp2_with fail
    obtain ⟨y, hy⟩ : ∃ y, y = bits .xor .u8 x ((2 : Int) ^ s % 256) := ⟨_, rfl⟩
    have hxy := xor8 x ((2 : Int) ^ s % 256) ⟨x0, x1⟩ (bit8 hB3)
    rw [← hy] at hxy
    rw [← hy]
    have hO3 := own_set HO2.out J y
    have hfs := fit_set HFB.out J hxy.1
    have hlen : ((bts p).set J y).length = N := by rw [List.length_set, HBL.out]
    have hno := slip HIS.out HFB.out hJl hxy.1 (by rw [← HX.out]; exact hxy.2)
    have hgB : w1.heap.size ≤ g := hO3.2.2
    have HBS := Lib.hid (HB2.out.setCell (p := ⟨g, J, none⟩) (Nat.le_trans HB1.out.below.size hgB) (.int .u8 y))
    have CP := Lib.hid (parse_no _ (some ⟨g, 0, none⟩) N cap _ (own_in hO3.1 hlen hfs) (by omega) hno)
    clear hy hxy hO3 hfs hlen hno hcell hfr hJl
    refine CP.out.mono ?_
    rintro e w3 ⟨rfl, hb⟩
    have HB3 := Lib.hid (bl_tr HBS.out hb)
    clear hb CP hr hBt hJ2 hB2
    have s2 := same_two
    go_wp2
    go_ret
    exact ⟨rfl, HB3.out⟩
  · have CB := Lib.hid (fun W => build_no p a n c HI.out.len hn hok W)
    clear hok
    go_enter Try.func6, Try.ntmps6
    go_wp2_with fail
    rw [HW.out]
    refine (alive_any W).mono ?_
    rintro e w1 ⟨rfl, hb⟩
    have HB1 := Lib.hid (HB.out.next hb)
    obtain ⟨e0, e1, e2, e3, e4, e5, e6, e7, e8, e9, e10, e11, e12⟩ := HB1.out.here
    clear hb HB HW
    go_wp2_with fail
    refine (CB.out w1).mono ?_
    rintro e w2 ⟨rfl, hb⟩
    have HB2 := Lib.hid (bl_tr HB1.out.below hb)
    clear hb HB1 e0 e1 e2 e3 e4 e5 e6 e7 e8 e9 e10 e11 e12
    go_wp2
    go_ret
    exact ⟨rfl, HB2.out⟩
end Go.Proofs.Ytkgfdndbjaeohaa
