/- Contracts of Check and of the document's Check. Conditions: the rows' cells hold bytes; there are at most 2^32 of them. -/
import Derived.Test.YtjmpmegodhglcaaA2
namespace Go.Proofs.Ytjmpmegodhglcaa
open Go Go.RowKit

/-- CRC-32's register behind a row of bytes. -/
def cb (r : Nat) (b : Int) : Nat := st8 (r ^^^ b.toNat)
def cl (r : Nat) (l : List Int) : Nat := l.foldl cb r
theorem cmix {r : Nat} (h : r < 4294967296) {b : Int} (h1 : b < 256) : r ^^^ b.toNat < 4294967296 := Nat.xor_lt_two_pow (n := 32) h (by omega)
theorem cb_lt {r : Nat} (h : r < 4294967296) {b : Int} (h1 : b < 256) : cb r b < 4294967296 := st8_lt (cmix h h1)
theorem cl_lt : ∀ (l : List Int) {r : Nat}, fit l → r < 4294967296 → cl r l < 4294967296
  | [], _, _, h => h
  | b :: l, _, hf, h => cl_lt l (fun x hx => hf x (by simp [hx])) (cb_lt h (hf b (by simp)).2)
theorem cl_inj : ∀ (l : List Int) {r q : Nat}, fit l → r < 4294967296 → q < 4294967296 → cl r l = cl q l → r = q
  | [], _, _, _, _, _, h => h
  | b :: l, r, q, hf, hr, hq, h => by
    have hb := (hf b (by simp)).2
    have e := cl_inj l (fun x hx => hf x (by simp [hx])) (cb_lt hr hb) (cb_lt hq hb) h
    exact xor_left (st8_inj (cmix hr hb) (cmix hq hb) e)
theorem cl_app (r : Nat) (l m : List Int) : cl r (l ++ m) = cl (cl r l) m := List.foldl_append
theorem cl_more (r : Nat) (l : List Int) (b : Int) : cl r (l ++ [b]) = cb (cl r l) b := by rw [cl_app]; rfl
/-- Every change of one byte is told. -/
theorem cl_slip {r : Nat} (hr : r < 4294967296) (l m : List Int) (hl : fit l) (hm : fit m) {b c : Int} (hb : 0 ≤ b ∧ b < 256) (hc : 0 ≤ c ∧ c < 256) (h : b ≠ c) : cl r (l ++ b :: m) ≠ cl r (l ++ c :: m) := by
  intro e
  rw [cl_app, cl_app] at e
  have hL := cl_lt l hl hr
  have e1 := cl_inj m hm (cb_lt hL hb.2) (cb_lt hL hc.2) e
  have e2 := st8_inj (cmix hL hb.2) (cmix hL hc.2) e1
  rw [Nat.xor_comm, Nat.xor_comm (cl r l)] at e2
  have := xor_left e2
  omega
def start : Nat := 4294967295
def crc (l : List Int) : Int := 4294967295 - (cl start l : Nat)
theorem flip32 (x : Nat) (h1 : x < 4294967296) : bits .xor .u32 IntKind.u32.max (x : Int) = 4294967295 - (x : Int) := by
  have h := u32_xor IntKind.u32.max (x : Int) (by decide) (by decide) (by omega) (by omega)
  rw [show IntKind.u32.max.toNat = 2 ^ 32 - 1 by decide, xor_ones 32 _ (by omega)] at h
  rw [h]
  omega
theorem mix32 (r : Nat) (h : r < 4294967296) (x : Int) (h0 : 0 ≤ x) (h1 : x < 256) : bits .xor .u32 (r : Int) x = ((r ^^^ x.toNat : Nat) : Int) := by
  have e := u32_xor (r : Int) x (by omega) (by omega) h0 (by omega)
  exact e

set_option maxRecDepth 100000 in
theorem check_any (ps : List (List Int)) (v : Value) (w : World) (hP : Parts w v ps) (hf : fit ps.flatten) (hl : ps.flatten.length ≤ 4294967296) (hn0 : ps.length ≤ 4294967296) :
    Calls Try.prog 18 #[v] w fun e w' => e = .returned (.int .u32 (crc ps.flatten)) ∧ w = w' := by
  obtain ⟨a, cap, rfl, hP⟩ := hP
  have HP := Lib.hid hP
  have HF := Lib.hid hf
  have HL := Lib.hid hl
  obtain ⟨n, hn⟩ : ∃ n, n = ps.length := ⟨_, rfl⟩
  rw [← hn] at hn0
  rw [← hn]
  have HN := Lib.hid hn
  clear hP hf hl hn
  have CA := Lib.hid (fun x h1 w => shiftOut_any x h1 w)
  go_enter Try.func18, Try.ntmps18
  go_wp2
  go_loop [3, 10] (fun t i => ∃ (k r : Nat), k ≤ n ∧ i = .int .i64 k ∧ t = .int .u32 r ∧ Hid (r = cl start (ps.take k).flatten)) (fun _ i => n - (intOf i).toNat)
  case atStart => exact ⟨0, 4294967295, by omega, rfl, rfl, Lib.hid rfl⟩
  case round =>
    obtain ⟨k, r, hk, rfl, rfl, hS⟩ := hrel
    by_cases hlt : k < n
    · obtain ⟨p, hp⟩ : ∃ p, ps[k]? = some p := ⟨_, List.getElem?_eq_getElem (by rw [← HN.out]; exact hlt)⟩
      rcases HP.out with h0 | ⟨b, off, rfl, hc⟩
      · rw [h0] at hp; simp at hp
      obtain ⟨u, hu, a1, c1, rfl, hA⟩ := hc k p hp
      have HA := Lib.hid hA
      have HPP := Lib.hid hp
      obtain ⟨m, hm⟩ : ∃ m, m = p.length := ⟨_, rfl⟩
      rw [← hm] at hu
      have HM := Lib.hid hm
      have hm0 : m ≤ 4294967296 := by rw [hm]; have := (len_pre hp).1; have := HL.out; omega
      clear hA hp hm hc
      go_wp2
      go_loop [3, 16] (fun t i => ∃ (j r : Nat), j ≤ m ∧ i = .int .i64 j ∧ t = .int .u32 r ∧ Hid (r = cl start ((ps.take k).flatten ++ p.take j))) (fun _ i => m - (intOf i).toNat)
      case atStart => exact ⟨0, r, by omega, rfl, rfl, by rw [List.take_zero, List.append_nil]; exact hS⟩
      case round =>
        clear hS hu
        obtain ⟨j, r, hj, rfl, rfl, hS⟩ := hrel
        by_cases hlj : j < m
        · have hjp : j < p.length := by rw [← HM.out]; exact hlj
          rcases HA.out with h0 | ⟨b1, o1, rfl, hc⟩
          · rw [h0] at hjp; simp at hjp
          have hcj := hc j hjp
          have hfp := fit_part HF.out HPP.out
          obtain ⟨x, hx⟩ : ∃ x, x = p.getD j 0 := ⟨_, rfl⟩
          have hx0 := fit_at hfp hjp
          have hr : r < 4294967296 := by rw [hS.out]; exact cl_lt _ (fit_app (fit_takes HF.out k) (fit_take hfp j)) (by decide)
          have HT : Hid ((ps.take k).flatten ++ p.take (j + 1) = ((ps.take k).flatten ++ p.take j) ++ [x]) := Lib.hid (by rw [take_more p 0 hjp, ← hx, List.append_assoc])
          rw [← hx] at hcj hx0
          obtain ⟨x0, x1⟩ := hx0
          have hmx := mix32 r hr x x0 x1
          have hlt2 := cmix hr x1
          have HR : Hid (st8 (r ^^^ x.toNat) = cl start ((ps.take k).flatten ++ p.take (j + 1))) := Lib.hid (by rw [HT.out, cl_more, ← hS.out]; rfl)
          obtain ⟨y, hy⟩ : ∃ y, y = r ^^^ x.toNat := ⟨_, rfl⟩
          rw [← hy] at hmx hlt2 HR
          clear hx hc hfp hjp hy
          go_wp2_with (go_at_call 23; refine (CA.out y hlt2 _).mono ?_; rintro e w2 ⟨rfl, rfl⟩)
          go_round
          case rel => exact ⟨j + 1, _, by omega, by go_num, rfl, HR⟩
          case measure => simp [intOf]; omega
        · have HT : Hid ((ps.take (k + 1)).flatten = (ps.take k).flatten ++ p.take j) := Lib.hid (by rw [(len_pre HPP.out).2, List.take_of_length_le (l := p) (by rw [← HM.out]; omega)])
          go_wp2
          go_round
          case rel => exact ⟨k + 1, _, by omega, by go_num, rfl, Lib.hid (by rw [HT.out]; exact hS.out)⟩
          case measure => simp [intOf]; omega
    · have e : ps.take k = ps := List.take_of_length_le (by rw [← HN.out]; omega)
      rw [e] at hS
      have hr : r < 4294967296 := by rw [hS.out]; exact cl_lt _ HF.out (by decide)
      have hfl := flip32 r hr
      clear e
      go_wp2
      go_ret
      exact ⟨by unfold crc; rw [← hS.out]; rfl, rfl⟩

set_option maxRecDepth 100000 in
theorem refCheck_any (p : List Int) (v : Value) (w : World) (hA : At w v p) (hf : fit p) (hl : p.length ≤ 4294967296) :
    Calls Try.prog 17 #[v] w fun e w' => e = .returned (.int .u32 (crc p)) ∧ w = w' := by
  obtain ⟨a, cap, rfl, hA⟩ := hA
  have HA := Lib.hid hA
  have HF := Lib.hid hf
  obtain ⟨m, hm⟩ : ∃ m, m = p.length := ⟨_, rfl⟩
  rw [← hm] at hl
  rw [← hm]
  have HM := Lib.hid hm
  clear hA hf hm
  go_enter Try.func17, Try.ntmps17
  go_wp2
  go_loop [3, 4] (fun t i => ∃ (j r : Nat), j ≤ m ∧ i = .int .i64 j ∧ t = .int .u32 r ∧ Hid (r = cl start (p.take j))) (fun _ i => m - (intOf i).toNat)
  case atStart => exact ⟨0, 4294967295, by omega, rfl, rfl, Lib.hid rfl⟩
  case round =>
    obtain ⟨j, r, hj, rfl, rfl, hS⟩ := hrel
    by_cases hlj : j < m
    · have hjp : j < p.length := by rw [← HM.out]; exact hlj
      rcases HA.out with h0 | ⟨b1, o1, rfl, hc⟩
      · rw [h0] at hjp; simp at hjp
      have hcj := hc j hjp
      obtain ⟨x, hx⟩ : ∃ x, x = p.getD j 0 := ⟨_, rfl⟩
      have hx0 := fit_at HF.out hjp
      have hr : r < 4294967296 := by rw [hS.out]; exact cl_lt _ (fit_take HF.out j) (by decide)
      have HT : Hid (p.take (j + 1) = p.take j ++ [x]) := Lib.hid (by rw [take_more p 0 hjp, ← hx])
      rw [← hx] at hcj hx0
      obtain ⟨x0, x1⟩ := hx0
      have hmx := mix32 r hr x x0 x1
      have hlt2 := cmix hr x1
      have HR : Hid (st8 (r ^^^ x.toNat) = cl start (p.take (j + 1))) := Lib.hid (by rw [HT.out, cl_more, ← hS.out]; rfl)
      obtain ⟨y, hy⟩ : ∃ y, y = r ^^^ x.toNat := ⟨_, rfl⟩
      rw [← hy] at hmx hlt2 HR
      clear hx hc hjp hy
      go_wp2
      go_loop [3, 5] (fun v i => ∃ k s : Nat, k ≤ 8 ∧ i = .int .i64 k ∧ v = .int .u32 s ∧ s < 4294967296 ∧ Hid (stN (8 - k) s = st8 y)) (fun _ i => 8 - (intOf i).toNat)
      case atStart => exact ⟨0, y, by omega, rfl, rfl, hlt2, Lib.hid rfl⟩
      case round =>
        clear hS hcj hmx hr hlt2
        obtain ⟨k, s, hk, rfl, rfl, s1, hs⟩ := hrel
        by_cases hlt : k < 8
        · have hs' := Lib.hid (stN_next hs.out hlt)
          by_cases ho : s % 2 = 1
          · have hx := turn (s / 2) (by omega)
            have hst : st s = s / 2 ^^^ 3988292384 := by unfold st; rw [if_pos ho]
            have hlt' := st_lt s1
            have ho' : (s : Int) % 2 = 1 := by omega
            rw [hst] at hs' hlt'
            obtain ⟨z, hz⟩ : ∃ z, z = s / 2 ^^^ 3988292384 := ⟨_, rfl⟩
            rw [← hz] at hs' hlt' hx
            have hx' : bits .xor .u32 ((s : Int) / 2) 3988292384 = z := hx
            clear hx hst hz ho
            go_wp2
            go_round
            case rel => exact ⟨k + 1, z, by omega, by go_num, rfl, hlt', hs'⟩
            case measure => simp [intOf]; omega
          · have ho' : (s : Int) % 2 = 0 := by omega
            have hst : st s = s / 2 := by unfold st; rw [if_neg ho]
            rw [hst] at hs'
            clear hst ho
            go_wp2
            go_round
            case rel => exact ⟨k + 1, s / 2, by omega, by go_num, rfl, by omega, hs'⟩
            case measure => simp [intOf]; omega
        · rw [show k = 8 by omega] at hs
          go_wp2
          go_round
          case rel => exact ⟨j + 1, s, by omega, by go_num, rfl, Lib.hid (by rw [← HR.out, ← hs.out]; rfl)⟩
          case measure => simp [intOf]; omega
    · have e : p.take j = p := List.take_of_length_le (by rw [← HM.out]; omega)
      rw [e] at hS
      have hr : r < 4294967296 := by rw [hS.out]; exact cl_lt _ HF.out (by decide)
      have hfl : bits .xor .u32 (r : Int) 4294967295 = 4294967295 - (r : Int) := by
        have h := u32_xor (r : Int) 4294967295 (by omega) (by omega) (by decide) (by decide)
        rw [Nat.xor_comm, show (4294967295 : Int).toNat = 2 ^ 32 - 1 by decide, xor_ones 32 _ (by omega)] at h
        rw [h]
        omega
      clear e
      go_wp2
      go_ret
      exact ⟨by unfold crc; rw [← hS.out]; rfl, rfl⟩
end Go.Proofs.Ytjmpmegodhglcaa
