/- Contracts of tunnel's appendAddr, address and head; plain facts of outer headers. Conditions: rows of the call's own; addresses of 32 bits. -/
import Derived.Test.YtfbmeoiaedlgoaaRdA
namespace Go.Proofs.Ytfbmeoiaedlgoaa
open Go Go.RowKit
set_option linter.unusedVariables false
set_option linter.unusedSimpArgs false

/-- An outer header, its sum, a wrapped row. -/
def ot (s d : Int) : Pk := ⟨0, 0, 64, 4, s, 0, d, 0, 0, 0, 0, 0, []⟩
def osum (s d : Int) (n : Nat) : Int := 65535 - car (ws (hdr (ot s d) n 0))
def ohd (s d : Int) (n : Nat) : List Int := hdr (ot s d) n (osum s d n)
def wrp (s d : Int) (l : List Int) : List Int := ohd s d l.length ++ l
theorem ohd_len (s d : Int) (n : Nat) : (ohd s d n).length = 20 := rfl
theorem wrp_len (s d : Int) (l : List Int) : (wrp s d l).length = 20 + l.length := by unfold wrp; rw [List.length_append, ohd_len]
theorem fit_ohd (s d : Int) (n : Nat) : fit (ohd s d n) := fit_hdr _ _ _
theorem fit_wrp {s d : Int} {l : List Int} (h : fit l) : fit (wrp s d l) := fit_app (fit_ohd _ _ _) h
theorem osum_w16 (s d : Int) (n : Nat) : w16 (osum s d n) := car_w16 (ws_fits _ (fit_hdr _ _ _)).1
theorem wrp_drop (s d : Int) (l : List Int) : (wrp s d l).drop 20 = l := rfl
theorem wrp_src {s : Int} (d : Int) (l : List Int) (h : 0 ≤ s ∧ s < 4294967296) : n4 (wrp s d l) 12 = s := four_back h
theorem wrp_dst (s : Int) {d : Int} (l : List Int) (h : 0 ≤ d ∧ d < 4294967296) : n4 (wrp s d l) 16 = d := four_back h
/-- Bytes are a wrapped packet's. -/
def IsW (b : List Int) : Prop := Is (b.drop 20) ∧ b.length ≤ 1500 ∧ wrp (n4 b 12) (n4 b 16) (b.drop 20) = b
theorem IsW.of {s d : Int} {l : List Int} (hs : 0 ≤ s ∧ s < 4294967296) (hd : 0 ≤ d ∧ d < 4294967296) (h : Is l) (hl : l.length ≤ 1480) : IsW (wrp s d l) :=
  ⟨by rw [wrp_drop]; exact h, by rw [wrp_len]; omega, by rw [wrp_src d l hs, wrp_dst s l hd, wrp_drop]⟩
theorem IsW.size {b : List Int} (h : IsW b) : 20 ≤ b.length := by
  have e := wrp_len (n4 b 12) (n4 b 16) (b.drop 20)
  rw [h.2.2] at e
  omega
/-- No bytes are both. -/
theorem IsW.not {b : List Int} (h : IsW b) : ¬ Is b := by
  intro h2
  have e9 : b.getD 9 0 = 4 := by rw [← h.2.2]; rfl
  have := h2.1.proto
  have e : (dec b).proto = b.getD 9 0 := rfl
  omega

theorem u32_or (a b : Int) (h1 : 0 ≤ a) (h2 : a < 4294967296) (h3 : 0 ≤ b) (h4 : b < 4294967296) : bits .or .u32 a b = ((a.toNat ||| b.toNat : Nat) : Int) := by
  obtain ⟨A, rfl⟩ := Int.eq_ofNat_of_zero_le h1
  obtain ⟨B, rfl⟩ := Int.eq_ofNat_of_zero_le h3
  have hx : A ||| B < 2 ^ 32 := Nat.or_lt_two_pow (by omega) (by omega)
  have ofi : ∀ n : Nat, n < 4294967296 → (BitVec.ofInt 32 (n : Int)).toNat = n := fun n hn => by
    rw [BitVec.ofInt_natCast, BitVec.toNat_ofNat]; exact Nat.mod_eq_of_lt (by omega)
  show IntKind.u32.wrap ((BitVec.ofInt 32 (A : Int) ||| BitVec.ofInt 32 (B : Int)).toNat : Int) = _
  rw [BitVec.toNat_or, ofi A (by omega), ofi B (by omega), IntKind.wrap_u32']
  simp at hx ⊢
  omega

set_option maxRecDepth 100000 in
theorem addrOf_any (p : List Int) (a : Option Addr) (cap : Nat) (w : World) (hA : At w (.slice a 4 cap) p) (hm : p.length = 4) (hf : fit p) :
    Calls Try.prog 33 #[.slice a 4 cap] w fun e w' => e = .returned (.int .u32 (num p)) ∧ w = w' := by
  have HA := Lib.hid hA
  have HF := Lib.hid hf
  have HM := Lib.hid hm
  clear hA hf hm
  go_enter Try.func33, Try.ntmps33
  go_wp2
  go_loop [3, 8] (fun t i => ∃ (j : Nat) (r : Int), j ≤ 4 ∧ i = .int .i64 j ∧ t = .int .u32 r ∧ Hid (r = num (p.take j))) (fun _ i => 4 - (intOf i).toNat)
  case atStart => exact ⟨0, 0, by omega, rfl, rfl, Lib.hid rfl⟩
  case round =>
    obtain ⟨j, r, hj, rfl, rfl, hS⟩ := hrel
    by_cases hlj : j < 4
    · have hjp : j < p.length := by rw [HM.out]; exact hlj
      obtain ⟨a1, c1, e1, hA⟩ := HA.out
      have hlen := HM.out
      rw [hlen] at e1
      cases e1
      rcases hA with h0 | ⟨b1, o1, rfl, hc⟩
      · rw [h0] at hjp; simp at hjp
      have hcj := hc j hjp
      have hx0 := fit_at HF.out hjp
      obtain ⟨x, hx⟩ : ∃ x, x = p.getD j 0 := ⟨_, rfl⟩
      rw [← hx] at hcj hx0
      obtain ⟨x0, x1⟩ := hx0
      obtain ⟨r0, r1⟩ := num_small HF.out (k := j) (by omega) (by omega)
      rw [← hS.out] at r0 r1
      have hor : bits .or .u32 (r * 256) x = r * 256 + x := by
        rw [u32_or _ _ (by omega) (by omega) (by omega) (by omega), nat_join 8 _ _ (by omega) (by omega)]
        omega
      have hwr : IntKind.u32.wrap (r * 256) = r * 256 := by rw [IntKind.wrap_u32']; omega
      have hwx : IntKind.u32.wrap x = x := by rw [IntKind.wrap_u32']; omega
      have HR : Hid (r * 256 + x = num (p.take (j + 1))) := Lib.hid (by rw [take_more p 0 hjp, num_more, ← hS.out, ← hx]; omega)
      clear hx hc hjp hlen
      go_wp2
      go_round
      case rel => exact ⟨j + 1, _, by omega, by go_num, rfl, HR⟩
      case measure => simp [intOf]; omega
    · have e : p.take j = p := List.take_of_length_le (by rw [HM.out]; omega)
      rw [e] at hS
      clear e
      go_wp2
      go_ret
      exact ⟨by rw [← hS.out]; rfl, rfl⟩
theorem addr4 {w : World} {b off n c : Nat} {l : List Int} (h : At w (.slice (some ⟨b, off, none⟩) n c) l) (hn : l.length = n) (hf : fit l) (lo c2 off2 : Nat) (h2 : lo + 4 ≤ n) (ho : off2 = off + lo) : Calls Try.prog 33 #[.slice (some ⟨b, off2, none⟩) 4 c2] w fun e w' => e = .returned (.int .u32 (n4 l lo)) ∧ w' = w := by
  have s := sub4 (l := l) (lo := lo) (by omega)
  have H := addrOf_any _ _ c2 w (h.sub hn lo (lo + 4) (by omega) h2 4 c2 off2 (by omega) ho) s.2 (fit_sub hf _ _)
  rw [s.1] at H
  exact H.mono fun _ _ ⟨h1, h2⟩ => ⟨h1, h2.symm⟩

set_option maxRecDepth 100000 in
set_option maxHeartbeats 400000 in
theorem addr_app (l : List Int) (ao : Option Addr) (n c : Nat) (x : Int) (hx : 0 ≤ x ∧ x < 4294967296) (B : Nat) (w : World) (ho : w.ownsRow B 5 1 (.slice ao n c) n (u8s l)) (hB : B ≤ w.heap.size) (hn : n ≤ 1048576) :
    Calls Try.prog 44 #[.slice ao n c, .int .u32 x] w fun e w' => ∃ a' c', e = .returned (.slice a' (n + 4) c') ∧ w'.ownsRow B 5 1 (.slice a' (n + 4) c') (n + 4) (u8s (l ++ b4 x)) ∧ Below B w w' := by
  obtain ⟨i0, hi0, hz0, hz1, hz2⟩ := info_parts info5
  have w0 : IntKind.u8.wrap (x / 16777216) = x / 16777216 % 256 := IntKind.wrap_u8' _
  have w1 : IntKind.u8.wrap (x / 65536) = x / 65536 % 256 := IntKind.wrap_u8' _
  have w2 : IntKind.u8.wrap (x / 256) = x / 256 % 256 := IntKind.wrap_u8' _
  have w3 : IntKind.u8.wrap x = x % 256 := IntKind.wrap_u8' _
  have HL : Hid (b4 x = [x / 16777216 % 256, x / 65536 % 256, x / 256 % 256, x % 256]) := Lib.hid rfl
  have hfit := fit_b4 x
  obtain ⟨x0, x1⟩ := hx
  have g0 : 0 ≤ x / 16777216 % 256 ∧ x / 16777216 % 256 < 256 := by omega
  obtain ⟨p0, hp0⟩ : ∃ p, p = x / 16777216 % 256 := ⟨_, rfl⟩
  obtain ⟨p1, hp1⟩ : ∃ p, p = x / 65536 % 256 := ⟨_, rfl⟩
  obtain ⟨p2, hp2⟩ : ∃ p, p = x / 256 % 256 := ⟨_, rfl⟩
  obtain ⟨p3, hp3⟩ : ∃ p, p = x % 256 := ⟨_, rfl⟩
  rw [← hp0] at w0
  rw [← hp1] at w1
  rw [← hp2] at w2
  rw [← hp3] at w3
  rw [← hp0, ← hp1, ← hp2, ← hp3] at HL
  have HIN : Hid (In (w.alloc (.cells #[.int .u8 p0, .int .u8 p1, .int .u8 p2, .int .u8 p3] 5)) (some ⟨w.heap.size, 0, none⟩) 4 4 [p0, p1, p2, p3]) := Lib.hid ⟨rfl, by omega, (fun e => by cases e), At.new w [p0, p1, p2, p3] _ rfl 5 (0, 0) 4 _ rfl 4 rfl, by rw [← HL.out]; exact hfit⟩
  have HO := Lib.hid (ho.alloc (.cells #[.int .u8 p0, .int .u8 p1, .int .u8 p2, .int .u8 p3] 5))
  have HB := Lib.hid hB
  have HBA := Lib.hid ((Below.refl B w).alloc hB (.cells #[.int .u8 p0, .int .u8 p1, .int .u8 p2, .int .u8 p3] 5))
  clear hp0 hp1 hp2 hp3 g0 ho hB hfit
  go_enter Try.func44, Try.ntmps44
  go_wp2_with (at_builtin; refine append_any rfl (.tmp 5) (.tmp 17) 24 rfl B 5 i0 (.int .u8 0) 1 1 Try.underlying24 hi0 hz0 hz1 hz2 rfl (by decide) _ n (u8s l) rfl HO.out (some ⟨w.heap.size, 0, none⟩) 4 4 (u8s [p0, p1, p2, p3]) rfl HIN.out.zero ?c1 HIN.out.cells (u8s_one _) ?c2 ?c3 ?c4 ?_)
  case c1 => rfl
  case c2 => unfold maxLen; omega
  case c3 => omega
  case c4 => have := HB.out; simp; omega
  intro v1 w2 hown hgrow
  rw [u8s_app, ← HL.out] at hown
  have HB2 := Lib.hid (HBA.out.grown hgrow (by have := HB.out; simp; omega) (fun k hk => (HO.out.lt k hk).1))
  obtain ⟨a', c', rfl⟩ := own_form hown
  have HO2 := Lib.hid hown
  clear hgrow hown HO HIN
  go_wp2
  go_ret
  exact ⟨a', c', rfl, HO2.out, HB2.out⟩
end Go.Proofs.Ytfbmeoiaedlgoaa
