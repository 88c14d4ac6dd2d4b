/- Contracts of packet's set and number, of bytes.Equal and bytes.Clone. Conditions: rows hold bytes; set's place lies in the row; number's row is of four bytes at most. -/
import Derived.Test.YtfbmeoiaedlgoaaWrB
import Derived.WideShapes
namespace Go.Proofs.Ytfbmeoiaedlgoaa
open Go Go.RowKit
set_option linter.unusedVariables false
set_option linter.unusedSimpArgs false

theorem word_set (w : World) (B g cap n at0 : Nat) (l : List Int) (c : Int) (hc : w16 c) (ho : w.ownsRow B 5 1 (.slice (some ⟨g, 0, none⟩) n cap) n (u8s l)) (hl : l.length = n) (ha : at0 + 1 < n) (hn : n ≤ 1048576) (hcap : n ≤ cap) :
    Calls Try.prog 67 #[.slice (some ⟨g, 0, none⟩) n cap, .int .i64 at0, .int .u16 c] w fun e w' => e = .returned (.tuple #[]) ∧ (w.setCell ⟨g, at0, none⟩ (.int .u8 (c / 256 % 256))).setCell ⟨g, at0 + 1, none⟩ (.int .u8 (c % 256)) = w' := by
  have e1 := (ho.cellAt at0 (by omega)).trans (u8s_at (by omega))
  have e2 := (ho.cellAt (at0 + 1) (by omega)).trans (u8s_at (by omega))
  have e3 := ho.frozenAt at0
  have e4 := ho.frozenAt (at0 + 1)
  have w1 : IntKind.u8.wrap (c / 256) = c / 256 % 256 := IntKind.wrap_u8' _
  have w2 : IntKind.u8.wrap c = c % 256 := IntKind.wrap_u8' _
  obtain ⟨c0, c1⟩ := hc
  obtain ⟨x, hx⟩ : ∃ x, x = l.getD at0 0 := ⟨_, rfl⟩
  obtain ⟨y, hy⟩ : ∃ y, y = l.getD (at0 + 1) 0 := ⟨_, rfl⟩
  rw [← hx] at e1
  rw [← hy] at e2
  obtain ⟨p, hp⟩ : ∃ p, p = c / 256 % 256 := ⟨_, rfl⟩
  obtain ⟨q, hq⟩ : ∃ q, q = c % 256 := ⟨_, rfl⟩
  rw [← hp] at w1
  rw [← hq] at w2
  rw [← hp, ← hq]
  clear ho hl hx hy hp hq
  go_enter Try.func67, Try.ntmps67
  go_wp2
  go_end0
  exact ⟨rfl, rfl⟩
theorem Wr.sat {b : Nat} {w : World} {l : List Int} (h : Wr b w l) {I : Nat} {c : Int} (hc : w16 c) (hI : 2 * I + 1 < l.length) (hl : l.length ≤ 1048576) (ao : Option Addr) (cp : Nat) (hv : w.cell? ⟨b, 0, none⟩ = some (.slice ao l.length cp)) (at0 : Int) (ha : at0 = ((2 * I : Nat) : Int)) :
    Calls Try.prog 67 #[.slice ao l.length cp, .int .i64 at0, .int .u16 c] w fun e w' => e = .returned (.tuple #[]) ∧ Wr b w' (setw l I (c / 256 % 256) (c % 256)) ∧ Below (b + 1) w w' := by
  subst ha
  obtain ⟨a1, c1, h1, h2⟩ := h
  have e := cell_of_one h1
  rw [hv] at e
  cases e
  rcases h2.2 with ⟨_, h0⟩ | ⟨g, cap, cur, hs, hb, hg, hcap, _⟩
  · omega
  cases hs
  refine (word_set w (b + 1) g cp l.length (2 * I) l c hc h2 rfl hI hl hcap).mono ?_
  rintro e w' ⟨he, rfl⟩
  refine ⟨he, ⟨some ⟨g, 0, none⟩, cp, ?_, ?_⟩, ?_⟩
  · rw [setw_len, Below.heap_setCell _ _ _ _ (by show b ≠ g; omega), Below.heap_setCell _ _ _ _ (by show b ≠ g; omega)]
    exact h1
  · have h3 := (h2.stored (2 * I) (.int .u8 (c / 256 % 256))).1
    have h4 := (h3.stored (2 * I + 1) (.int .u8 (c % 256))).1
    rw [u8s_set, u8s_set] at h4
    rw [setw_len]
    exact h4
  · exact bl_put (Below.refl _ _) hb (2 * I) (2 * I + 1) _ _

theorem i64_or (a b : Int) (h1 : 0 ≤ a) (h2 : a < 9223372036854775808) (h3 : 0 ≤ b) (h4 : b < 9223372036854775808) : bits .or .i64 a b = ((a.toNat ||| b.toNat : Nat) : Int) := by
  obtain ⟨A, rfl⟩ := Int.eq_ofNat_of_zero_le h1
  obtain ⟨B, rfl⟩ := Int.eq_ofNat_of_zero_le h3
  have hx : A ||| B < 2 ^ 63 := Nat.or_lt_two_pow (by omega) (by omega)
  have ofi : ∀ n : Nat, n < 9223372036854775808 → (BitVec.ofInt 64 (n : Int)).toNat = n := fun n hn => by
    rw [BitVec.ofInt_natCast, BitVec.toNat_ofNat]; exact Nat.mod_eq_of_lt (by omega)
  show IntKind.i64.wrap ((BitVec.ofInt 64 (A : Int) ||| BitVec.ofInt 64 (B : Int)).toNat : Int) = _
  rw [BitVec.toNat_or, ofi A (by omega), ofi B (by omega)]
  exact IntWalk.i64_in _ (by simp at hx ⊢; omega)
/-- The number of a row. -/
def num (l : List Int) : Int := l.foldl (fun n b => 256 * n + b) 0
theorem num_more (l : List Int) (b : Int) : num (l ++ [b]) = 256 * num l + b := by unfold num; rw [List.foldl_append]; rfl
theorem num_take_bound {l : List Int} (hf : fit l) : ∀ k, k ≤ l.length → 0 ≤ num (l.take k) ∧ num (l.take k) < (256 : Int) ^ k
  | 0, _ => by simp [num]
  | k + 1, h => by
    have ih := num_take_bound hf k (by omega)
    have hb := fit_at hf (j := k) (by omega)
    rw [take_more l 0 (by omega), num_more, Int.pow_succ]
    omega
theorem num_small {l : List Int} (hf : fit l) {k : Nat} (hk : k ≤ l.length) (h3 : k ≤ 3) : 0 ≤ num (l.take k) ∧ num (l.take k) < 16777216 := by
  have h := num_take_bound hf k hk
  have : k = 0 ∨ k = 1 ∨ k = 2 ∨ k = 3 := by omega
  rcases this with rfl | rfl | rfl | rfl <;> exact ⟨h.1, by have := h.2; omega⟩

set_option maxRecDepth 100000 in
theorem number_any (p : List Int) (a : Option Addr) (m cap : Nat) (w : World) (hA : At w (.slice a m cap) p) (hm : p.length = m) (hf : fit p) (h4 : m ≤ 4) :
    Calls Try.prog 51 #[.slice a m cap] w fun e w' => e = .returned (.int .i64 (num p)) ∧ w = w' := by
  have HA := Lib.hid hA
  have HF := Lib.hid hf
  have HM := Lib.hid hm
  clear hA hf hm
  go_enter Try.func51, Try.ntmps51
  go_wp2
  go_loop [3, 8] (fun t i => ∃ (j : Nat) (r : Int), j ≤ m ∧ i = .int .i64 j ∧ t = .int .i64 r ∧ Hid (r = num (p.take j))) (fun _ i => m - (intOf i).toNat)
  case atStart => exact ⟨0, 0, by omega, rfl, rfl, Lib.hid rfl⟩
  case round =>
    obtain ⟨j, r, hj, rfl, rfl, hS⟩ := hrel
    by_cases hlj : j < m
    · have hjp : j < p.length := by rw [HM.out]; exact hlj
      obtain ⟨a1, c1, e1, hA⟩ := HA.out
      cases e1
      rcases hA with h0 | ⟨b1, o1, rfl, hc⟩
      · rw [h0] at hjp; simp at hjp
      have hcj := hc j hjp
      have hx0 := fit_at HF.out hjp
      obtain ⟨x, hx⟩ : ∃ x, x = p.getD j 0 := ⟨_, rfl⟩
      rw [← hx] at hcj hx0
      obtain ⟨x0, x1⟩ := hx0
      obtain ⟨r0, r1⟩ := num_small HF.out (k := j) (by omega) (by omega)
      rw [← hS.out] at r0 r1
      have hor : bits .or .i64 (r * 256) x = r * 256 + x := by
        rw [i64_or _ _ (by omega) (by omega) (by omega) (by omega), nat_join 8 _ _ (by omega) (by omega)]
        omega
      have HR : Hid (r * 256 + x = num (p.take (j + 1))) := Lib.hid (by rw [take_more p 0 hjp, num_more, ← hS.out, ← hx]; omega)
      clear hx hc hjp
      go_wp2
      go_round
      case rel => exact ⟨j + 1, _, by omega, by go_num, rfl, HR⟩
      case measure => simp [intOf]; omega
    · have e : p.take j = p := List.take_of_length_le (by rw [HM.out]; omega)
      rw [e] at hS
      clear e
      go_wp2
      go_ret
      exact ⟨by rw [← hS.out]; rfl, rfl⟩

theorem str_inj : ∀ {l m : List Int}, fit l → fit m → strOfNums l = strOfNums m → l = m := by
  intro l m hl hm h
  have h2 : (strOfNums l).data.toList = (strOfNums m).data.toList := by rw [h]
  rw [strOfNums_data, strOfNums_data] at h2
  clear h
  induction l generalizing m with
  | nil => cases m with
    | nil => rfl
    | cons y m => simp at h2
  | cons x l ih => cases m with
    | nil => simp at h2
    | cons y m =>
      simp only [List.map_cons, List.cons.injEq] at h2
      have hx := hl x (by simp)
      have hy := hm y (by simp)
      have e : (UInt8.ofNat x.toNat).toNat = (UInt8.ofNat y.toNat).toNat := by rw [h2.1]
      rw [UInt8.toNat_ofNat', UInt8.toNat_ofNat', Nat.mod_eq_of_lt (by omega), Nat.mod_eq_of_lt (by omega)] at e
      rw [ih (fun b hb => hl b (by simp [hb])) (fun b hb => hm b (by simp [hb])) h2.2]
      congr 1
      omega
/-- Are two rows the same? -/
def same (l m : List Int) : Bool := decide (l = m)
theorem str_eq {l m : List Int} (hl : fit l) (hm : fit m) : ((strOfNums l).toList == (strOfNums m).toList) = same l m := by
  unfold same
  rw [ByteArray.toList_eq, ByteArray.toList_eq]
  by_cases h : l = m
  · subst h; simp
  · rw [decide_eq_false h, beq_eq_false_iff_ne]
    exact fun e => h (str_inj hl hm (Go.WideShapes.bytes_inj e))

set_option maxRecDepth 100000 in
theorem equal_any (l m : List Int) (a b : Option Addr) (n k c d : Nat) (w : World) (hA : At w (.slice a n c) l) (hB : At w (.slice b k d) m) (hn : l.length = n) (hk : m.length = k) (hl : fit l) (hm : fit m) :
    Calls Try.prog 35 #[.slice a n c, .slice b k d] w fun e w' => e = .returned (.bool (same l m)) ∧ w = w' := by
  have s1 := str_of hA hn
  have s2 := str_of hB hk
  have q := str_eq hl hm
  obtain ⟨s, hs⟩ : ∃ s, s = strOfNums l := ⟨_, rfl⟩
  obtain ⟨t, ht⟩ : ∃ t, t = strOfNums m := ⟨_, rfl⟩
  rw [← hs] at s1 q
  rw [← ht] at s2 q
  obtain ⟨z, hz⟩ : ∃ z, z = same l m := ⟨_, rfl⟩
  rw [← hz] at q
  rw [← hz]
  clear hA hB hn hk hl hm hs ht hz
  go_enter Try.func35, Try.ntmps35
  go_wp2
  go_ret
  exact ⟨by rw [← q]; rfl, rfl⟩

set_option maxRecDepth 100000 in
theorem clone_any (l : List Int) (ad : Addr) (n cap : Nat) (w : World) (hA : In w (some ad) n cap l) (hn : n ≤ 1048576) :
    Calls Try.prog 34 #[.slice (some ad) n cap] w fun e w' => ∃ ao cp, e = .returned (.slice ao n cp) ∧ w'.ownsRow w.heap.size 5 1 (.slice ao n cp) n (u8s l) ∧ Below w.heap.size w w' := by
  obtain ⟨i0, hi0, hz0, hz1, hz2⟩ := info_parts info5
  have HA := Lib.hid hA
  clear hA
  have hnil : ∀ w : World, (binOp .eql 24 (.slice (some ad) n cap) (.slice none 0 0)).run Try.prog w = .ok (.bool false) w := fun w => by
    simp only [binOp]
    simp [Op.equal, Op.maxDepth, Lib.run_equalIn_slice_nil w 9999 24 5 (some ad) n cap 0 0 Try.underlying24]
  go_enter Try.func34, Try.ntmps34
  have own0 := World.ownsRow_made (e := 5) (size := 1) w #[] 0 (Nat.le_refl _) (by decide) rfl
  have HA1 := Lib.hid (HA.out.below (bl_al (Below.refl _ _) (.cells #[] 5)))
  go_wp2_with (at_builtin; refine append_any rfl (.tmp 5) (.tmp 6) 24 rfl w.heap.size 5 i0 (.int .u8 0) 1 1 Try.underlying24 hi0 hz0 hz1 hz2 rfl (by decide) _ 0 [] rfl own0 (some ad) n cap (u8s l) rfl HA1.out.zero ?c1 HA1.out.cells (u8s_one l) ?c2 ?c3 ?c4 ?_)
  case c1 => unfold u8s; rw [List.length_map, HA.out.len]; omega
  case c2 => unfold maxLen; omega
  case c3 => omega
  case c4 => simp
  intro v1 w2 hown hgrow
  have HB2 := Lib.hid ((bl_al (Below.refl w.heap.size w) (.cells #[] 5)).grown hgrow (by simp) (fun k hk => by cases hk; exact Nat.le_refl _))
  obtain ⟨ao, c1, rfl⟩ := own_form hown
  have HO := Lib.hid hown
  clear hgrow own0 HA1 hown
  go_wp2
  go_ret
  exact ⟨ao, c1, rfl, HO.out, HB2.out⟩
end Go.Proofs.Ytfbmeoiaedlgoaa
