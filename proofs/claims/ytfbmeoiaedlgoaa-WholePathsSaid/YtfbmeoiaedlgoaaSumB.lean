/- Rows of bytes in memory, their words' sum, and the contracts of Sum and Good. Conditions: the rows' cells hold bytes; there are at most 2^32 of them. -/
import Derived.Test.YtfbmeoiaedlgoaaSumA
import Derived.Laws.NewBlocks
namespace Go.Proofs.Ytfbmeoiaedlgoaa
open Go Go.RowKit
set_option linter.unusedVariables false
set_option linter.unusedSimpArgs false

/-- The words of a row, added. -/
def ws : List Int → Int
  | [] => 0
  | [a] => 256 * a
  | a :: b :: r => 256 * a + b + ws r
theorem ws_app_even : ∀ (l m : List Int), l.length % 2 = 0 → ws (l ++ m) = ws l + ws m
  | [], m, _ => by simp [ws]
  | [a], m, h => by simp at h
  | a :: b :: r, m, h => by
    have := ws_app_even r m (by simp at h; omega)
    simp only [List.cons_append, ws, this]
    omega
theorem ws_more : ∀ (l : List Int) (b : Int), ws (l ++ [b]) = ws l + (if l.length % 2 = 0 then 256 * b else b)
  | [], b => by simp [ws]
  | [a], b => by simp [ws]
  | a :: c :: r, b => by
    have := ws_more r b
    have e : (a :: c :: r).length % 2 = r.length % 2 := by simp only [List.length_cons]; omega
    simp only [List.cons_append, ws, this]
    by_cases h : r.length % 2 = 0
    · rw [if_pos h, if_pos (by rw [e]; exact h)]
      omega
    · rw [if_neg h, if_neg (by rw [e]; exact h)]
      omega
def fit (l : List Int) : Prop := ∀ b ∈ l, 0 ≤ b ∧ b < 256
theorem ws_fits : ∀ (l : List Int), fit l → 0 ≤ ws l ∧ ws l ≤ 65280 * l.length
  | [], _ => by simp [ws]
  | [a], h => by
    have := h a (by simp)
    simp [ws]
    omega
  | a :: b :: r, h => by
    have h1 := h a (by simp)
    have h2 := h b (by simp)
    have h3 := ws_fits r (fun x hx => h x (by simp [hx]))
    simp only [ws, List.length_cons]
    omega
def shOf (n : Nat) : Int := if n % 2 = 0 then 8 else 0
/-- Behind some bytes: their sum, and by how much the next one is shifted. -/
structure SRel (l : List Int) (T h : Int) : Prop where
  sum : T = ws l
  shift : h = shOf l.length
theorem SRel.start : SRel [] 0 8 := ⟨rfl, rfl⟩
theorem SRel.eight {l : List Int} {T : Int} (H : SRel l T 8) (b : Int) : SRel (l ++ [b]) (T + b * 256) 0 := by
  have h := H.shift
  unfold shOf at h
  split at h
  · rename_i h0
    refine ⟨by rw [ws_more, if_pos h0, H.sum]; omega, ?_⟩
    unfold shOf
    rw [if_neg (by simp; omega)]
  · omega
theorem SRel.zero {l : List Int} {T : Int} (H : SRel l T 0) (b : Int) : SRel (l ++ [b]) (T + b) 8 := by
  have h := H.shift
  unfold shOf at h
  split at h
  · omega
  · rename_i h0
    refine ⟨by rw [ws_more, if_neg h0, H.sum], ?_⟩
    unfold shOf
    rw [if_pos (by simp; omega)]
theorem SRel.two {l : List Int} {T h : Int} (H : SRel l T h) : h = 8 ∨ h = 0 := by
  have := H.shift
  unfold shOf at this
  split at this
  · exact .inl this
  · exact .inr this

/-- A row of bytes in memory. -/
def At (w : World) (v : Value) (l : List Int) : Prop :=
  ∃ a cap, v = .slice a l.length cap ∧ (l = [] ∨ ∃ b off, a = some ⟨b, off, none⟩ ∧ ∀ j, j < l.length → w.cell? ⟨b, off + j, none⟩ = some (.int .u8 (l.getD j 0)))
/-- Rows of bytes, in a row. -/
def Parts (w : World) (v : Value) (ps : List (List Int)) : Prop :=
  ∃ a cap, v = .slice a ps.length cap ∧ (ps = [] ∨ ∃ b off, a = some ⟨b, off, none⟩ ∧ ∀ j p, ps[j]? = some p → ∃ u, w.cell? ⟨b, off + j, none⟩ = some u ∧ At w u p)

theorem take_more {α : Type} (l : List α) (d : α) {k : Nat} (h : k < l.length) : l.take (k + 1) = l.take k ++ [l.getD k d] := by
  rw [List.take_add_one, List.getElem?_eq_getElem h, List.getD_eq_getElem?_getD, List.getElem?_eq_getElem h]
  rfl
theorem fit_at {l : List Int} (h : fit l) {j : Nat} (hj : j < l.length) : 0 ≤ l.getD j 0 ∧ l.getD j 0 < 256 :=
  h _ (by rw [List.getD_eq_getElem?_getD, List.getElem?_eq_getElem hj]; exact List.getElem_mem hj)
theorem len_pre {ps : List (List Int)} {k : Nat} {p : List Int} (h : ps[k]? = some p) : (ps.take k).flatten.length + p.length ≤ ps.flatten.length ∧ (ps.take (k + 1)).flatten = (ps.take k).flatten ++ p := by
  have e : ps.take (k + 1) = ps.take k ++ [p] := by rw [List.take_add_one, h]; rfl
  refine ⟨?_, by rw [e]; simp⟩
  have e2 : (ps.take (k + 1) ++ ps.drop (k + 1)).flatten.length = ps.flatten.length := by rw [List.take_append_drop]
  rw [e] at e2
  simp only [List.flatten_append, List.length_append, List.flatten_cons, List.flatten_nil, List.append_nil] at e2
  omega
theorem fit_part {ps : List (List Int)} {k : Nat} {p : List Int} (H : fit ps.flatten) (h : ps[k]? = some p) : fit p :=
  fun b hb => H b (List.mem_flatten.2 ⟨p, List.mem_of_getElem? h, hb⟩)
theorem SRel.bound {l : List Int} {T h : Int} (H : SRel l T h) (hf : fit l) (hl : l.length ≤ 4294967296) : 0 ≤ T ∧ T ≤ 280379743109120 := by
  have := ws_fits l hf
  rw [H.sum]
  omega
theorem fit_take {l : List Int} (h : fit l) (j : Nat) : fit (l.take j) := fun b hb => h b (List.mem_of_mem_take hb)
theorem fit_app {l m : List Int} (h : fit l) (h2 : fit m) : fit (l ++ m) := fun b hb => (List.mem_append.1 hb).elim (h b) (h2 b)
theorem fit_takes {ps : List (List Int)} (H : fit ps.flatten) (k : Nat) : fit (ps.take k).flatten := by
  intro b hb
  obtain ⟨p, hp, hb⟩ := List.mem_flatten.1 hb
  exact H b (List.mem_flatten.2 ⟨p, List.mem_of_mem_take hp, hb⟩)

theorem xor_ones (n x : Nat) (h : x < 2 ^ n) : (2 ^ n - 1) ^^^ x = 2 ^ n - 1 - x := by
  apply Nat.eq_of_testBit_eq
  intro i
  rw [Nat.testBit_xor, Nat.testBit_two_pow_sub_one, Nat.sub_sub, Nat.add_comm 1 x, Nat.testBit_two_pow_sub_succ h]
  by_cases hi : i < n
  · simp [hi]
  · have hle : n ≤ i := by omega
    simp [hi, Nat.testBit_lt_two_pow (Nat.lt_of_lt_of_le h (Nat.pow_le_pow_right (n := 2) (by decide) hle))]
theorem flip16 (x : Int) (h0 : 0 ≤ x) (h1 : x < 65536) : bits .xor .u16 IntKind.u16.max x = 65535 - x := by
  have h := u16_xor IntKind.u16.max x (by decide) (by decide) h0 h1
  rw [show IntKind.u16.max.toNat = 2 ^ 16 - 1 by decide, xor_ones 16 _ (by omega)] at h
  rw [h]
  omega

set_option maxRecDepth 100000 in
theorem sum_any (ps : List (List Int)) (v : Value) (w : World) (hP : Parts w v ps) (hf : fit ps.flatten) (hl : ps.flatten.length ≤ 4294967296) (hn0 : ps.length ≤ 4294967296) :
    Calls Try.prog 45 #[v] w fun e w' => e = .returned (.int .u16 (65535 - car (ws ps.flatten))) ∧ w = w' := by
  obtain ⟨a, cap, rfl, hP⟩ := hP
  have HP := Lib.hid hP
  have HF := Lib.hid hf
  have HL := Lib.hid hl
  obtain ⟨n, hn⟩ : ∃ n, n = ps.length := ⟨_, rfl⟩
  rw [← hn] at hn0
  rw [← hn]
  have HN := Lib.hid hn
  clear hP hf hl hn
  have CA := Lib.hid (fun t h0 h1 w => carry_any t h0 h1 w)
  go_enter Try.func45, Try.ntmps45
  go_wp2
  go_loop [3, 4, 11] (fun t s i => ∃ (k : Nat) (T h : Int), k ≤ n ∧ i = .int .i64 k ∧ t = .int .u64 T ∧ s = .int .i64 h ∧ Hid (SRel (ps.take k).flatten T h)) (fun _ _ i => n - (intOf i).toNat)
  case atStart => exact ⟨0, 0, 8, by omega, rfl, rfl, rfl, Lib.hid SRel.start⟩
  case round =>
    obtain ⟨k, T, h, hk, rfl, rfl, rfl, hS⟩ := hrel
    by_cases hlt : k < n
    · obtain ⟨p, hp⟩ : ∃ p, ps[k]? = some p := ⟨_, List.getElem?_eq_getElem (by rw [← HN.out]; exact hlt)⟩
      rcases HP.out with h0 | ⟨b, off, rfl, hc⟩
      · rw [h0] at hp; simp at hp
      obtain ⟨u, hu, a1, c1, rfl, hA⟩ := hc k p hp
      have HA := Lib.hid hA
      have HPP := Lib.hid hp
      obtain ⟨m, hm⟩ : ∃ m, m = p.length := ⟨_, rfl⟩
      rw [← hm] at hu
      have HM := Lib.hid hm
      have hm0 : m ≤ 4294967296 := by rw [hm]; have := (len_pre hp).1; have := HL.out; omega
      clear hA hp hm hc
      go_wp2
      go_loop [3, 4, 17] (fun t s i => ∃ (j : Nat) (T h : Int), j ≤ m ∧ i = .int .i64 j ∧ t = .int .u64 T ∧ s = .int .i64 h ∧ Hid (SRel ((ps.take k).flatten ++ p.take j) T h)) (fun _ _ i => m - (intOf i).toNat)
      case atStart => exact ⟨0, T, h, by omega, rfl, rfl, rfl, by rw [List.take_zero, List.append_nil]; exact hS⟩
      case round =>
        clear hS hu
        obtain ⟨j, T, h, hj, rfl, rfl, rfl, hS⟩ := hrel
        by_cases hlj : j < m
        · have hjp : j < p.length := by rw [← HM.out]; exact hlj
          rcases HA.out with h0 | ⟨b1, o1, rfl, hc⟩
          · rw [h0] at hjp; simp at hjp
          have hcj := hc j hjp
          have hfp := fit_part HF.out HPP.out
          obtain ⟨x, hx⟩ : ∃ x, x = p.getD j 0 := ⟨_, rfl⟩
          have hx0 := fit_at hfp hjp
          have hT := hS.out.bound (fit_app (fit_takes HF.out k) (fit_take hfp j)) (by have := (len_pre HPP.out).1; have := HL.out; simp only [List.length_append, List.length_take]; omega)
          have HT : Hid ((ps.take k).flatten ++ p.take (j + 1) = ((ps.take k).flatten ++ p.take j) ++ [x]) := Lib.hid (by rw [take_more p 0 hjp, ← hx, List.append_assoc])
          rw [← hx] at hcj hx0
          obtain ⟨x0, x1⟩ := hx0
          obtain ⟨T0, T1⟩ := hT
          clear hx hc hfp hjp
          rcases hS.out.two with rfl | rfl
          · go_wp2
            go_round
            case rel => exact ⟨j + 1, _, _, by omega, by go_num, rfl, rfl, Lib.hid (by rw [HT.out]; exact hS.out.eight x)⟩
            case measure => simp [intOf]; omega
          · go_wp2
            go_round
            case rel => exact ⟨j + 1, _, _, by omega, by go_num, rfl, rfl, Lib.hid (by rw [HT.out]; exact hS.out.zero x)⟩
            case measure => simp [intOf]; omega
        · have HT : Hid ((ps.take (k + 1)).flatten = (ps.take k).flatten ++ p.take j) := Lib.hid (by rw [(len_pre HPP.out).2, List.take_of_length_le (l := p) (by rw [← HM.out]; omega)])
          go_wp2
          go_round
          case rel => exact ⟨k + 1, _, _, by omega, by go_num, rfl, rfl, Lib.hid (by rw [HT.out]; exact hS.out)⟩
          case measure => simp [intOf]; omega
    · have e : ps.take k = ps := List.take_of_length_le (by rw [← HN.out]; omega)
      rw [e] at hS
      have hT := hS.out.bound HF.out HL.out
      have HE := Lib.hid hS.out.sum
      have hcf := car_fits hT.1
      have hfl := flip16 _ hcf.1 hcf.2
      clear e hS
      obtain ⟨T0, T1⟩ := hT
      obtain ⟨c0, c1⟩ := hcf
      go_wp2_with (go_at_call 63; refine (CA.out T (by omega) (by omega) _).mono ?_; rintro e w2 ⟨rfl, rfl⟩)
      go_ret
      exact ⟨by rw [← HE.out]; rfl, rfl⟩
end Go.Proofs.Ytfbmeoiaedlgoaa
