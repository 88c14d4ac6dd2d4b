/- The document's Parse in plain lists: its loop as a function, what it makes of a text of four numerals, and that it takes just what Parse takes. No program here; no conditions but those stated. -/
import Derived.Test.YtolkheelmmgnbaaDoorG1
namespace Go.Proofs.YtolkheelmmgnbaaDoor
open Go Go.RowKit

/-- Is a byte a digit? -/
def IsDig (c : Int) : Prop := 48 ≤ c ∧ c ≤ 57
instance (c : Int) : Decidable (IsDig c) := by unfold IsDig; infer_instance
/-- The loop: what is left, the address so far, the number so far, how many numbers, how many digits. -/
def goP : List UInt8 → Int → Int → Nat → Nat → Option (Int × Nat)
  | [], a, n, p, d => if d = 0 ∨ 255 < n then none else some (IntKind.u64.wrap (IntKind.u64.wrap (a * 256) + n), p + 1)
  | c :: r, a, n, p, d =>
    if IsDig c.toNat then goP r a (10 * n + ((c.toNat : Int) - 48)) p (d + 1)
    else if (c.toNat : Int) ≠ 46 ∨ d = 0 ∨ 255 < n then none
    else goP r (IntKind.u64.wrap (IntKind.u64.wrap (a * 256) + n)) 0 (p + 1) 0

theorem goP_digits : ∀ (ds r : List UInt8) (a n : Int) (p d : Nat), (∀ c ∈ ds, 48 ≤ c.toNat ∧ c.toNat ≤ 57) →
    goP (ds ++ r) a n p d = goP r a (ds.foldl (fun n c => 10 * n + ((c.toNat : Int) - 48)) n) p (d + ds.length)
  | [], r, a, n, p, d, _ => by simp
  | c :: ds, r, a, n, p, d, h => by
    have hc := h c (by simp)
    rw [List.cons_append, goP, if_pos (by unfold IsDig; omega), goP_digits ds r _ _ _ _ (fun x hx => h x (List.mem_cons_of_mem _ hx))]
    simp only [List.foldl_cons, List.length_cons]
    rw [show d + 1 + ds.length = d + (ds.length + 1) by omega]

theorem val_one : ∀ u : Fin 10, ([UInt8.ofNat (48 + u.val)].foldl (fun n c => 10 * n + ((c.toNat : Int) - 48)) (0 : Int)) = u.val := by decide +kernel
theorem val_two : ∀ u : Fin 100, ([UInt8.ofNat (48 + u.val / 10), UInt8.ofNat (48 + u.val % 10)].foldl (fun n c => 10 * n + ((c.toNat : Int) - 48)) (0 : Int)) = u.val := by decide +kernel
theorem val_three : ∀ u : Fin 256, ([UInt8.ofNat (48 + u.val / 100), UInt8.ofNat (48 + u.val / 10 % 10), UInt8.ofNat (48 + u.val % 10)].foldl (fun n c => 10 * n + ((c.toNat : Int) - 48)) (0 : Int)) = u.val := by decide +kernel
theorem val_dec (u : Nat) (h : u < 256) : (Lib.decDigits u).foldl (fun n c => 10 * n + ((c.toNat : Int) - 48)) (0 : Int) = u := by
  by_cases h1 : u < 10
  · rw [Lib.decDigits_one h1]; exact val_one ⟨u, h1⟩
  by_cases h2 : u < 100
  · rw [Lib.decDigits_two h1 h2]; exact val_two ⟨u, h2⟩
  · rw [dec_three (by omega) (by omega)]; exact val_three ⟨u, h⟩
theorem dec_pos (u : Nat) : 0 < (Lib.decDigits u).length := by
  rw [Lib.decDigits_length]
  exact Lib.nDigits_pos u

theorem goP_num (u : Nat) (h : u < 256) (r : List UInt8) (a : Int) (p : Nat) : goP (Lib.decDigits u ++ 46 :: r) a 0 p 0 = goP r (IntKind.u64.wrap (IntKind.u64.wrap (a * 256) + u)) 0 (p + 1) 0 := by
  rw [goP_digits _ _ _ _ _ _ (dec_digits u), val_dec u h, goP, if_neg (by decide), if_neg]
  rintro (h1 | h1 | h1)
  · exact h1 (by decide)
  · have := dec_pos u
    omega
  · omega
theorem goP_last (u : Nat) (h : u < 256) (a : Int) (p : Nat) : goP (Lib.decDigits u) a 0 p 0 = some (IntKind.u64.wrap (IntKind.u64.wrap (a * 256) + u), p + 1) := by
  have e := goP_digits (Lib.decDigits u) [] a 0 p 0 (dec_digits u)
  rw [List.append_nil] at e
  rw [e, val_dec u h, goP, if_neg]
  rintro (h1 | h1)
  · have := dec_pos u
    omega
  · omega
theorem goP_text (a b c d : Nat) (ha : a < 256) (hb : b < 256) (hc : c < 256) (hd : d < 256) : goP (textL a b c d) 0 0 0 0 = some (addr4 a b c d, 4) := by
  rw [text_data, goP_num a ha, goP_num b hb, goP_num c hc, goP_last d hd]
  simp only [IntKind.wrap_u64]
  unfold addr4
  congr 2
  omega

/-- The document's Parse. -/
def refV (s : ByteArray) : Option Int :=
  if 15 < s.size then none else
  match goP s.data.toList 0 0 0 0 with
  | none => none
  | some (a, p) => if p ≠ 4 then none else if (⟨(textL (a % 4294967296 / 16777216) (a % 4294967296 / 65536 % 256) (a % 4294967296 / 256 % 256) (a % 4294967296 % 256)).toArray⟩ : ByteArray) ≠ s then none else some (a % 4294967296)

theorem ref_same (s : ByteArray) : refV s = parseV s := by
  cases hv : parseV s with
  | some x =>
    have hsz : ¬ 15 < s.size := by
      intro h
      rw [parseV, if_pos h] at hv
      cases hv
    obtain ⟨a, b, c, d, ha, hb, hc, hd, hx, hs⟩ := text_parse hv
    have hx' : x = (a : Int) * 16777216 + (b : Int) * 65536 + (c : Int) * 256 + (d : Int) := hx
    have hl : s.data.toList = textL a b c d := by rw [hs]
    rw [refV, if_neg hsz, hl, goP_text a b c d ha hb hc hd]
    have em : addr4 a b c d % 4294967296 = x := by unfold addr4; omega
    simp only [em]
    rw [show x / 16777216 = (a : Int) by omega, show x / 65536 % 256 = (b : Int) by omega, show x / 256 % 256 = (c : Int) by omega, show x % 256 = (d : Int) by omega, ← hs]
    simp
  | none =>
    unfold refV
    split
    · rfl
    · split
      · rfl
      · rename_i a p _
        split
        · rfl
        · split
          · rfl
          · rename_i hne
            exfalso
            have hs := Classical.not_not.1 hne
            obtain ⟨x, hx⟩ : ∃ x, x = a % 4294967296 := ⟨_, rfl⟩
            rw [← hx] at hs
            obtain ⟨b0, h0⟩ : ∃ b : Nat, (b : Int) = x / 16777216 := ⟨(x / 16777216).toNat, by omega⟩
            obtain ⟨b1, h1⟩ : ∃ b : Nat, (b : Int) = x / 65536 % 256 := ⟨(x / 65536 % 256).toNat, by omega⟩
            obtain ⟨b2, h2⟩ : ∃ b : Nat, (b : Int) = x / 256 % 256 := ⟨(x / 256 % 256).toNat, by omega⟩
            obtain ⟨b3, h3⟩ : ∃ b : Nat, (b : Int) = x % 256 := ⟨(x % 256).toNat, by omega⟩
            rw [← h0, ← h1, ← h2, ← h3] at hs
            have := parse_text b0 b1 b2 b3 (by omega) (by omega) (by omega) (by omega)
            rw [hs, hv] at this
            cases this
end Go.Proofs.YtolkheelmmgnbaaDoor
