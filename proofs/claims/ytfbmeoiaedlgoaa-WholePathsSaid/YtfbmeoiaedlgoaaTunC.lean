/- Contract of tunnel's Is. Conditions: the row came in, of at most 2^62 bytes. -/
import Derived.Test.YtfbmeoiaedlgoaaTunB
namespace Go.Proofs.Ytfbmeoiaedlgoaa
open Go Go.RowKit
set_option linter.unusedVariables false
set_option linter.unusedSimpArgs false

theorem in_rest {w : World} {b off n c : Nat} {l : List Int} (h : In w (some ⟨b, off, none⟩) n c l) (h20 : 20 ≤ n) : In w (some ⟨b, off + 20, none⟩) (n - 20) (c - 20) (l.drop 20) :=
  ⟨by rw [List.length_drop, h.len], by have := h.room; omega, (fun e => by cases e), by
    have h1 := h.here.sub h.len 20 n h20 (Nat.le_refl _) (n - 20) (c - 20) (off + 20) rfl rfl
    rwa [List.take_of_length_le (by rw [List.length_drop, h.len]; omega)] at h1, fun x hx => h.fit x (List.mem_of_mem_drop hx)⟩
theorem in_block {w : World} {a : Option Addr} {n c : Nat} {l : List Int} (h : In w a n c l) (hn : 0 < n) : ∃ b off, a = some ⟨b, off, none⟩ := by
  obtain ⟨a', cap', e, h0 | ⟨b, off, ha, hc⟩⟩ := h.here
  · have := h.len; rw [h0] at this; simp at this; omega
  · simp only [Value.slice.injEq] at e
    exact ⟨b, off, by rw [e.1, ha]⟩
theorem not_is_nil : ¬ Is [] := fun h => by have := h.size; simp at this

set_option maxRecDepth 100000 in
set_option maxHeartbeats 1000000 in
theorem is_short_row (a : Option Addr) (n c : Nat) (h20 : n < 20) (w : World) :
    Calls Try.prog 18 #[.slice a n c] w fun e w' => e = .returned (.bool false) ∧ Below w.heap.size w w' := by
  go_enter Try.func18, Try.ntmps18
  go_wp2
  go_ret
  exact ⟨rfl, Below.refl _ _⟩

set_option maxRecDepth 100000 in
set_option maxHeartbeats 1000000 in
theorem is_long (l R : List Int) (E : Value) (f : Int) (b off n c : Nat) (w : World) (hI : In w (some ⟨b, off, none⟩) n c l) (h20 : 20 ≤ n) (hc20 : ¬ c = 20) (hn : n ≤ 4611686018427387904) (ho : WOut (l.drop 20) (n4 l 12) (n4 l 16) R E f) :
    Calls Try.prog 18 #[.slice (some ⟨b, off, none⟩) n c] w fun e w' => e = .returned (.bool (decide (f = 0) && same R l)) ∧ Below w.heap.size w w' := by
  have hcap := hI.room
  have hS := n4_fit hI.fit 12
  have hD := n4_fit hI.fit 16
  have h20i : ¬ ((n : Int) < 20) := by omega
  have h20n : (20 : Int) ≤ (n : Int) := by omega
  have h20c : (20 : Int) ≤ (c : Int) := by omega
  have j16 : (16 : Int) ≤ (c : Int) := by omega
  have d12 : ¬ c = 12 := by omega
  have d16 : ¬ c = 16 := by omega
  have A12 := Lib.hid (fun (c2 : Nat) (W : World) (h : Below w.heap.size w W) => addr4 (w := W) (c := c) (hI.here.below h) hI.len hI.fit 12 c2 (off + 12) (by omega) rfl)
  have A16 := Lib.hid (fun (c2 : Nat) (W : World) (h : Below w.heap.size w W) => addr4 (w := W) (c := c) (hI.here.below h) hI.len hI.fit 16 c2 (off + 16) (by omega) rfl)
  have CW := Lib.hid (fun (W : World) (h : Below w.heap.size w W) => wrap_t ho hS hD (some ⟨b, off + 20, none⟩) (n - 20) (c - 20) W (in_rest (hI.below h) h20) (by omega))
  have HI := Lib.hid hI
  obtain ⟨s, hs⟩ : ∃ s, s = n4 l 12 := ⟨_, rfl⟩
  obtain ⟨d, hd⟩ : ∃ d, d = n4 l 16 := ⟨_, rfl⟩
  rw [← hs] at A12 CW ho
  rw [← hd] at A16 CW ho
  obtain ⟨m, hm⟩ : ∃ m, m = n - 20 := ⟨_, rfl⟩
  obtain ⟨cr, hcr⟩ : ∃ cr, cr = c - 20 := ⟨_, rfl⟩
  have hsub : (n : Int) - 20 = (m : Int) := by omega
  have hsub2 : (c : Int) - 20 = (cr : Int) := by omega
  have HO := Lib.hid ho
  have HFR : Hid (fit R) := Lib.hid (by
    rcases ho with ⟨_, _, rfl, _⟩ | ⟨_, _, rfl, _⟩ | ⟨_, rfl, _⟩
    · exact fit_wrp (fun x hx => hI.fit x (List.mem_of_mem_drop hx))
    · intro b hb; cases hb
    · intro b hb; cases hb)
  have hS0 : Below w.heap.size w w.drew := (Below.refl _ _).drew
  clear hI hS hD ho hs hd hm hcr
  go_enter Try.func18, Try.ntmps18
  go_wp2_with fail
  go_region_held3 (fun wx => Below w.heap.size w wx) (first | (with_reducible exact hS0) | (with_reducible exact bl_tr (by assumption) (by assumption)) | (with_reducible assumption) | fail)
    (first | (go_at_call 33; (with_reducible refine (A12.out _ _ (by assumption)).mono ?_); rintro e w' ⟨rfl, rfl⟩) | (go_at_call 33; (with_reducible refine (A16.out _ _ (by assumption)).mono ?_); rintro e w' ⟨rfl, rfl⟩) | (go_at_call 11; (with_reducible refine (CW.out _ (by assumption)).mono ?_); rintro e w' ⟨ao, k, cp, rfl, hk, hown, hb⟩) | fail)
  rename_i hHeld
  subst hk
  have HB := Lib.hid hHeld
  have HOW := Lib.hid (own_in hown rfl (HFR.out))
  clear hown hb hHeld A12 A16 CW hS0
  rcases HO.out with ⟨-, -, -, rfl, rfl⟩ | ⟨-, -, -, rfl, rfl⟩ | ⟨-, -, rfl, rfl⟩
  · clear HO
    have CE := Lib.hid (equal_any R l ao (some ⟨b, off, none⟩) R.length n cp c w' HOW.out.here (HI.out.below HB.out).here rfl HI.out.len HOW.out.fit HI.out.fit)
    go_wp2_with fail
    refine CE.out.mono ?_
    rintro e w2 ⟨rfl, rfl⟩
    go_wp2
    go_ret
    exact ⟨by simp, HB.out⟩
  · clear HO
    go_wp2
    go_ret
    exact ⟨by simp, HB.out⟩
  · clear HO
    go_wp2
    go_ret
    exact ⟨by simp, HB.out⟩

set_option maxRecDepth 100000 in
set_option maxHeartbeats 1000000 in
theorem is_edge (l : List Int) (b off : Nat) (w : World) (hI : In w (some ⟨b, off, none⟩) 20 20 l) :
    Calls Try.prog 18 #[.slice (some ⟨b, off, none⟩) 20 20] w fun e w' => e = .returned (.bool false) ∧ Below w.heap.size w w' := by
  have hS := n4_fit hI.fit 12
  have hD := n4_fit hI.fit 16
  have A12 := Lib.hid (fun (c2 : Nat) (W : World) (h : Below w.heap.size w W) => addr4 (w := W) (c := 20) (hI.here.below h) hI.len hI.fit 12 c2 (off + 12) (by omega) rfl)
  have A16 := Lib.hid (fun (c2 : Nat) (W : World) (h : Below w.heap.size w W) => addr4 (w := W) (c := 20) (hI.here.below h) hI.len hI.fit 16 c2 (off + 16) (by omega) rfl)
  have CW := Lib.hid (fun (W : World) (a : Addr) (cr : Nat) => wrap_t (l := []) (s := n4 l 12) (d := n4 l 16) (.inr (.inr ⟨not_is_nil, rfl, rfl, rfl⟩)) hS hD (some a) 0 cr W ⟨rfl, Nat.zero_le _, (fun e => by cases e), At.nil _ _ _, by intro b hb; cases hb⟩ (by omega))
  obtain ⟨s, hs⟩ : ∃ s, s = n4 l 12 := ⟨_, rfl⟩
  obtain ⟨d, hd⟩ : ∃ d, d = n4 l 16 := ⟨_, rfl⟩
  rw [← hs] at A12 CW
  rw [← hd] at A16 CW
  have hS0 : Below w.heap.size w w.drew := (Below.refl _ _).drew
  clear hI hS hD hs hd
  go_enter Try.func18, Try.ntmps18
  go_wp2_with fail
  go_region_held3 (fun wx => Below w.heap.size w wx) (first | (with_reducible exact hS0) | (with_reducible exact bl_tr (by assumption) (by assumption)) | (with_reducible assumption) | fail)
    (first | (go_at_call 33; (with_reducible refine (A12.out _ _ (by assumption)).mono ?_); rintro e w' ⟨rfl, rfl⟩) | (go_at_call 33; (with_reducible refine (A16.out _ _ (by assumption)).mono ?_); rintro e w' ⟨rfl, rfl⟩) | (go_at_call 11; (with_reducible refine (CW.out _ _ _).mono ?_); rintro e w' ⟨ao, k, cp, rfl, hk, hown, hb⟩) | fail)
  rename_i hHeld
  have HB := Lib.hid hHeld
  clear hown hb hk hHeld A12 A16 CW hS0
  go_wp2
  go_ret
  exact ⟨rfl, HB.out⟩

theorem is_t {l : List Int} {z : Bool} (hz : z = true ↔ IsW l) (a : Option Addr) (n c : Nat) (w : World) (hI : In w a n c l) (hn : n ≤ 4611686018427387904) :
    Calls Try.prog 18 #[.slice a n c] w fun e w' => e = .returned (.bool z) ∧ Below w.heap.size w w' := by
  by_cases h20 : n < 20
  · obtain rfl : z = false := by
      cases z with
      | false => rfl
      | true => have := (hz.1 rfl).size; have := hI.len; omega
    exact is_short_row a n c h20 w
  · obtain ⟨b, off, rfl⟩ := in_block hI (by omega)
    by_cases hc : c = 20
    · have hr := hI.room
      obtain rfl : n = 20 := by omega
      obtain rfl : c = 20 := hc
      obtain rfl : z = false := by
        cases z with
        | false => rfl
        | true =>
          have h := (hz.1 rfl).1.size
          rw [List.length_drop, hI.len] at h
          omega
      exact is_edge l b off w hI
    · obtain ⟨R, E, f, ho⟩ := WOut.some (l.drop 20) (n4 l 12) (n4 l 16)
      have e : (decide (f = 0) && same R l) = z := by
        have hl : (l.drop 20).length = l.length - 20 := List.length_drop
        rcases ho with ⟨h1, h2, rfl, _, rfl⟩ | ⟨h1, h2, rfl, _, rfl⟩ | ⟨h1, rfl, _, rfl⟩
        · have : same (wrp (n4 l 12) (n4 l 16) (l.drop 20)) l = z := by
            unfold same
            rw [Bool.eq_iff_iff, hz, decide_eq_true_eq]
            constructor
            · intro h
              exact ⟨h1, by omega, h⟩
            · intro h
              exact h.2.2
          rw [this]
          simp
        · have : z = false := by
            cases z with
            | false => rfl
            | true => have := (hz.1 rfl).2.1; omega
          rw [this]
          simp
        · have : z = false := by
            cases z with
            | false => rfl
            | true => exact absurd (hz.1 rfl).1 h1
          rw [this]
          simp
      rw [← e]
      exact is_long l R E f b off n c w hI (by omega) hc hn ho
theorem IsW.some (l : List Int) : ∃ z : Bool, z = true ↔ IsW l := by
  by_cases h : IsW l
  · exact ⟨true, by simp [h]⟩
  · exact ⟨false, by simp [h]⟩
end Go.Proofs.Ytfbmeoiaedlgoaa
