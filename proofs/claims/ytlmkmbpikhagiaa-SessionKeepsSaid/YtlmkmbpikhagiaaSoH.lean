/- slices.Sort on rows of addresses of the call's own. Conditions: those stated. -/
import Derived.Test.YtlmkmbpikhagiaaSoG
import Derived.Sort.OwnSortedInts
namespace Go.Proofs.Ytlmkmbpikhagiaa
open Go Go.RowKit Go.Sort Go.Shelf
set_option linter.unusedVariables false
set_option linter.unusedSimpArgs false

theorem len_c (n : Nat) (hn : n < 4611686018427387904) (w : World) : Calls Try.prog 63 #[.int .u64 (n : Int)] w fun e w' => e = .returned (.int .i64 (bitsLen n : Nat)) ∧ w' = w := by
  have h : ∀ D, _ := fun D => AnyS.bits_LenIn (P := Try.prog) (ρ := Try.lays189_ren) { Try.lays189 with } D (n : Int) w (by omega) (by omega)
  have h2 := calls_of_every_depth h
  rwa [Int.toNat_natCast, bitLen_eq _ (by omega)] at h2
theorem ins_nil (c : Nat) (w : World) : Calls Try.prog 65 #[.slice none 0 c, .int .i64 0, .int .i64 0] w fun e w' => e = .returned (.tuple #[]) ∧ w = w' := by
  go_enter Try.func65, Try.ntmps65
  go_wp2
  go_loop [6] (fun v => v = .int .i64 1) (fun _ => 0)
  case atStart => rfl
  case round =>
    obtain rfl := hrel
    go_wp2
    go_end0
    exact ⟨rfl, rfl⟩
set_option maxRecDepth 100000 in
theorem pdq_nil (c : Nat) (w : World) : Calls Try.prog 62 #[.slice none 0 c, .int .i64 0, .int .i64 0, .int .i64 0] w fun e w' => e = .returned (.tuple #[]) ∧ w = w' := by
  go_enter Try.func62, Try.ntmps62
  go_wp2
  go_loopg [1, 2, 3, 8, 9] 0 (fun kx s1 s2 s3 s8 s9 wr => s1 = .int .i64 0 ∧ s2 = .int .i64 0 ∧ s3 = .int .i64 0 ∧ s8 = .bool true ∧ s9 = .bool true ∧ w = wr)
  case atStart => exact ⟨rfl, rfl, rfl, rfl, rfl, rfl⟩
  case round =>
    obtain ⟨rfl, rfl, rfl, rfl, rfl, rfl⟩ := hrel
    go_wp2_with fail
    refine (ins_nil c _).mono ?_
    rintro e w1 ⟨rfl, rfl⟩
    go_wp2
    (try simp only [Exit.inBlock, Exit.then]); refine bodyPost_ret (results_none rfl _ _ _) rfl ?_
    exact ⟨rfl, rfl⟩
theorem sort_nil (c : Nat) (w : World) : Calls Try.prog 52 #[.slice none 0 c] w fun e w' => e = .returned (.tuple #[]) ∧ w = w' := by
  have HL := Lib.hid (len_c 0 (by omega))
  go_enter Try.func52, Try.ntmps52
  go_wp2_with fail
  refine (HL.out _).mono ?_
  rintro e w1 ⟨rfl, rfl⟩
  go_wp2_with fail
  refine (pdq_nil c _).mono ?_
  rintro e w1 ⟨rfl, rfl⟩
  go_wp2
  go_end0
  exact ⟨rfl, rfl⟩
theorem sort_row (blk off cap : Nat) (pre rest : List Value) (n : Nat) (d : Array Int) (w : World) (hS : Sr blk off pre rest n w d w) (hsz : n < 4611686018427387904) :
    Calls Try.prog 52 #[.slice (some ⟨blk, off, none⟩) n cap] w fun e w' => e = .returned (.tuple #[]) ∧ Sr blk off pre rest n w (pdq ltInt d 0 n (bitsLen n) true true) w' := by
  have HL := Lib.hid (len_c n hsz)
  have hk : bitsLen n ≤ 62 := (bitsLen_le_iff n 62).2 (by omega)
  have HP := Lib.hid (pdq_a blk off cap pre rest n hsz swo_ltInt (n + 1) 0 n (bitsLen n) d w (by omega) hS (Nat.zero_le _) (Nat.le_refl _) (by omega) (Or.inl rfl))
  have hw : ∀ [Inhabited Nat], IntKind.u64.wrap (n : Int) = (n : Int) := by intro _; rw [IntKind.wrap_u64]; omega
  clear hS
  go_enter Try.func52, Try.ntmps52
  go_wp2_with fail
  refine (HL.out _).mono ?_
  rintro e w1 ⟨rfl, rfl⟩
  go_wp2_with fail
  refine HP.out.mono ?_
  rintro e w1 ⟨rfl, h1⟩
  go_wp2
  go_end0
  exact ⟨rfl, h1⟩
/-- The rising row of the same numbers. -/
def srtA (l : List Int) : List Int := l.mergeSort (fun x y => !ltInt y x)
theorem srtA_perm (l : List Int) : (srtA l).Perm l := List.mergeSort_perm l _
theorem srtA_len (l : List Int) : (srtA l).length = l.length := (srtA_perm l).length_eq
theorem srtA_sorted (l : List Int) : (srtA l).Pairwise (· ≤ ·) := by
  have h := List.pairwise_mergeSort (le := fun x y : Int => !ltInt y x) (fun a b c h1 h2 => by simp [ltInt] at *; omega) (fun a b => by simp [ltInt]; omega) l
  exact h.imp (fun h => by simpa [ltInt] using h)
theorem rowC_list (l : List Int) : rowC l.toArray = a32s l := by unfold rowC a32s; simp
theorem rowC_arr (d : Array Int) : rowC d = a32s d.toList := rfl
theorem a32s_len (l : List Int) : (a32s l).length = l.length := by unfold a32s; simp
theorem sort_a (l : List Int) (v : Value) (n B : Nat) (w : World) (h : w.ownsRow B 44 1 v n (a32s l)) (hn : n < 4611686018427387904) :
    Calls Try.prog 52 #[v] w fun e w' => e = .returned (.tuple #[]) ∧ w'.ownsRow B 44 1 v n (a32s (srtA l)) ∧ Tch (fun b => v.ownBlock = some b) w w' := by
  have hl : l.length = n := by have := h.1; rw [a32s_len] at this; omega
  rcases h.2 with ⟨e0, h0⟩ | ⟨g, cap, cur, e0, hb, hg, h1, h2, h3, h4⟩
  · subst e0 h0
    have hl0 : l = [] := List.eq_nil_of_length_eq_zero hl
    refine (sort_nil 0 w).mono ?_
    rintro e w' ⟨rfl, rfl⟩
    exact ⟨rfl, by rw [hl0] at h ⊢; rw [show srtA [] = [] from List.mergeSort_nil]; exact h, Tch.refl _ _⟩
  · subst e0
    have hcur : cur = ([] ++ rowC l.toArray ++ cur.toList.drop n).toArray := by
      rw [rowC_list, List.nil_append]
      have h5 := List.take_append_drop n cur.toList
      rw [Nat.mul_one] at h4
      rw [h4] at h5
      rw [h5]
    have hS : Sr g 0 [] (cur.toList.drop n) n w l.toArray w := Sr.start (by simpa using hl) (by rw [← hcur]; exact hg) rfl
    refine (sort_row g 0 cap [] (cur.toList.drop n) n l.toArray w hS hn).mono ?_
    rintro e w' ⟨rfl, hs⟩
    obtain ⟨D, hD⟩ : ∃ D, D = pdq ltInt l.toArray 0 n (bitsLen n) true true := ⟨_, rfl⟩
    have hds : l.toArray.size = n := by simpa using hl
    have hp2 := pdq_sorts ltInt swo_ltInt l.toArray 0 n (bitsLen n) true true (Nat.zero_le _) (by omega) (Or.inl rfl)
    rw [← hD] at hs hp2
    have hu := sorted_unique_holds swo_ltInt (fun x y h1 h2 => by simp [ltInt] at h1 h2; omega) l.toArray D (by rw [hds]; exact hp2.1) (by rw [hds]; exact hp2.2)
    have hu2 : D.toList = srtA l := hu
    refine ⟨rfl, ⟨by rw [a32s_len, srtA_len]; omega, .inr ⟨g, cap, _, rfl, hb, hs.row, h1, h2, ?_, ?_⟩⟩, hs.tch.mono (fun b e => by rw [e]; rfl)⟩
    · have hc := congrArg Array.size hcur
      have e1 : (rowC D).length = n := by rw [rowC_len, hs.len]
      have e2 : (rowC l.toArray).length = n := by rw [rowC_len, hds]
      simp only [List.size_toArray, List.length_append, e1, e2, List.length_nil] at hc ⊢
      omega
    · rw [rowC_arr, hu2, Nat.mul_one, List.nil_append]
      exact List.take_left' (by rw [a32s_len, srtA_len]; exact hl)
end Go.Proofs.Ytlmkmbpikhagiaa
