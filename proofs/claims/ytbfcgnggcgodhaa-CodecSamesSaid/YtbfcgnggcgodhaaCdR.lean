/- Contract of codec.readNumbers. Conditions: the row came in, of at most 2^20 bytes; at most 2^20 numbers are asked. -/
import Derived.Test.YtbfcgnggcgodhaaMgD
import Derived.Deep.LoopGhost
import Derived.Deep.CutRange
namespace Go.Proofs.Ytbfcgnggcgodhaa
open Go Go.RowKit
set_option linter.unusedVariables false
set_option linter.unusedSimpArgs false

/-- The first numbers of a row. -/
def rns (l : List Int) (k : Nat) : List Int := (List.range k).map fun i => sg (n8 l (8 * i))
theorem rns_more (l : List Int) (k : Nat) : rns l (k + 1) = rns l k ++ [sg (n8 l (8 * k))] := by unfold rns; rw [List.range_succ, List.map_append]; rfl
/-- What readNumbers answers. -/
def GotN (w : World) (l : List Int) (b off n c C : Nat) (e : Ending) (w' : World) : Prop :=
  ∃ k o' n' c' a cc, k ≤ C ∧ ((0 < n' → o' = off + 8 * k) ∧ n' + 8 * k = n ∧ c' + 8 * k = c) ∧ (k < C → n' < 8) ∧ e = .returned (.tuple #[.slice a k cc, .slice (some ⟨b, o', none⟩) n' c']) ∧ w'.ownsRow w.heap.size 3 1 (.slice a k cc) k (i64s (rns l k)) ∧ Below w.heap.size w w'
theorem sg_small {u : Int} (h : u < 9223372036854775808) : sg u = u := by unfold sg; rw [if_neg (by omega)]
theorem or_sg {u x : Int} (h0 : 0 ≤ u) (h1 : u < 18446744073709551616) (h2 : u % 256 = 0) (x0 : 0 ≤ x) (x1 : x < 256) : bits .or .i64 (sg u) x = sg (u + x) := by
  obtain ⟨U, rfl⟩ := Int.eq_ofNat_of_zero_le h0
  obtain ⟨X, rfl⟩ := Int.eq_ofNat_of_zero_le x0
  have e1 : (BitVec.ofInt 64 (sg (U : Int))).toNat = U := by
    rw [BitVec.toNat_ofInt]
    unfold sg
    split <;> omega
  have e2 : (BitVec.ofInt 64 (X : Int)).toNat = X := by
    rw [BitVec.toNat_ofInt]
    omega
  show IntKind.i64.wrap ((BitVec.ofInt 64 (sg (U : Int)) ||| BitVec.ofInt 64 (X : Int)).toNat : Int) = _
  rw [BitVec.toNat_or, e1, e2]
  have e3 : U ||| X = U + X := nat_join 8 U X (by omega) (by omega)
  rw [e3]
  exact i64_sg ⟨by omega, by omega⟩

set_option maxRecDepth 100000 in
set_option maxHeartbeats 1000000 in
theorem readN_any (l : List Int) (b off n c C : Nat) (w : World) (hI : In w (some ⟨b, off, none⟩) n c l) (hn : n ≤ 1048576) (hC : C ≤ 1048576) :
    Calls Try.prog 44 #[.slice (some ⟨b, off, none⟩) n c, .int .i64 C] w (GotN w l b off n c C) := by
  obtain ⟨i0, hi0, hz0, hz1, hz2⟩ := info_parts info3
  have HI := Lib.hid hI
  have HB0 := Lib.hid (Below.refl w.heap.size w)
  have O0 : Hid (w.ownsRow w.heap.size 3 1 (.slice none 0 0) 0 (i64s (rns l 0))) := Lib.hid (World.ownsRow_nil _ _ _ _)
  have HCP := Lib.hid hI.room
  clear hI
  go_enter Try.func44, Try.ntmps44
  go_wp2
  go_step3
  go_wp2
  go_step3
  go_wp2
  go_loopg [0, 6, 10] C (fun g s0 s6 s10 wx => ∃ (k o' n' c' : Nat) (ao : Option Addr) (cc : Nat), k + g = C ∧ s10 = .int .i64 k ∧ s0 = .slice (some ⟨b, o', none⟩) n' c' ∧ s6 = .slice ao k cc ∧ Hid ((0 < n' → o' = off + 8 * k) ∧ n' + 8 * k = n ∧ c' + 8 * k = c) ∧ Hid (wx.ownsRow w.heap.size 3 1 (.slice ao k cc) k (i64s (rns l k))) ∧ Hid (Below w.heap.size w wx))
  case atStart => exact ⟨0, off, n, c, none, 0, by omega, rfl, rfl, rfl, Lib.hid ⟨fun _ => by omega, by omega, by omega⟩, O0, HB0⟩
  case round =>
    obtain ⟨k, o', n', c', ao, cc, hkg, rfl, rfl, rfl, HK, HO, HB⟩ := hrel
    clear O0 HB0
    cases gk with
    | zero =>
      have ilk : ¬ ((k : Int) < (C : Int)) := by omega
      have HKC : Hid (k = C) := Lib.hid (by omega)
      clear hkg
      go_wp2
      go_ret2
      exact ⟨k, o', n', c', ao, cc, by have := HKC.out; omega, HK.out, fun h => absurd h (by have := HKC.out; omega), rfl, HO.out, HB.out⟩
    | succ g =>
      have ilk : (k : Int) < (C : Int) := by omega
      have HKG := Lib.hid hkg
      clear hkg
      go_wp2
      obtain ⟨wo, hwo⟩ : ∃ wo : World, wo = wr := ⟨_, rfl⟩
      rw [← hwo] at HO HB
      have HR0 : Hid ((0 : Int) = sg (numB ((l.drop (8 * k)).take 0))) := Lib.hid rfl
      go_loopg [7, 12] 8 (fun g u i wx => ∃ (t : Nat) (r : Int), t + g = 8 ∧ t ≤ n' ∧ i = .int .i64 t ∧ u = .int .i64 r ∧ Hid (r = sg (numB ((l.drop (8 * k)).take t))) ∧ wx = wo)
      case atStart => exact ⟨0, 0, by omega, by omega, rfl, rfl, HR0, hwo.symm⟩
      case round =>
        obtain ⟨t, r, htg, htn, rfl, rfl, HR, hwr⟩ := hrel
        subst hwr
        clear HR0 hwo
        have hk := HK.out
        cases gk with
        | zero =>
          have ilt : ¬ ((t : Int) < 8) := by omega
          have i8 : (8 : Int) ≤ (n' : Int) := by omega
          have HR8 : Hid (r = sg (n8 l (8 * k))) := Lib.hid (by rw [HR.out, show t = 8 by omega, numB8 (by rw [HI.out.len]; omega)])
          have HC3 : Hid (i64s (rns l k) ++ [Value.int .i64 r] = i64s (rns l (k + 1))) := Lib.hid (by rw [rns_more, ← HR8.out, ← i64s_app]; rfl)
          have hks : k ≤ 1048576 := by omega
          have HT := Lib.hid (show 8 ≤ n' by omega)
          have hcp : 8 ≤ c' := by have := HCP.out; omega
          clear htg htn HR hk
          go_wp2_with (at_builtin; refine wpList_append_own _ rfl (.tmp 28) (.tmp 30) 22 rfl w.heap.size 3 i0 (.int .i64 0) 1 8 Try.underlying22 hi0 hz0 hz1 hz2 rfl (by decide) _ k (i64s (rns l k)) rfl (HO.out.alloc _) ⟨wr.heap.size, 0, none⟩ 1 1 [.int .i64 r] rfl rfl (cell_one_new wr _ _) ?c3 ?c4 ?c5 ?c6 ?_)
          case c3 => first | rfl | (intro u hu; simp at hu; subst hu; rfl)
          case c4 => unfold maxLen; omega
          case c5 => omega
          case c6 => have := HB.out.size; simp; omega
          intro v4 w4 hown hg _
          have HB4 := Lib.hid ((HB.out.alloc HB.out.size (.cells #[.int .i64 r] 3)).grown hg (by have := HB.out.size; simp; omega) (fun q hq => (HO.out.lt q hq).1))
          rw [HC3.out] at hown
          obtain ⟨a4, c4, rfl⟩ := own_form hown
          have HO4 := Lib.hid hown
          have HKM : Hid (k + 1 + g = C) := Lib.hid (by have h1 := HKG.out; omega)
          have HN8 := Lib.hid (show n' + 8 * k = n ∧ c' + 8 * k = c from HK.out.2)
          clear hown hg
          by_cases hc8 : c' = 8
          · have hn8 : n' = 8 := by have h1 := HCP.out; have h2 := HN8.out; have h3 := HT.out; omega
            subst hn8 hc8
            go_wp2
            go_roundg g
            case measure => omega
            case rel => exact ⟨k + 1, o', 0, 0, a4, c4, HKM.out, by go_num, rfl, rfl, Lib.hid ⟨fun h => absurd h (by omega), by have h2 := HN8.out; omega, by have h2 := HN8.out; omega⟩, HO4, HB4⟩
          · have HKN : Hid ((0 < n' - 8 → o' + 8 = off + 8 * (k + 1)) ∧ n' - 8 + 8 * (k + 1) = n ∧ c' - 8 + 8 * (k + 1) = c) := Lib.hid ⟨fun h => by have h1 := HK.out.1 (by omega); omega, by have h2 := HN8.out; have h3 := HT.out; omega, by have h2 := HN8.out; have h1 := HCP.out; have h3 := HT.out; omega⟩
            go_wp2
            go_roundg g
            case measure => omega
            case rel => exact ⟨k + 1, o' + 8, n' - 8, c' - 8, a4, c4, HKM.out, by go_num, rfl, rfl, HKN, HO4, HB4⟩
        | succ g2 =>
          have ilt : (t : Int) < 8 := by omega
          by_cases hte : t = n'
          · have qe : ((t : Int) == (n' : Int)) = true := by simp [hte]
            have HT := Lib.hid (show n' < 8 by omega)
            clear hte htn htg hk
            go_wp2
            try rw [Exit.noGoto_ret]
            go_ret2
            exact ⟨k, o', n', c', ao, cc, by have := HKG.out; omega, HK.out, fun h => HT.out, rfl, HO.out, HB.out⟩
          · have qe : ((t : Int) == (n' : Int)) = false := by simp; omega
            have itn : (t : Int) < (n' : Int) := by omega
            have t0 : (0 : Int) ≤ (t : Int) := by omega
            have ct := in_cell (HI.out.below HB.out) (8 * k + t) (by omega)
            have bx := getD_fit HI.out.fit (8 * k + t)
            have hdt : (l.drop (8 * k)).getD t 0 = l.getD (8 * k + t) 0 := drop_get l _ t
            obtain ⟨x, hx⟩ : ∃ x, x = l.getD (8 * k + t) 0 := ⟨_, rfl⟩
            rw [← hx] at ct bx hdt
            obtain ⟨x0, x1⟩ := bx
            have hfd : fit (l.drop (8 * k)) := fun y hy => HI.out.fit y (List.mem_of_mem_drop hy)
            have hld : (l.drop (8 * k)).length = n - 8 * k := by rw [List.length_drop, HI.out.len]
            obtain ⟨r0, r1⟩ := numB_small hfd (k := t) (by rw [hld]; omega) (by omega)
            obtain ⟨N, hN⟩ : ∃ N, N = numB ((l.drop (8 * k)).take t) := ⟨_, rfl⟩
            rw [← hN] at r0 r1
            have hrN : r = N := by rw [HR.out, ← hN]; exact sg_small (by omega)
            have hnx : numB ((l.drop (8 * k)).take (t + 1)) = N * 256 + x := by rw [take_more _ 0 (by rw [hld]; omega), numB_more, ← hN, hdt]; omega
            have HRN : Hid (sg (N * 256 + x) = sg (numB ((l.drop (8 * k)).take (t + 1)))) := Lib.hid (by rw [hnx])
            have e1 : ∀ [Inhabited Nat], IntKind.i64.wrap (r * 256) = sg (N * 256) := by intro _; rw [hrN]; exact i64_sg ⟨by omega, by omega⟩
            have e2 : ∀ [Inhabited Nat], IntKind.i64.wrap x = x := by intro _; exact IntWalk.i64_in _ (by omega)
            have e3 : bits .or .i64 (sg (N * 256)) x = sg (N * 256 + x) := or_sg (by omega) (by omega) (by omega) x0 x1
            have ct' : wr.cell? ⟨b, o' + t, none⟩ = some (.int .u8 x) := by
              rw [show o' + t = off + (8 * k + t) by have := hk.1 (by omega); omega]
              exact ct
            have HTG := Lib.hid htg
            have HTN := Lib.hid (show t + 1 ≤ n' by omega)
            obtain ⟨p, hp⟩ : ∃ p, p = sg (N * 256) := ⟨_, rfl⟩
            obtain ⟨s, hs⟩ : ∃ s, s = sg (N * 256 + x) := ⟨_, rfl⟩
            rw [← hp] at e1 e3
            rw [← hs] at e3 HRN
            clear htg htn hk hte hx hdt hfd hld r0 r1 hN hrN hnx ct hp hs HR
            go_wp2
            go_roundg g2
            case measure => omega
            case rel => exact ⟨t + 1, s, by have := HTG.out; omega, HTN.out, by go_num, rfl, HRN, rfl⟩
end Go.Proofs.Ytbfcgnggcgodhaa
