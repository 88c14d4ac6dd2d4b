/- bytes.Clone of a row of bytes. -/
import Derived.Test.YtkiccdgfhahdlaaLtM
import Derived.Lib.Hide
import Derived.LoopTactic
namespace Go.Proofs.Ytkiccdgfhahdlaa
open Go Go.RowKit
set_option linter.unusedVariables false
set_option linter.unusedSimpArgs false

set_option maxRecDepth 100000 in
theorem bclone_any (l : List Int) (ad : Addr) (n cap : Nat) (w : World) (hA : In w (some ad) n cap l) (hn : n ≤ 140737488351232) :
    Calls Try.prog 36 #[.slice (some ad) n cap] w fun e w' => ∃ ao cp, e = .returned (.slice ao n cp) ∧ w'.ownsRow w.heap.size 5 1 (.slice ao n cp) n (u8s l) ∧ Below w.heap.size w w' := by
  obtain ⟨i0, hi0, hz0, hz1, hz2⟩ := info_parts info5
  have HA := Lib.hid hA
  clear hA
  have hnil : ∀ w : World, (binOp .eql 31 (.slice (some ad) n cap) (.slice none 0 0)).run Try.prog w = .ok (.bool false) w := fun w => by
    simp only [binOp]
    simp [Op.equal, Op.maxDepth, Lib.run_equalIn_slice_nil w 9999 31 5 (some ad) n cap 0 0 Try.underlying31]
  go_enter Try.func36, Try.ntmps36
  have own0 := World.ownsRow_made (e := 5) (size := 1) w #[] 0 (Nat.le_refl _) (by decide) rfl
  have HA1 := Lib.hid (HA.out.below (bl_al (Below.refl _ _) (.cells #[] 5)))
  go_wp2_with (at_builtin; refine append_any rfl (.tmp 5) (.tmp 6) 31 rfl w.heap.size 5 i0 (.int .u8 0) 1 1 Try.underlying31 hi0 hz0 hz1 hz2 rfl (by decide) _ 0 [] rfl own0 (some ad) n cap (u8s l) rfl HA1.out.zero ?c1 HA1.out.cells (u8s_one l) ?c2 ?c3 ?c4 ?_)
  case c1 => unfold u8s; rw [List.length_map, HA.out.len]; omega
  case c2 => unfold maxLen; omega
  case c3 => omega
  case c4 => simp
  intro v1 w2 hown hgrow
  have HB2 := Lib.hid ((bl_al (Below.refl w.heap.size w) (.cells #[] 5)).grown hgrow (by simp) (fun k hk => by cases hk; exact Nat.le_refl _))
  obtain ⟨ao, c1, rfl⟩ := own_form hown
  have HO := Lib.hid hown
  clear hgrow own0 HA1 hown
  go_wp2
  go_ret
  exact ⟨ao, c1, by simp, by simpa using HO.out, HB2.out⟩
set_option maxRecDepth 100000 in
theorem bclone_nil (w : World) :
    Calls Try.prog 36 #[.slice none 0 0] w fun e w' => e = .returned (.slice none 0 0) ∧ w = w' := by
  have hnil : ∀ w : World, (binOp .eql 31 (.slice none 0 0) (.slice none 0 0)).run Try.prog w = .ok (.bool true) w := fun w => by
    simp only [binOp]
    simp [Op.equal, Op.maxDepth, Lib.run_equalIn_slice_nil w 9999 31 5 none 0 0 0 0 Try.underlying31]
  go_enter Try.func36, Try.ntmps36
  go_wp2
  go_ret
  exact ⟨rfl, rfl⟩
theorem bclone_t (l : List Int) (a : Option Addr) (n cap : Nat) (w : World) (hA : In w a n cap l) (hn : n ≤ 140737488351232) :
    Calls Try.prog 36 #[.slice a n cap] w fun e w' => ∃ ao cp, e = .returned (.slice ao n cp) ∧ w'.ownsRow w.heap.size 5 1 (.slice ao n cp) n (u8s l) ∧ Below w.heap.size w w' := by
  cases a with
  | some ad => exact bclone_any l ad n cap w hA hn
  | none =>
    obtain ⟨rfl, rfl⟩ := hA.zero rfl
    have hl : l = [] := List.eq_nil_of_length_eq_zero hA.len
    subst hl
    refine (bclone_nil w).mono ?_
    rintro e w' ⟨rfl, rfl⟩
    exact ⟨none, 0, rfl, World.ownsRow_nil _ _ _ _, Below.refl _ _⟩
end Go.Proofs.Ytkiccdgfhahdlaa
