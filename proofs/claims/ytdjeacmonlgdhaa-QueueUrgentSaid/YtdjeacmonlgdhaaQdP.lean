/- What a send lays down where a queue is a channel in a struct; bytes.Clone. -/
import Derived.Test.YtdjeacmonlgdhaaQdA
namespace Go.Proofs.Ytdjeacmonlgdhaa
open Go Go.Conc Go.RowKit
set_option linter.unusedVariables false
set_option linter.unusedSimpArgs false

set_option maxRecDepth 100000 in
theorem bclone_any (l : List Int) (ad : Addr) (n cap : Nat) (w : World) (hA : In w (some ad) n cap l) (hn : n ≤ 140737488351232) :
    Calls Try.prog 38 #[.slice (some ad) n cap] w fun e w' => ∃ ao cp, e = .returned (.slice ao n cp) ∧ w'.ownsRow w.heap.size 5 1 (.slice ao n cp) n (u8s l) ∧ Below w.heap.size w w' := by
  obtain ⟨i0, hi0, hz0, hz1, hz2⟩ := info_parts info5
  have HA := Lib.hid hA
  clear hA
  have hnil : ∀ w : World, (binOp .eql 42 (.slice (some ad) n cap) (.slice none 0 0)).run Try.prog w = .ok (.bool false) w := fun w => by
    simp only [binOp]
    simp [Op.equal, Op.maxDepth, Lib.run_equalIn_slice_nil w 9999 42 5 (some ad) n cap 0 0 Try.underlying42]
  go_enter Try.func38, Try.ntmps38
  have own0 := World.ownsRow_made (e := 5) (size := 1) w #[] 0 (Nat.le_refl _) (by decide) rfl
  have HA1 := Lib.hid (HA.out.below (bl_al (Below.refl _ _) (.cells #[] 5)))
  go_wp2_with (at_builtin; refine append_any rfl (.tmp 5) (.tmp 6) 42 rfl w.heap.size 5 i0 (.int .u8 0) 1 1 Try.underlying42 hi0 hz0 hz1 hz2 rfl (by decide) _ 0 [] rfl own0 (some ad) n cap (u8s l) rfl HA1.out.zero ?c1 HA1.out.cells (u8s_one l) ?c2 ?c3 ?c4 ?_)
  case c1 => unfold u8s; rw [List.length_map, HA.out.len]; omega
  case c2 => unfold maxLen; omega
  case c3 => omega
  case c4 => simp
  intro v1 w2 hown hgrow
  have HB2 := Lib.hid ((bl_al (Below.refl w.heap.size w) (.cells #[] 5)).grown hgrow (by simp) (fun k hk => by cases hk; exact Nat.le_refl _))
  obtain ⟨ao, c1, rfl⟩ := own_form hown
  have HO := Lib.hid hown
  clear hgrow own0 HA1 hown
  go_wp2
  go_ret
  exact ⟨ao, c1, by simp, by simpa using HO.out, HB2.out⟩
set_option maxRecDepth 100000 in
theorem bclone_nil (w : World) :
    Calls Try.prog 38 #[.slice none 0 0] w fun e w' => e = .returned (.slice none 0 0) ∧ w = w' := by
  have hnil : ∀ w : World, (binOp .eql 42 (.slice none 0 0) (.slice none 0 0)).run Try.prog w = .ok (.bool true) w := fun w => by
    simp only [binOp]
    simp [Op.equal, Op.maxDepth, Lib.run_equalIn_slice_nil w 9999 42 5 none 0 0 0 0 Try.underlying42]
  go_enter Try.func38, Try.ntmps38
  go_wp2
  go_ret
  exact ⟨rfl, rfl⟩
theorem bclone_t (l : List Int) (a : Option Addr) (n cap : Nat) (w : World) (hA : In w a n cap l) (hn : n ≤ 140737488351232) :
    Calls Try.prog 38 #[.slice a n cap] w fun e w' => ∃ ao cp, e = .returned (.slice ao n cp) ∧ w'.ownsRow w.heap.size 5 1 (.slice ao n cp) n (u8s l) ∧ Below w.heap.size w w' := by
  cases a with
  | some ad => exact bclone_any l ad n cap w hA hn
  | none =>
    obtain ⟨rfl, rfl⟩ := hA.zero rfl
    have hl : l = [] := List.eq_nil_of_length_eq_zero hA.len
    subst hl
    refine (bclone_nil w).mono ?_
    rintro e w' ⟨rfl, rfl⟩
    exact ⟨none, 0, rfl, World.ownsRow_nil _ _ _ _, Below.refl _ _⟩
/-- Behind a send of a row of the call's own. -/
theorem q_push {w w1 : World} {B : Nat} {F : Nat → Prop} {q c size s r : Nat} {vs : List Value} {ps : List (List Int)} {p : List Int} {u : Value} (hQ : QSt w B F q size vs ps) (hB : B ≤ w.heap.size) (hF : ∀ k, F k ↔ k = q ∨ k = c) (h1 : w.cell? ⟨q, 0, none⟩ = some (.chan (some c))) (h2 : w.heap[c]? = some (.chan size vs.toArray false s r false)) (hs : ps.length < size)
    (hu : w1.ownsRow w.heap.size 5 1 u p.length (u8s p)) (hf : fit p) (hb : Below w.heap.size w w1) : QSt (w1.setChan c size (vs.toArray.push u) false (s + 1) r false) B F q size (vs ++ [u]) (ps ++ [p]) ∧ Tch F w (w1.setChan c size (vs.toArray.push u) false (s + 1) r false) ∧ ∀ k, u.ownBlock = some k → w.heap.size ≤ k := by
  have tb := tch_new hb
  have tc := tch_chan w1 c size (vs.toArray.push u) false (s + 1) r false
  have tcF : Tch F w1 (w1.setChan c size (vs.toArray.push u) false (s + 1) r false) := tc.mono (fun k hk => (hF k).2 (.inr hk))
  have ht : Tch F w (w1.setChan c size (vs.toArray.push u) false (s + 1) r false) := (tb.mono (fun _ h => h.elim)).trans tcF
  have hun : ∀ k, u.ownBlock = some k → w.heap.size ≤ k := fun k hk => (hu.lt k hk).1
  have huF : ∀ k, u.ownBlock = some k → ¬ F k := fun k hk h => by have := hun k hk; have := (hQ.base k h).2; omega
  have hc1 : c < w1.heap.size := Nat.lt_of_lt_of_le (lt_of_block h2) hb.size
  refine ⟨⟨⟨c, s + 1, r, hF, tc.cell (cell_later hb h1) (chan_ne h1 h2), ?_⟩, (hQ.rows.keep ht hQ.far).app (Rws.one (own_base (tcF.own hu huF) hB) hf), List.pairwise_append.2 ⟨hQ.apart, List.pairwise_singleton _ _, aprt_new (w := w) (B := w.heap.size) (fun v hv k hk => (hQ.rows.blocks v hv k hk).2) (fun v hv k hk => by rw [List.mem_singleton] at hv; rw [hv] at hk; exact hun k hk)⟩, fun v hv k hk => ?_, fun k hk => ⟨(hQ.base k hk).1, Nat.lt_of_lt_of_le (hQ.base k hk).2 ht.size⟩, by rw [List.length_append]; simp; omega⟩, ht, hun⟩
  · have := heap_setChan w1 c size (vs.toArray.push u) false (s + 1) r false hc1
    simpa using this
  · rcases List.mem_append.1 hv with hv | hv
    · exact hQ.far v hv k hk
    · rw [List.mem_singleton] at hv
      rw [hv] at hk
      exact huF k hk
end Go.Proofs.Ytdjeacmonlgdhaa
