/- Contract of the statements' ends: a copy of ends with a mark. Conditions: the row came in, of at most 2^20 ends. -/
import Derived.Test.YtkacbeighaccjaaRgK
namespace Go.Proofs.Ytkacbeighaccjaa
open Go Go.RowKit
set_option linter.unusedVariables false
set_option linter.unusedSimpArgs false

theorem infoE : (Try.prog.info? 51).map (fun i => (i.zero, i.size, i.bytes)) = some (some en0.val, 3, 24) := by kernel_rfl
def mkE : En := ⟨0, -77, 0⟩
/-- A copy with its mark. -/
structure MkE (w : World) (g n : Nat) (es : List En) : Prop where
  row : InE w (some ⟨g, 0, none⟩) n (n + 1) es
  mark : w.cell? ⟨g, n * 3 + 1, none⟩ = some (.int .i64 (-77))
theorem MkE.below {w w' : World} {g n : Nat} {es : List En} (h : MkE w g n es) (hb : Below w.heap.size w w') : MkE w' g n es :=
  ⟨h.row.below hb, (hb.cell (p := ⟨g, n * 3 + 1, none⟩) (block_lt_of_cell h.mark)).trans h.mark⟩
theorem mark_inE {w : World} {B g n c : Nat} {es : List En} (h : w.ownsRow B tyE 3 (.slice (some ⟨g, 0, none⟩) (n + 1) c) (n + 1) (cellsE (es ++ [mkE]))) (hc : c = n + 1) (hl : es.length = n) (hf : ∀ e ∈ es, TyEn e) : MkE w g n es := by
  subst hc
  have h1 := own_inE h (fun e he => by
    rcases List.mem_append.1 he with he | he
    · exact hf e he
    · rw [List.mem_singleton] at he
      subst he
      unfold TyEn mkE
      simp only
      omega)
  refine ⟨?_, ?_⟩
  · have h2 := h1.take n (by omega)
    rwa [show (es ++ [mkE]).take n = es by rw [← hl, List.take_left]] at h2
  · have h2 := (h1.cell (j := n) (by omega)).2.1
    rw [Nat.zero_add, List.getD_eq_getElem?_getD, List.getElem?_append_right (by omega), hl, Nat.sub_self] at h2
    exact h2
theorem en_new (w : World) (e : En) : ∀ j u, e.cs[j]? = some u → (w.alloc (.cells e.cs.toArray tyE)).cell? ((⟨w.heap.size, 0, none⟩ : Addr).add j) = some u := fun j u h => by
  rw [Go.WideShapes.add_plain]
  exact cells_new w e.cs tyE (0, 0) j u h
set_option maxRecDepth 100000 in
theorem ends_t (es : List En) (a : Option Addr) (n cap : Nat) (w : World) (hA : InE w a n cap es) (hn : n ≤ 1048576) :
    Calls Try.prog 24 #[.slice a n cap] w fun e w' => ∃ g, e = .returned (.slice (some ⟨g, 0, none⟩) n (n + 1)) ∧ MkE w' g n es ∧ w.heap.size ≤ g ∧ Below w.heap.size w w' := by
  obtain ⟨i0, hi0, hz0, hz1, hz2⟩ := info_parts infoE
  have HA := Lib.hid hA
  have HCL : Hid ((cellsE es).length = n * 3) := Lib.hid (by rw [cellsE_len, hA.len])
  clear hA
  go_enter Try.func24, Try.ntmps24
  go_wp2_with (first | (refine wpList_make_own w rfl _ _ 48 rfl w.heap.size 51 i0 en0.val 3 Try.underlying48 hi0 hz0 hz1 .i64 .i64 ((n : Int) + 1) (n + 1) rfl rfl (by omega) (by rw [hz2]; omega) (by unfold maxLen; omega) (Nat.le_refl _) ?_))
  intro w1 hown1 hg1
  have HB1 := Lib.hid ((Below.refl w.heap.size w).grown hg1 (Nat.le_refl _) (fun k hk => by cases hk))
  have HA1 := Lib.hid (HA.out.below HB1.out)
  clear hg1
  go_wp2_with (first | (at_builtin; refine wpList_append_fits_any w1 rfl (.tmp 6) (.tmp 7) 48 rfl w.heap.size 51 i0 3 Try.underlying48 hi0 hz1 w.heap.size 0 (n + 1) [] rfl hown1 a n cap (cellsE es) rfl HCL.out HA1.out.zero HA1.out.cells (cellsE_one' es) ?c2 ?_))
  case c2 => omega
  intro w2 hown2 hg2
  have HB2 := Lib.hid (HB1.out.grown hg2 HB1.out.size (fun k hk => by cases hk; exact Nat.le_refl _))
  have HO2 := Lib.hid hown2
  have hs2 := HB2.out.size
  clear hown1 hg2 HA1 HB1
  go_wp2_with (first | (at_builtin; refine wpList_append_fits _ rfl (.tmp 8) (.tmp 10) 48 rfl w.heap.size 51 i0 3 Try.underlying48 hi0 hz1 w.heap.size n (n + 1) (cellsE es) rfl (HO2.out.alloc _) ⟨w2.heap.size, 0, none⟩ 1 1 mkE.cs rfl rfl (en_new w2 mkE) ?c3 ?c4 ?_))
  case c3 => intro u hu; simp only [En.cs, List.mem_cons, List.not_mem_nil, or_false] at hu; rcases hu with rfl | rfl | rfl <;> rfl
  case c4 => omega
  intro w3 hown3 hg3
  have HB3 := Lib.hid ((HB2.out.alloc hs2 (.cells mkE.cs.toArray 51)).grown hg3 (by simp; omega) (fun k hk => by cases hk; exact Nat.le_refl _))
  have HO3 : Hid (MkE w3 w.heap.size n es) := Lib.hid (by
    rw [← cellsE_one mkE, ← cellsE_app] at hown3
    exact mark_inE hown3 rfl HA.out.len HA.out.typ)
  clear hown2 hown3 hg3 HO2 HB2
  go_wp2
  go_ret
  exact ⟨_, rfl, HO3.out, Nat.le_refl _, HB3.out⟩
end Go.Proofs.Ytkacbeighaccjaa
