/- Contract of the statements' mine: a message's copy with marks. Conditions: the rows came in, of at most 2^44 - 512 numbers and 2^47 - 4096 bytes. -/
import Derived.Test.YtbfcgnggcgodhaaMrk
import Derived.Test.YtbfcgnggcgodhaaMgG
import Derived.Deep.RegionHeld3
import Derived.Deep.CutRange
namespace Go.Proofs.Ytbfcgnggcgodhaa
open Go Go.RowKit
set_option linter.unusedVariables false
set_option linter.unusedSimpArgs false

theorem one_kept {U V : World} {r : Option Nat} {blk : Nat} {x : Value} (hg : U.grownBy V r) (hne : r ≠ some blk) (h : ∀ j v, [x][j]? = some v → U.cell? ((⟨blk, 0, none⟩ : Addr).add j) = some v) : ∀ j v, [x][j]? = some v → V.cell? ((⟨blk, 0, none⟩ : Addr).add j) = some v := by
  intro j v hv
  have h1 := h j v hv
  rw [Go.WideShapes.add_plain] at h1 ⊢
  exact hg.cell h1 (fun e => hne e.symm)
def MineV (w : World) (m : Mg) (e : Ending) (w' : World) : Prop :=
  ∃ g h n k, e = .returned (mval m.kind (some ⟨g, 0, none⟩) n (n + 1) (some ⟨h, 0, none⟩) k (k + 2)) ∧ n = m.nums.length ∧ k = m.data.length ∧ w'.ownsRow w.heap.size 3 1 (.slice (some ⟨g, 0, none⟩) (n + 1) (n + 1)) (n + 1) (i64s (m.nums ++ [-77])) ∧ Own w' w.heap.size h (k + 2) (k + 2) (m.data ++ [165, 90]) ∧ Below w.heap.size w w'
set_option maxRecDepth 100000 in
set_option maxHeartbeats 2000000 in
theorem mine_t (m : Mg) (a : Option Addr) (n c : Nat) (b : Option Addr) (k d : Nat) (w : World) (hI : MIn w a n c b k d m) (hn : n ≤ 17592186043904) (hk : k ≤ 140737488351232) :
    Calls Try.prog 12 #[mval m.kind a n c b k d] w (MineV w m) := by
  obtain ⟨j0, hj0, hy0, hy1, hy2⟩ := info_parts info3
  obtain ⟨W, hW⟩ : ∃ W, W = (w.alloc (mobj m.kind a n c b k d)).alloc (mobj 0 none 0 0 none 0 0) := ⟨_, rfl⟩
  have hs1 : (w.alloc (mobj m.kind a n c b k d)).heap.size = w.heap.size + 1 := by simp
  have HM : Hid (MAt W w.heap.size m.kind a n c b k d) := Lib.hid (by rw [hW]; exact (MAt.new w m.kind a n c b k d).below (bl_al (Below.refl _ _) _) (by omega))
  have HZ : Hid (W.heap[w.heap.size + 1]? = some (mobj 0 none 0 0 none 0 0)) := Lib.hid (by rw [hW, ← hs1]; exact heap_alloc_new _ _)
  have HBW : Hid (Below w.heap.size w W) := Lib.hid (by rw [hW]; exact bl_al (bl_al (Below.refl _ _) _) _)
  have HSW : Hid (W.heap.size = w.heap.size + 2) := Lib.hid (by rw [hW]; simp)
  have HIW := Lib.hid (hI.below HBW.out)
  have HW := Lib.hid hW
  obtain ⟨q0, hq0⟩ : ∃ q, q = w.heap.size := ⟨_, rfl⟩
  rw [← hq0] at HM HZ
  have HQ0 := Lib.hid hq0
  clear hI hW hq0 hs1
  have HLN : Hid ((i64s m.nums).length = n * 1) := Lib.hid (by unfold i64s; rw [List.length_map, HIW.out.nums.len, Nat.mul_one])
  have hd0 : Below W.heap.size W W.drew := (Below.refl _ _).drew
  have hS0 : (W.drew.cell? ⟨q0, 0, none⟩ = some (.int .i64 m.kind) ∧ W.drew.cell? ⟨q0, 1, none⟩ = some (.slice a n c) ∧ W.drew.cell? ⟨q0, 2, none⟩ = some (.slice b k d)) := ⟨HM.out.c0, HM.out.c1, HM.out.c2⟩
  have hwr : ∀ [Inhabited Nat], IntKind.i64.wrap ((n : Int) + 1) = (n : Int) + 1 := by intro _; exact IntWalk.i64_in _ (by omega)
  have hlw : q0 < W.heap.size := HM.out.lt
  have hlz : q0 + 1 < W.heap.size := lt_of_block HZ.out
  obtain ⟨w6, hr6, hown6, hg6⟩ := run_make_own (P := Try.prog) W.drew W.heap.size 22 3 j0 (.int .i64 0) 1 Try.underlying22 hj0 hy0 hy1 .i64 .i64 (n + 1) (by rw [hy2]; omega) (by unfold maxLen; omega) (Nat.le_refl _)
  obtain ⟨v6, hr6', hown6', hg6'⟩ := run_make_own (P := Try.prog) (W.alloc (.cells #[.int .i64 (-77)] 3)).drew W.heap.size 22 3 j0 (.int .i64 0) 1 Try.underlying22 hj0 hy0 hy1 .i64 .i64 (n + 1) (by rw [hy2]; omega) (by unfold maxLen; omega) (by simp)
  have hcs : ((n + 1 : Nat) : Int) = (n : Int) + 1 := by omega
  rw [hcs] at hr6 hr6'
  have hszA : (W.alloc (.cells #[.int .i64 (-77)] 3)).drew.heap.size = W.heap.size + 1 := by simp
  rw [hszA] at hr6' hown6'
  have hl6 := (hown6.lt _ rfl).2
  have hn6 : ∀ j v, [Value.int .i64 (-77)][j]? = some v → v6.cell? ((⟨W.heap.size, 0, none⟩ : Addr).add j) = some v := one_kept hg6' (by simp) (fun j v h => one_new W _ 3 j v h)
  have HN6 := Lib.hid hn6
  clear hn6
  have h6 := hd0.grown hg6 (Nat.le_refl _) (fun k hk => by cases hk)
  have h6' := ((bl_al (Below.refl W.heap.size W) (.cells #[.int .i64 (-77)] 3)).drew).grown hg6' (by simp) (fun k hk => by cases hk)
  have g6 := HM.out.below h6 hlw
  have g6' := HM.out.below h6' hlw
  have gA := HM.out.below ((bl_al (Below.refl W.heap.size W) (.cells #[.int .i64 (-77)] 3)).drew) hlw
  have hSA : ((W.alloc (.cells #[.int .i64 (-77)] 3)).drew.cell? ⟨q0, 0, none⟩ = some (.int .i64 m.kind) ∧ (W.alloc (.cells #[.int .i64 (-77)] 3)).drew.cell? ⟨q0, 1, none⟩ = some (.slice a n c) ∧ (W.alloc (.cells #[.int .i64 (-77)] 3)).drew.cell? ⟨q0, 2, none⟩ = some (.slice b k d)) := ⟨gA.c0, gA.c1, gA.c2⟩
  have hS6 : (w6.cell? ⟨q0, 0, none⟩ = some (.int .i64 m.kind) ∧ w6.cell? ⟨q0, 1, none⟩ = some (.slice a n c) ∧ w6.cell? ⟨q0, 2, none⟩ = some (.slice b k d)) := ⟨g6.c0, g6.c1, g6.c2⟩
  have hS6' : (v6.cell? ⟨q0, 0, none⟩ = some (.int .i64 m.kind) ∧ v6.cell? ⟨q0, 1, none⟩ = some (.slice a n c) ∧ v6.cell? ⟨q0, 2, none⟩ = some (.slice b k d)) := ⟨g6'.c0, g6'.c1, g6'.c2⟩
  have hle0 : (0 : Int) ≤ (n : Int) := by omega
  have hle1 : (n : Int) ≤ (n : Int) + 1 := by omega
  have hle2 : n ≤ n + 1 := by omega
  go_enter Try.func12, Try.ntmps12
  go_wp2_with fail
  rw [← HW.out, ← HQ0.out]
  go_region_held3 (fun wx => wx.cell? ⟨q0, 0, none⟩ = some (.int .i64 m.kind) ∧ wx.cell? ⟨q0, 1, none⟩ = some (.slice a n c) ∧ wx.cell? ⟨q0, 2, none⟩ = some (.slice b k d)) (first | (with_reducible exact hS0) | (with_reducible exact hS6) | (with_reducible exact hSA) | (with_reducible exact hS6') | (with_reducible exact hS7) | (with_reducible exact hS8) | (with_reducible exact hS9) | go_keep | fail)
    (first | (refine step_append_fits_any rfl (.tmp 9) (.tmp 11) 22 rfl W.heap.size 3 j0 1 Try.underlying22 hj0 hy1 _ 0 (n + 1) [] rfl (hown6) a n c (i64s m.nums) rfl HLN.out HIW.out.nums.zero (HIW.out.nums.below (h6)).cells (i64s_one _) (by omega) ?_; intro w7 hown7 hg7; simp only [Nat.zero_add, List.nil_append] at hown7 ⊢; have h7 := (h6).grown hg7 (by first | exact Nat.le_refl _ | exact h6.size | exact h6'.size | (have := h6.size; simp <;> omega)) (fun k hk => by cases hk; first | exact Nat.le_refl _ | simp); have g7 := HM.out.below h7 hlw; have hS7 := (show _ ∧ _ ∧ _ from ⟨g7.c0, g7.c1, g7.c2⟩)) | (refine step_append_fits_any rfl (.tmp 9) (.tmp 11) 22 rfl W.heap.size 3 j0 1 Try.underlying22 hj0 hy1 _ 0 (n + 1) [] rfl (hown6') a n c (i64s m.nums) rfl HLN.out HIW.out.nums.zero (HIW.out.nums.below (h6')).cells (i64s_one _) (by omega) ?_; intro w7 hown7 hg7; simp only [Nat.zero_add, List.nil_append] at hown7 ⊢; have h7 := (h6').grown hg7 (by first | exact Nat.le_refl _ | exact h6.size | exact h6'.size | (have := h6.size; simp <;> omega)) (fun k hk => by cases hk; first | exact Nat.le_refl _ | simp); have g7 := HM.out.below h7 hlw; have hS7 := (show _ ∧ _ ∧ _ from ⟨g7.c0, g7.c1, g7.c2⟩)) | (refine step_append_fits_any rfl (.tmp 9) (.tmp 11) 22 rfl W.heap.size 3 j0 1 Try.underlying22 hj0 hy1 _ 0 (n + 1) [] rfl (hown6.alloc _) a n c (i64s m.nums) rfl HLN.out HIW.out.nums.zero (HIW.out.nums.below (bl_al h6 _)).cells (i64s_one _) (by omega) ?_; intro w7 hown7 hg7; simp only [Nat.zero_add, List.nil_append] at hown7 ⊢; have h7 := (bl_al h6 _).grown hg7 (by first | exact Nat.le_refl _ | exact h6.size | exact h6'.size | (have := h6.size; simp <;> omega)) (fun k hk => by cases hk; first | exact Nat.le_refl _ | simp); have g7 := HM.out.below h7 hlw; have hS7 := (show _ ∧ _ ∧ _ from ⟨g7.c0, g7.c1, g7.c2⟩)) | (refine step_append_fits rfl (.tmp 12) (.tmp 13) 22 rfl W.heap.size 3 j0 1 Try.underlying22 hj0 hy1 _ n (n + 1) (i64s m.nums) rfl (hown7.alloc _) ⟨w7.heap.size, 0, none⟩ 1 1 [.int .i64 (-77)] rfl rfl (one_new w7 _ _) (by intro u hu; simp at hu; subst hu; rfl) (by omega) ?_; intro w8 hown8 hg8; have h8 := (bl_al h7 _).grown hg8 (by first | exact h7.size | (have := h7.size; simp <;> omega)) (fun k hk => by cases hk; first | exact Nat.le_refl _ | simp); have g8 := HM.out.below h8 hlw; have hS8 := (show _ ∧ _ ∧ _ from ⟨g8.c0, g8.c1, g8.c2⟩)) | (refine step_append_fits rfl (.tmp 12) (.tmp 13) 22 rfl W.heap.size 3 j0 1 Try.underlying22 hj0 hy1 _ n (n + 1) (i64s m.nums) rfl (hown7) ⟨W.heap.size, 0, none⟩ 1 1 [.int .i64 (-77)] rfl rfl (one_kept hg7 (by simp) HN6.out) (by intro u hu; simp at hu; subst hu; rfl) (by omega) ?_; intro w8 hown8 hg8; have h8 := (h7).grown hg8 (by first | exact h7.size | (have := h7.size; simp <;> omega)) (fun k hk => by cases hk; first | exact Nat.le_refl _ | simp); have g8 := HM.out.below h8 hlw; have hS8 := (show _ ∧ _ ∧ _ from ⟨g8.c0, g8.c1, g8.c2⟩)) | (refine step_append_fits rfl (.tmp 12) (.tmp 13) 22 rfl W.heap.size 3 j0 1 Try.underlying22 hj0 hy1 _ n (n + 1) (i64s m.nums) rfl (hown7) ⟨w6.heap.size, 0, none⟩ 1 1 [.int .i64 (-77)] rfl rfl (one_kept hg7 (fun e => Nat.ne_of_lt hl6 (Option.some.inj e)) (one_new w6 _ _)) (by intro u hu; simp at hu; subst hu; rfl) (by omega) ?_; intro w8 hown8 hg8; have h8 := (h7).grown hg8 (by first | exact h7.size | (have := h7.size; simp <;> omega)) (fun k hk => by cases hk; first | exact Nat.le_refl _ | simp); have g8 := HM.out.below h8 hlw; have hS8 := (show _ ∧ _ ∧ _ from ⟨g8.c0, g8.c1, g8.c2⟩)) | (go_at_call 17; (with_reducible refine (copy_any m.data b k d w8 (HIW.out.data.below h8) hk).mono ?_); rintro e w9 ⟨gh, rfl, hO9, hb9⟩; have h9 := bl_tr h8 hb9; have g9 := HM.out.below h9 hlw; have hS9 := (show _ ∧ _ ∧ _ from ⟨g9.c0, g9.c1, g9.c2⟩); have hz9 := (h9.block _ hlz).trans HZ.out; have zf := fun o => frozen_of_row w9 (q0 + 1) o _ _ hz9; have z0 : w9.cell? ⟨q0 + 1, 0, none⟩ = some (.int .i64 0) := (by rw [cell_of_row w9 _ _ _ _ _ hz9]; rfl); have z1 : w9.cell? ⟨q0 + 1, 1, none⟩ = some (.slice none 0 0) := (by rw [cell_of_row w9 _ _ _ _ _ hz9]; rfl); have z2 : w9.cell? ⟨q0 + 1, 2, none⟩ = some (.slice none 0 0) := (by rw [cell_of_row w9 _ _ _ _ _ hz9]; rfl)) | fail)
  all_goals
    rename_i hHeld
    have hOn := owns_bel hown8 hb9
    rw [show [Value.int .i64 (-77)] = i64s [-77] from rfl, i64s_app] at hOn
    have HON := Lib.hid hOn
    have HO9 := Lib.hid hO9
    have HB9 := Lib.hid (bl_tr HBW.out h9)
    have HS8 := Lib.hid (show W.heap.size ≤ w8.heap.size from h8.size)
    clear hOn hO9 hown8 hg8 hown7 hg7 h9 hHeld
    go_wp2
    refine bodyPost_ret (v := mval m.kind (some ⟨_, 0, none⟩) n (n + 1) (some ⟨gh, 0, none⟩) k (k + 2)) (by simp [results, Try.results12, go_sem, z0, z1, z2]; rfl) rfl ?_
    refine ⟨_, gh, n, k, rfl, HIW.out.nums.len.symm, HIW.out.data.len.symm, ?_, ?_, ?_⟩
    · refine own_base (B := W.heap.size) ?_ HBW.out.size
      iterate 3 (refine ownsRow_setCell_below ?_ hlz _)
      exact HON.out
    · refine ⟨?_, HO9.out.2.1, Nat.le_trans (Nat.le_trans HBW.out.size HS8.out) HO9.out.2.2⟩
      refine own_base (B := w8.heap.size) ?_ (Nat.le_trans HBW.out.size HS8.out)
      iterate 3 (refine ownsRow_setCell_below ?_ (Nat.lt_of_lt_of_le hlz HS8.out) _)
      exact HO9.out.1
    · iterate 3 (refine Below.setCell ?_ (by rw [HQ0.out]; simp) _)
      exact HB9.out
end Go.Proofs.Ytbfcgnggcgodhaa
