/- What the bound on all that is read says of a row's length. No conditions. -/
import Derived.Test.YtjmpmegodhglcaaC1
import Derived.Test.YtjmpmegodhglcaaRows
import Derived.Test.YtjmpmegodhglcaaB5
import Derived.OpenShut
namespace Go.Proofs.Ytjmpmegodhglcaa
open Go Go.RowKit Go.ChangeShapes Go.WideShapes

theorem bulk_pos {H : Type} (d : DataW H) : 1 ≤ Rows.uptoBulk d := by
  unfold Rows.uptoBulk
  split <;> omega
theorem bulk_len {H : Type} : ∀ l : List (DataW H), l.length ≤ Rows.uptoBulkAll l
  | [] => by simp [Rows.uptoBulkAll]
  | d :: r => by
    have h1 := bulk_pos d
    have h2 := bulk_len r
    simp only [Rows.uptoBulkAll, List.length_cons]
    omega
theorem bulk_le {H : Type} {d : DataW H} : ∀ {l : List (DataW H)}, d ∈ l → Rows.uptoBulk d ≤ Rows.uptoBulkAll l
  | x :: r, h => by
    simp only [Rows.uptoBulkAll]
    rcases List.mem_cons.1 h with rfl | h
    · omega
    · have := bulk_le h
      omega
theorem bulk_small {H : Type} {l : List (DataW H)} (hk : Rows.uptoSmall H l = true) {d : DataW H} (h : d ∈ l) : Rows.uptoBulk d ≤ 1048576 :=
  Nat.le_trans (bulk_le h) (of_decide_eq_true hk)

set_option maxRecDepth 100000 in
/-- A row of bytes that came in, and how long it is at most. -/
theorem open_bytes {H : Type} {enc : TypeId × Value → H} {W : World} {v : Value} {d : DataW H} {p : List MemPlace} {r : Reach} {b0 : Nat}
    (hv : Value.okWide Try.prog W r b0 22 v) (h : DataW.Trod enc Try.prog W 0 (fun _ => true) true 22 v d p) :
    ∃ a n cap l, v = .slice a n cap ∧ In W a n cap l ∧ n ≤ Rows.uptoBulk d ∧ n ≤ maxLen := by
  obtain ⟨a, n, cap, rfl⟩ := okWide_slice Try.underlying22 hv
  obtain ⟨fuel, hf⟩ := h
  rcases open_ints Try.underlying22 Try.underlying5 (by kernel_rfl) hf with ⟨hcs, hx⟩ | ⟨x, n', cap', zs, hcs, _, hl, hm, hz, hx, hcell, hwz⟩
  · simp [Value.cells] at hcs
    obtain ⟨rfl, rfl, rfl⟩ := hcs
    exact ⟨none, 0, 0, [], rfl, ⟨rfl, Nat.le_refl _, fun _ => rfl, At.nil _ _ _, by unfold fit; simp⟩, Nat.zero_le _, Nat.zero_le _⟩
  · simp [Value.cells] at hcs
    obtain ⟨rfl, rfl, rfl⟩ := hcs
    simp only [if_true] at hz
    obtain ⟨l, hA, hf, hn, hm', rfl⟩ := at_of_row (w := W) (.inr ⟨x, rfl, hl, hm, hz, hcell, hwz⟩)
    refine ⟨_, n, cap, _, rfl, ⟨hn, hl, fun e => (by cases e), hA, hf⟩, ?_, by omega⟩
    simp only [Prod.mk.injEq] at hx
    rw [hx.1]
    have h1 := bulk_len (lits (H := H) .u8 (zs.take n))
    have h2 : (lits (H := H) .u8 (zs.take n)).length = n := by simp only [lits, List.length_map]; exact hn
    simp only [Rows.uptoBulk]
    omega
end Go.Proofs.Ytjmpmegodhglcaa
