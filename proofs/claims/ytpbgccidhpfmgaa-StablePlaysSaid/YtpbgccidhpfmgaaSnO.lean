/- StableOwns's walk: it returns true. Conditions: at most 2^47 bytes. -/
import Derived.Test.YtpbgccidhpfmgaaSnN
import Derived.Test.YtpbgccidhpfmgaaAqW
import Derived.Test.YtpbgccidhpfmgaaOvr
namespace Go.Proofs.Ytpbgccidhpfmgaa
open Go Go.RowKit Go.Maps
set_option linter.unusedVariables false
set_option linter.unusedSimpArgs false

set_option maxRecDepth 100000 in
set_option maxHeartbeats 400000 in
theorem over_o (B g cap n N : Nat) (L : List Int) (w : World) (hO : Own w B g cap N L) (hn : n ≤ N) (hb : n ≤ 4611686018427387904) (c : Nat) :
    Calls Try.prog 38 #[.slice (some ⟨g, 0, none⟩) n c] w fun e w' => e = .returned (.tuple #[]) ∧ (∃ M, Own w' B g cap N M) ∧ w.grownBy w' (some g) := by
  have HO := Lib.hid hO
  have HN := Lib.hid hn
  clear hO hn
  go_enter Try.func38, Try.ntmps38
  go_wp2
  go_loopw [5] (fun i wr => ∃ (j : Nat) (M : List Int), j ≤ n ∧ i = .int .i64 j ∧ Hid (Own wr B g cap N M) ∧ Hid (w.grownBy wr (some g))) (fun i _ => n - (intOf i).toNat)
  case atStart => exact ⟨0, L, by omega, rfl, HO, Lib.hid (World.grownBy.refl _ _)⟩
  case round =>
    obtain ⟨j, M, hj, rfl, hM, hG⟩ := hrel
    by_cases hlt : j < n
    · have hjM : j < M.length := by rw [hM.out.2.1]; have := HN.out; omega
      have hcell := (hM.out.1.cellAt j (by have := HN.out; omega)).trans (u8s_at hjM)
      have hfr := hM.out.1.frozenAt j
      obtain ⟨x, hx⟩ : ∃ x, x = M.getD j 0 := ⟨_, rfl⟩
      rw [← hx] at hcell
      clear hx hjM
      go_wp2
      go_roundw
      case rel => exact ⟨j + 1, _, by omega, by go_num, Lib.hid (own_putU hM.out j _), Lib.hid (hG.out.trans (grown_putU wr g j _))⟩
      case measure => simp [intOf]; omega
    · go_wp2
      go_end0
      exact ⟨rfl, ⟨_, hM.out⟩, hG.out⟩
/-- Three rows of unlike blocks. -/
theorem apartT_three {w : World} {B n1 n2 n3 c1 c2 c3 : Nat} {a1 a2 a3 : Option Addr} {L1 L2 L3 : List Int} (h1 : w.ownsRow B 5 1 (.slice a1 n1 c1) n1 (u8s L1)) (h2 : w.ownsRow B 5 1 (.slice a2 n2 c2) n2 (u8s L2)) (h3 : w.ownsRow B 5 1 (.slice a3 n3 c3) n3 (u8s L3))
    (d12 : Aprt (.slice a1 n1 c1) (.slice a2 n2 c2)) (d13 : Aprt (.slice a1 n1 c1) (.slice a3 n3 c3)) (d23 : Aprt (.slice a2 n2 c2) (.slice a3 n3 c3)) (k1 : n1 ≤ 140737488351232) (k2 : n2 ≤ 140737488351232) (k3 : n3 ≤ 140737488351232) (hB : B ≤ w.heap.size) :
    Calls Try.prog 50 #[.slice (some ⟨w.heap.size, 0, none⟩) 3 3] (w.alloc (.cells #[.slice a1 n1 c1, .slice a2 n2 c2, .slice a3 n3 c3] 74)) fun e w' => e = .returned (.bool true) ∧
      Tch (fun k => (Value.slice a1 n1 c1).ownBlock = some k ∨ (Value.slice a2 n2 c2).ownBlock = some k ∨ (Value.slice a3 n3 c3).ownBlock = some k) w w' := by
  have l1 : L1.length = n1 := by have := h1.1; simpa [u8s] using this
  have l2 : L2.length = n2 := by have := h2.1; simpa [u8s] using this
  have l3 : L3.length = n3 := by have := h3.1; simpa [u8s] using this
  have G : Geo B w.heap.size 3 (fun i => if i = 0 then Value.slice a1 n1 c1 else if i = 1 then Value.slice a2 n2 c2 else Value.slice a3 n3 c3) := by
    have ne : ∀ {u v : Value}, Aprt u v → u.ownBlock = none ∨ u.ownBlock ≠ v.ownBlock := fun {u v} h => by
      cases e : u.ownBlock with
      | none => exact .inl rfl
      | some g => exact .inr (fun e2 => h g e e2.symm)
    refine ⟨fun i j hi hj hij => ?_, fun i hi => ?_⟩
    · have hi' : i = 0 ∨ i = 1 ∨ i = 2 := by omega
      have hj' : j = 0 ∨ j = 1 ∨ j = 2 := by omega
      rcases hi' with rfl | rfl | rfl <;> rcases hj' with rfl | rfl | rfl <;> first | exact absurd rfl hij | exact ne d12 | exact ne d13 | exact ne d23 | exact ne d12.symm | exact ne d13.symm | exact ne d23.symm
    · have hi' : i = 0 ∨ i = 1 ∨ i = 2 := by omega
      rcases hi' with rfl | rfl | rfl
      · intro e; have := (h1.lt _ e).2; omega
      · intro e; have := (h2.lt _ e).2; omega
      · intro e; have := (h3.lt _ e).2; omega
  have hal : Below w.heap.size w (w.alloc (.cells #[.slice a1 n1 c1, .slice a2 n2 c2, .slice a3 n3 c3] 74)) := bl_al (Below.refl _ _) _
  refine (apartT_any _ B w.heap.size 3 3 _ (fun i => if i = 0 then n1 else if i = 1 then n2 else n3) (by omega) G ?_ ?_ ?_ (by simp) (by simp; omega)).mono ?_
  · intro i hi
    have : i = 0 ∨ i = 1 ∨ i = 2 := by omega
    rcases this with rfl | rfl | rfl
    · exact cells_new w [.slice a1 n1 c1, .slice a2 n2 c2, .slice a3 n3 c3] 74 (0, 0) 0 _ rfl
    · exact cells_new w [.slice a1 n1 c1, .slice a2 n2 c2, .slice a3 n3 c3] 74 (0, 0) 1 _ rfl
    · exact cells_new w [.slice a1 n1 c1, .slice a2 n2 c2, .slice a3 n3 c3] 74 (0, 0) 2 _ rfl
  · intro i hi
    have : i = 0 ∨ i = 1 ∨ i = 2 := by omega
    rcases this with rfl | rfl | rfl
    · exact ⟨L1, l1, h1.alloc _⟩
    · exact ⟨L2, l2, h2.alloc _⟩
    · exact ⟨L3, l3, h3.alloc _⟩
  · intro i hi
    have : i = 0 ∨ i = 1 ∨ i = 2 := by omega
    rcases this with rfl | rfl | rfl
    · exact k1
    · exact k2
    · exact k3
  · rintro e w' ⟨rfl, ht⟩
    refine ⟨rfl, ((tch_new hal).mono (fun _ h => h.elim)).trans (ht.mono ?_)⟩
    rintro x ⟨i, hi, hx⟩
    have : i = 0 ∨ i = 1 ∨ i = 2 := by omega
    rcases this with rfl | rfl | rfl
    · exact .inl hx
    · exact .inr (.inl hx)
    · exact .inr (.inr hx)
end Go.Proofs.Ytpbgccidhpfmgaa
