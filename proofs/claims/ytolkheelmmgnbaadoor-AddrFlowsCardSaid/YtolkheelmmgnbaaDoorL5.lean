/- Contract of the function value in addr.Hash: it mixes a row of bytes into the number that it holds, and turns nothing else. Conditions: the row's cells hold bytes; the number's cell is no cell of the row. -/
import Derived.Test.YtolkheelmmgnbaaDoorL4
import Derived.OneCell
import Derived.Maps.AppendAt
namespace Go.Proofs.YtolkheelmmgnbaaDoor
open Go Go.RowKit Go.Sort

theorem grown_one (w : World) (a : Addr) (u : Value) : w.grownBy (w.setCell a u) (some a.block) :=
  ⟨rfl, rfl, rfl, by simp [World.setCell], fun k _ hk => Below.heap_setCell _ _ _ _ (fun e => hk (by rw [e]))⟩

set_option maxHeartbeats 2000000 in
set_option maxRecDepth 100000 in
theorem add_any (c g n : Nat) (h : Int) (l : List Int) (hl : l.length = n) (hn : n ≤ 100) (fit : ∀ b ∈ l, 0 ≤ b ∧ b < 256) (w : World) (hgc : g ≠ c)
    (hv : w.heap[c]? = some (.cells #[.int .u64 h] 45 (0, 0))) (hc : ∀ j, j < n → w.cell? ⟨g, j, none⟩ = some (.int .u8 (l.getD j 0))) :
    Calls Tryd.prog 46 #[.slice (some ⟨g, 0, none⟩) n n, .pointer (some ⟨c, 0, none⟩)] w fun e w' => e = .returned (.tuple #[]) ∧ w'.heap[c]? = some (.cells #[.int .u64 (l.foldl stepH h)] 45 (0, 0)) ∧ w.grownBy w' (some c) := by
  have HL := Lib.hid hl
  have FIT := Lib.hid fit
  have HG := Lib.hid hgc
  have HV := Lib.hid hv
  have HC := Lib.hid hc
  clear hl fit hgc hv hc
  go_enter Tryd.func46, Tryd.ntmps46
  go_wp2
  go_loopw [7] (fun i wr => ∃ k : Nat, k ≤ n ∧ i = .int .i64 k ∧ Hid (wr.heap[c]? = some (.cells #[.int .u64 ((l.take k).foldl stepH h)] 45 (0, 0))) ∧ Hid (w.grownBy wr (some c))) (fun i _ => n - (intOf i).toNat)
  case atStart => exact ⟨0, by omega, rfl, HV, Lib.hid ⟨rfl, rfl, rfl, Nat.le_refl _, fun _ _ _ => rfl⟩⟩
  case round =>
    obtain ⟨k, hk, rfl, hV, hG⟩ := hrel
    by_cases hlt : k < n
    · have hc := hG.out.cell (HC.out k hlt) (fun e => HG.out (by simpa using e))
      obtain ⟨b, hbv⟩ : ∃ b, b = l.getD k 0 := ⟨_, rfl⟩
      rw [← hbv] at hc
      have hl : k < l.length := by rw [HL.out]; exact hlt
      obtain ⟨b0, b1⟩ := FIT.out b (by rw [hbv, List.getD_eq_getElem?_getD, List.getElem?_eq_getElem hl]; exact List.getElem_mem hl)
      obtain ⟨x, hx⟩ : ∃ x, x = (l.take k).foldl stepH h := ⟨_, rfl⟩
      have HN := Lib.hid (show IntKind.u64.wrap (bits .xor .u64 x b * 1099511628211) = (l.take (k + 1)).foldl stepH h by rw [take_more _ _ hl, List.foldl_append, ← hx, ← hbv]; rfl)
      rw [← hx] at hV
      have hx0 := cell_of_one hV.out
      have hx1 := free_of_one hV.out
      clear hbv hl hx
      go_wp2
      go_roundw
      case rel => exact ⟨k + 1, by omega, by go_num, Lib.hid (by rw [← HN.out]; exact one_setCell hV.out), Lib.hid (hG.out.trans (grown_one _ _ _))⟩
      case measure => simp [intOf]; omega
    · have e : l.take k = l := List.take_of_length_le (by rw [HL.out]; omega)
      rw [e] at hV
      clear e
      go_wp2
      go_end0
      exact ⟨rfl, hV.out, hG.out⟩
end Go.Proofs.YtolkheelmmgnbaaDoor
