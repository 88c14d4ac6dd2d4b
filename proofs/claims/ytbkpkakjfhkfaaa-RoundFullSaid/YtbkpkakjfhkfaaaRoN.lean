/- RoundFull, plain: a log of 256 commands, and what rounds come to that are told it. No program. -/
import Derived.Test.YtbkpkakjfhkfaaaRoI
namespace Go.Proofs.Ytbkpkakjfhkfaaa
open Go Go.RowKit
set_option linter.unusedVariables false
set_option linter.unusedSimpArgs false

def fuC (i : Nat) : Cm := hl2 (16 + (i : Int) % 8) i
def fuL (n : Nat) : List Cm := (List.range n).map fuC
theorem fuL_len (n : Nat) : (fuL n).length = n := by simp [fuL]
theorem fuL_more (n : Nat) : fuL (n + 1) = fuL n ++ [fuC n] := by simp [fuL, List.range_succ]
theorem fuL_at {n k : Nat} (h : k < n) : (fuL n).getD k cm0 = fuC k := by
  unfold fuL
  rw [List.getD_eq_getElem?_getD, List.getElem?_map, List.getElem?_range h]
  rfl
theorem fuC_ty {i : Nat} (h : i < 256) : TyC (fuC i) := hl2_ty ⟨by omega, by omega⟩ ⟨by omega, by omega⟩
theorem fuL_ty {n : Nat} (h : n ≤ 256) : ∀ x ∈ fuL n, TyC x := fun x hx => by
  obtain ⟨i, hi, rfl⟩ := List.mem_map.1 hx
  exact fuC_ty (by have := List.mem_range.1 hi; omega)
theorem fuC_nm (i : Nat) : (fuC i).nm = (16 + (i : Int) % 8, 0, (i : Int)) := rfl
theorem fuL_good : GoodL (fuL 256) := by
  refine ⟨by rw [fuL_len]; exact Nat.le_refl _, fun c hc => ?_, ?_⟩
  · obtain ⟨i, hi, rfl⟩ := List.mem_map.1 hc
    have := List.mem_range.1 hi
    exact hl2_ok (by unfold IsMgr; omega) (by unfold IsTm; omega)
  · unfold fuL List.Nodup
    rw [List.map_map, List.pairwise_map]
    refine List.nodup_range.imp (fun {i j} h e => ?_)
    have e2 : (fuC i).nm = (fuC j).nm := e
    rw [fuC_nm, fuC_nm, Prod.mk.injEq, Prod.mk.injEq] at e2
    omega
def cLs (s : Int) : Cm := ⟨17, 1, s, 0, 4, 0, 0, 0, [], 167837696, 0, false⟩
theorem cLs_ty {s : Int} (h : IsTm s) : TyC (cLs s) := by
  constructor
  case seq => exact ⟨by unfold IsTm at h; show -9223372036854775808 ≤ s; omega, by unfold IsTm at h; show s ≤ 9223372036854775807; omega⟩
  case es => intro e he; cases he
  case few => show ([] : List En).length ≤ _; decide
  all_goals (unfold cLs; first | unfold i64c | unfold u32c); simp only; omega
theorem cLs_good {s : Int} (h : IsTm s) : GoodL [cLs s] := by
  refine ⟨by simp, fun c hc => ?_, by simp⟩
  rw [List.mem_singleton] at hc
  rw [hc]
  exact ⟨by show IsMgr 17; decide, by show IsTm 1; decide, h, by show IsTm 0; decide, .inr (.inr (.inr ⟨rfl, ⟨rfl, rfl, rfl, rfl⟩, by show IsDip 167837696; decide, rfl, rfl⟩))⟩
theorem ch_stage (r : Rd) : (chooseR r).stage = if (chosenL r).length > 256 then 4 else 2 := rfl
theorem ch_log (r : Rd) : (chooseR r).log = chosenL r := rfl
theorem ch_want (r : Rd) : (chooseR r).want = r.want := rfl
theorem fi_def (r : Rd) : findR r = 1 + idxC (wantsC r.want) r.log := rfl
/-- What a round of one comes to. -/
def fuR (want : List Cm) : Rd := { newR 1 ⟨3, 16⟩ want with ans := none8.set 0 true, gr := ⟨1, 16⟩, log := fuL 256 }
theorem fuR_log (want : List Cm) : (fuR want).log = fuL 256 := rfl
theorem fuR_want (want : List Cm) : (fuR want).want = want := rfl
theorem fu_prom (want : List Cm) : promR (newR 1 ⟨3, 16⟩ want) 16 ⟨1, 16⟩ (fuL 256) = chooseR (fuR want) := by
  unfold promR
  rw [if_pos ⟨rfl, fuL_good, show (16 : Int) ∈ silN none8 1 by decide⟩]
  have e : greater (heard (newR 1 ⟨3, 16⟩ want) 16) ⟨1, 16⟩ (fuL 256) = fuR want := by
    unfold greater
    rw [if_pos (show LtB (heard (newR 1 ⟨3, 16⟩ want) 16).gr ⟨1, 16⟩ from (show LtB bl0 ⟨1, 16⟩ by decide))]
    rfl
  rw [e, if_pos (show Most (fuR want) from (show 2 * (((1 : Nat) : Int) - ((silN (none8.set 0 true) 1).length : Int)) > ((1 : Nat) : Int) by decide))]
theorem fu_a (s : Int) : (chooseR (fuR [cLs s])).stage = 4 := by
  have e : idxC (wantsC [cLs s]) (fuL 256) = -1 := idxC_none.2 (fun x hx => by
    obtain ⟨i, _, rfl⟩ := List.mem_map.1 hx
    unfold wantsC
    rw [List.any_cons, List.any_nil, Bool.or_false, fuC_nm]
    show ((16 + (i : Int) % 8, (0 : Int), (i : Int)) == ((17 : Int), (1 : Int), s)) = false
    rw [beq_eq_false_iff_ne]
    intro h
    rw [Prod.mk.injEq, Prod.mk.injEq] at h
    omega)
  have e2 : chosenL (fuR [cLs s]) = fuL 256 ++ [cLs s] := by
    unfold chosenL
    rw [fi_def, fuR_want, fuR_log, e, if_pos (by decide)]
  rw [ch_stage, e2, if_pos (by rw [List.length_append, fuL_len]; simp)]
theorem fu_c {k : Nat} (hk : k < 256) : (chooseR (fuR [fuC k])).stage = 2 ∧ placeR (chooseR (fuR [fuC k])) = (k : Int) + 1 := by
  have hw : ∀ j : Nat, wantsC [fuC k] (fuC j) = decide (j = k) := fun j => by
    unfold wantsC
    rw [List.any_cons, List.any_nil, Bool.or_false, fuC_nm, fuC_nm]
    by_cases h : j = k
    · rw [h]; simp
    · rw [decide_eq_false h, beq_eq_false_iff_ne]
      intro e
      rw [Prod.mk.injEq, Prod.mk.injEq] at e
      omega
  have e : idxC (wantsC [fuC k]) (fuL 256) = k := idxC_hit (by rw [fuL_len]; exact hk) (fun j hj => by rw [fuL_at (by omega), hw]; exact decide_eq_false (by omega)) (by rw [fuL_at hk, hw]; exact decide_eq_true rfl)
  have e1 : findR (fuR [fuC k]) = 1 + (k : Int) := by
    rw [fi_def, fuR_want, fuR_log, e]
  have e2 : chosenL (fuR [fuC k]) = fuL 256 := by
    unfold chosenL
    rw [if_neg (by omega), fuR_log]
  have e3 : (chooseR (fuR [fuC k])).stage = 2 := by
    rw [ch_stage, e2, if_neg (by rw [fuL_len]; omega)]
  refine ⟨e3, ?_⟩
  unfold placeR
  rw [if_pos (.inl e3)]
  rw [fi_def, ch_log, ch_want, e2, fuR_want, e]
  omega
theorem fu_d : (chooseR (fuR [])).stage = 2 ∧ (chooseR (fuR [])).log.length = 256 := by
  have e : idxC (wantsC []) (fuL 256) = -1 := idxC_none.2 (fun x _ => rfl)
  have e2 : chosenL (fuR []) = fuL 256 := by
    unfold chosenL
    rw [fi_def, fuR_want, fuR_log, e, if_pos (by decide), List.append_nil]
  refine ⟨?_, ?_⟩
  · rw [ch_stage, e2, if_neg (by rw [fuL_len]; omega)]
  · rw [ch_log, e2, fuL_len]
theorem fu_acc (s : Int) : accR (chooseR (fuR [cLs s])) 16 = chooseR (fuR [cLs s]) := by
  unfold accR
  rw [if_neg (fun h => by rw [fu_a] at h; exact absurd h.1 (by decide))]
end Go.Proofs.Ytbkpkakjfhkfaaa
