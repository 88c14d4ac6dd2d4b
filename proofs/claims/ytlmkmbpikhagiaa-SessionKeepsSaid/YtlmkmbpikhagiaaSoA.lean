/- Rows of addresses that are being sorted: the worlds that Go's sort passes through; cmp.Less; the insertion sort. Conditions: those stated. -/
import Derived.Test.YtlmkmbpikhagiaaSeA
import Derived.Test.YtlmkmbpikhagiaaTch
import Derived.Sort.WalkA
import Derived.WalkKit
import Derived.CellFam
namespace Go.Proofs.Ytlmkmbpikhagiaa
open Go Go.RowKit Go.Sort
set_option linter.unusedVariables false
set_option linter.unusedSimpArgs false

def rowC (d : Array Int) : List Value := d.toList.map (Value.int .u32)
theorem rowC_len (d : Array Int) : (rowC d).length = d.size := by unfold rowC; simp
/-- Row d lies in block blk from off on; nothing old but that block has turned. -/
structure Sr (blk off : Nat) (pre rest : List Value) (n : Nat) (w : World) (d : Array Int) (W : World) : Prop where
  len : d.size = n
  row : W.heap[blk]? = some (.cells (pre ++ rowC d ++ rest).toArray 44 (0, 0))
  off : pre.length = off
  tch : Tch (· = blk) w W
section
variable {blk off : Nat} {pre rest : List Value} {n : Nat} {w W W' : World} {d d' : Array Int}
theorem Sr.start (hl : d.size = n) (hr : w.heap[blk]? = some (.cells (pre ++ rowC d ++ rest).toArray 44 (0, 0))) (ho : pre.length = off) : Sr blk off pre rest n w d w := ⟨hl, hr, ho, Tch.refl _ _⟩
theorem Sr.here (h : Sr blk off pre rest n w d W) : Sr blk off pre rest n W d W := ⟨h.len, h.row, h.off, Tch.refl _ _⟩
theorem Sr.step (h : Sr blk off pre rest n w d W) (h2 : Sr blk off pre rest n W d' W') : Sr blk off pre rest n w d' W' := ⟨h2.len, h2.row, h2.off, h.tch.trans h2.tch⟩
theorem Sr.more (h : Sr blk off pre rest n w d W) (ht : Tch Non W W') : Sr blk off pre rest n w d W' := ⟨h.len, ht.at h.row (fun h => h), h.off, h.tch.trans (ht.mono (fun _ h => h.elim))⟩
theorem Sr.apart {T : Nat → Prop} (h : Sr blk off pre rest n w d W) (ht : Tch T W W') (hn : ¬ T blk) : Sr blk off pre rest n W' d W' := ⟨h.len, ht.at h.row hn, h.off, Tch.refl _ _⟩
theorem tch_drewN (T : Nat → Prop) (w : World) (q : Nat) : Tch T w (w.drewN q) := ⟨rfl, rfl, rfl, Nat.le_refl _, fun _ _ _ => rfl⟩
theorem Sr.drewN (h : Sr blk off pre rest n w d W) (q : Nat) : Sr blk off pre rest n w d (W.drewN q) := h.more (tch_drewN _ _ _)
theorem Sr.lt (h : Sr blk off pre rest n w d W) : blk < W.heap.size := lt_of_block h.row
theorem put_row {w : World} {g i : Nat} {cs : Array Value} {t : TypeId} (h : w.heap[g]? = some (.cells cs t (0, 0))) (v : Value) : (w.setCell ⟨g, i, none⟩ v).heap[g]? = some (.cells (cs.setIfInBounds i v) t (0, 0)) := heap_setCell_same w g i cs t v h
theorem rowC_at {d : Array Int} {t : Nat} (ht : t < d.size) : (rowC d)[t]? = some (.int .u32 d[t]!) := by
  unfold rowC
  rw [List.getElem?_map, List.getElem?_eq_getElem (by simpa using ht), getElem!_pos d t ht]
  simp
theorem Sr.cell (h : Sr blk off pre rest n w d W) : ∀ t, t < n → W.cell? ⟨blk, off + t, none⟩ = some (.int .u32 d[t]!) := fun t ht => by
  rw [cell_of_row W blk _ _ _ _ h.row, List.getElem?_toArray, List.append_assoc, List.getElem?_append_right (by rw [h.off]; omega), h.off, Nat.add_sub_cancel_left, List.getElem?_append_left (by rw [rowC_len, h.len]; exact ht)]
  exact rowC_at (by rw [h.len]; exact ht)
theorem Sr.free (h : Sr blk off pre rest n w d W) : ∀ t, t < n → W.frozen? ⟨blk, off + t, none⟩ = false := fun t _ => frozen_of_row W blk _ _ _ h.row
theorem set_mid (pre l rest : List Value) (i : Nat) (v : Value) (hi : i < l.length) : (pre ++ l ++ rest).set (pre.length + i) v = pre ++ l.set i v ++ rest := by
  rw [List.append_assoc, List.set_append_right _ _ (by omega), Nat.add_sub_cancel_left, List.set_append_left _ _ hi, ← List.append_assoc]
theorem rowC_set (d : Array Int) (i : Nat) (x : Int) : (rowC d).set i (.int .u32 x) = rowC (d.setIfInBounds i x) := by
  unfold rowC
  rw [Array.toList_setIfInBounds, List.map_set]
theorem Sr.swap (h : Sr blk off pre rest n w d W) (i j : Nat) (hi : i < n) (hj : j < n) (x y : Int) (hx : x = d[i]!) (hy : y = d[j]!)
    (hh : W'.heap = ((W.setCell ⟨blk, off + i, none⟩ (.int .u32 y)).setCell ⟨blk, off + j, none⟩ (.int .u32 x)).heap) (ho : W'.os = W.os) (ht : W'.tape = W.tape) (hp : W'.output = W.output) : Sr blk off pre rest n w (swp d i j) W' := by
  have hl := h.len
  have h1 := put_row (i := off + i) h.row (.int .u32 y)
  have e1 : (pre ++ rowC d ++ rest).toArray.setIfInBounds (off + i) (.int .u32 y) = (pre ++ rowC (d.setIfInBounds i y) ++ rest).toArray := by
    rw [List.setIfInBounds_toArray, ← h.off, set_mid _ _ _ _ _ (by rw [rowC_len]; omega), rowC_set]
  rw [e1] at h1
  have h2 := put_row (i := off + j) h1 (.int .u32 x)
  have e2 : (pre ++ rowC (d.setIfInBounds i y) ++ rest).toArray.setIfInBounds (off + j) (.int .u32 x) = (pre ++ rowC (swp d i j) ++ rest).toArray := by
    rw [List.setIfInBounds_toArray, ← h.off, set_mid _ _ _ _ _ (by rw [rowC_len, Array.size_setIfInBounds]; omega), rowC_set, hx, hy]
    rfl
  rw [e2] at h2
  refine ⟨by rw [size_swp]; exact hl, by rw [hh]; exact h2, h.off, h.tch.trans ?_⟩
  have t1 := (tch_set W ⟨blk, off + i, none⟩ (.int .u32 y)).trans (tch_set (W.setCell ⟨blk, off + i, none⟩ (.int .u32 y)) ⟨blk, off + j, none⟩ (.int .u32 x))
  exact ⟨ho, ht, hp, by rw [hh]; exact t1.size, fun k hk hn => by rw [hh]; exact t1.block k hk hn⟩
end
theorem nan_a (x : Int) (w : World) : Calls Try.prog 90 #[.int .u32 x] w fun e w' => e = .returned (.bool false) ∧ w' = w := by
  go_enter Try.func90, Try.ntmps90
  go_wp2
  go_ret
  exact ⟨by simp, rfl⟩
theorem less_a (x y : Int) (w : World) : Calls Try.prog 71 #[.int .u32 x, .int .u32 y] w fun e w' => e = .returned (.bool (ltInt x y)) ∧ w' = w := by
  go_enter Try.func71, Try.ntmps71
  go_wp2_with (go_at_call 90; refine (nan_a _ _).mono ?_; rintro e w' ⟨rfl, rfl⟩)
  go_ret
  exact ⟨rfl, rfl⟩
theorem natsub (j : Nat) (h : 0 < j) : ((j - 1 : Nat) : Int) = (j : Int) - 1 := by omega
set_option maxRecDepth 100000 in
set_option maxHeartbeats 2000000 in
theorem ins_a (blk off cap : Nat) (pre rest : List Value) (n a b : Nat) (d : Array Int) (w : World) (hS : Sr blk off pre rest n w d w) (hab : a ≤ b) (hb : b ≤ n) (hsz : n < 4611686018427387904) :
    Calls Try.prog 65 #[.slice (some ⟨blk, off, none⟩) n cap, .int .i64 a, .int .i64 b] w fun e w' => e = .returned (.tuple #[]) ∧ Sr blk off pre rest n w (insertionSort ltInt d a b) w' := by
  have H0 := Lib.hid hS
  clear hS
  go_enter Try.func65, Try.ntmps65
  go_wp2
  go_loopw [6] (fun vi wr => ∃ (i : Nat) (dk : Array Int), vi = .int .i64 i ∧ a < i ∧ i ≤ b + 1 ∧ Hid (Sr blk off pre rest n w dk wr) ∧ Hid (insOuter ltInt a b i dk = insOuter ltInt a b (a + 1) d)) (fun vi _ => b + 1 - (intOf vi).toNat)
  case atStart => exact ⟨a + 1, d, by go_num, by omega, by omega, H0, Lib.hid rfl⟩
  case round =>
    obtain ⟨i, dk, rfl, hai, hib, HW, HO⟩ := hrel
    obtain ⟨w1, rfl⟩ : ∃ v, v = wr := ⟨_, rfl⟩
    clear H0
    by_cases hlt : i < b
    · have hltz : (i : Int) < (b : Int) := by omega
      go_wp2
      go_loopw [7] (fun vj wr2 => ∃ (j : Nat) (dj : Array Int), vj = .int .i64 j ∧ a ≤ j ∧ j ≤ i ∧ Hid (Sr blk off pre rest n w dj wr2) ∧ Hid (insInner ltInt a j dj = insInner ltInt a i dk)) (fun vj _ => (intOf vj).toNat)
      case atStart => exact ⟨i, dk, rfl, by omega, Nat.le_refl _, HW, Lib.hid rfl⟩
      case round =>
        obtain ⟨j, dj, rfl, haj, hji, HJ, HI⟩ := hrel
        obtain ⟨w2, rfl⟩ : ∃ v, v = wr := ⟨_, rfl⟩
        clear HW
        obtain ⟨G, hG⟩ : ∃ G : Nat → Int, ∀ t, G t = dj[t]! := ⟨fun t => dj[t]!, fun _ => rfl⟩
        have hcw : ∀ t, t < n → w2.cell? ⟨blk, off + t, none⟩ = some (.int .u32 (G t)) := fun t ht => by rw [hG]; exact HJ.out.cell t ht
        have hfw := HJ.out.free
        have HG : Hid (∀ t, G t = dj[t]!) := Lib.hid hG
        clear hG
        by_cases hja : a < j
        · have hjaz : (a : Int) < (j : Int) := by omega
          cases hlv : ltInt (G j) (G (j - 1)) with
          | true =>
            have HL := Lib.hid (show ltInt dj[j]! dj[j - 1]! = true by rw [← HG.out, ← HG.out]; exact hlv)
            go_wp2
            go_quiet ((go_at_call 71; refine Calls.quiet_of_same (less_a _ _ _)))
            go_wp2
            go_region
            all_goals go_wp2
            go_roundw
            case rel => exact ⟨j - 1, swp dj j (j - 1), by congr 1; omega, by omega, by omega, Lib.hid (HJ.out.swap j (j - 1) (by omega) (by omega) _ _ (HG.out _) (HG.out _) rfl rfl rfl rfl), Lib.hid (by rw [← HI.out, insInner_go ltInt a j dj hja HL.out])⟩
            case measure => simp [intOf]; omega
          | false =>
            have HL := Lib.hid (show ltInt dj[j]! dj[j - 1]! = false by rw [← HG.out, ← HG.out]; exact hlv)
            go_wp2
            go_quiet ((go_at_call 71; refine Calls.quiet_of_same (less_a _ _ _)))
            go_wp2
            go_roundw
            case rel => exact ⟨i + 1, dj, by go_num, by omega, by omega, Lib.hid (HJ.out.drewN _), Lib.hid (by rw [← HO.out, insOuter_go _ _ _ _ _ hlt, ← HI.out, insInner_stop _ _ _ _ (Or.inr HL.out)])⟩
            case measure => simp [intOf]; omega
        · have hjaz : ¬ (a : Int) < (j : Int) := by omega
          have hjd : decide ((a : Int) < (j : Int)) = false := decide_eq_false hjaz
          go_wp2
          go_quiet (fail)
          go_wp2
          go_roundw
          case rel => exact ⟨i + 1, dj, by go_num, by omega, by omega, Lib.hid (HJ.out.drewN _), Lib.hid (by rw [← HO.out, insOuter_go _ _ _ _ _ hlt, ← HI.out, insInner_stop _ _ _ _ (Or.inl (by omega))])⟩
          case measure => simp [intOf]; omega
    · have hltz : ¬ (i : Int) < (b : Int) := by omega
      go_wp2
      go_end0
      refine ⟨rfl, ?_⟩
      unfold insertionSort
      rw [← HO.out, insOuter_stop _ _ _ _ _ hlt]
      exact HW.out
end Go.Proofs.Ytlmkmbpikhagiaa
