/- session.announced and session.readVips: which vips are said and read.
 Conditions: those stated. -/
import Derived.Test.YtlmkmbpikhagiaaSoJ
namespace Go.Proofs.Ytlmkmbpikhagiaa
open Go Go.RowKit Go.Sort Go.Lib
set_option linter.unusedVariables false
set_option linter.unusedSimpArgs false

/-- Of these addresses the vips. -/
def vpsA (l : List Int) : List Int := l.filter (fun a => decide (IsVp a))
/-- What is announced of these addresses. -/
def annA (l : List Int) : List Int := (Lib.compact (srtA (vpsA l))).take 39
theorem vpsA_more (l : List Int) (a : Int) : vpsA (l ++ [a]) = if IsVp a then vpsA l ++ [a] else vpsA l := by
  unfold vpsA
  rw [List.filter_append]
  by_cases h : IsVp a
  · rw [if_pos h]; simp [h]
  · rw [if_neg h]; simp [h]
theorem vpsA_len (l : List Int) : (vpsA l).length ≤ l.length := List.length_filter_le _ _
theorem compact_len (l : List Int) : (Lib.compact l).length ≤ l.length := by
  unfold Lib.compact Lib.compactUpTo
  rw [List.length_map]
  exact Nat.le_trans (List.length_filter_le _ _) (by simp)
theorem fitA_vps {l : List Int} (h : fitA l) : fitA (vpsA l) := fun b hb => h b (List.mem_filter.1 hb).1
theorem fitA_srt {l : List Int} (h : fitA l) : fitA (srtA l) := fun b hb => h b ((srtA_perm l).mem_iff.1 hb)
theorem compact_mem {l : List Int} {b : Int} (hb : b ∈ Lib.compact l) : b ∈ l := by
  unfold Lib.compact Lib.compactUpTo at hb
  obtain ⟨j, hj, rfl⟩ := List.mem_map.1 hb
  have hj2 := List.mem_range.1 (List.mem_filter.1 hj).1
  have : l.toArray[j]! = l[j] := by simp [getElem!_pos, hj2]
  rw [this]
  exact List.getElem_mem hj2
theorem fitA_compact {l : List Int} (h : fitA l) : fitA (Lib.compact l) := fun b hb => h b (compact_mem hb)
theorem tch_below2 {T : Nat → Prop} {w w' : World} {B : Nat} (h : Tch T w w') (hT : ∀ k, T k → B ≤ k) (hB : B ≤ w.heap.size) : Below B w w' := h.below hT hB
set_option maxRecDepth 100000 in
set_option maxHeartbeats 1000000 in
theorem announced_c (l : List Int) (a : Option Addr) (n c : Nat) (w : World) (hI : InA w a n c l) (hn : n * 4 ≤ 140737488351232) :
    Calls Try.prog 35 #[.slice a n c] w (GotA w (annA l)) := by
  obtain ⟨i0, hi0, hz0, hz1, hz2⟩ := info_parts infoA
  have HI := Lib.hid hI
  have HO0 := Lib.hid (show w.ownsRow w.heap.size 44 1 (.slice none (vpsA (l.take 0)).length 0) (vpsA (l.take 0)).length (a32s (vpsA (l.take 0))) from World.ownsRow_nil _ _ _ _)
  have HB0 := Lib.hid (Below.refl w.heap.size w)
  clear hI
  go_enter Try.func35, Try.ntmps35
  go_wp2
  go_loopw [3, 5, 8] (fun v x i wr => ∃ (j : Nat) (ao : Option Addr) (c1 : Nat), j ≤ n ∧ i = .int .i64 j ∧ v = .slice ao (vpsA (l.take j)).length c1 ∧ Hid (wr.ownsRow w.heap.size 44 1 (.slice ao (vpsA (l.take j)).length c1) (vpsA (l.take j)).length (a32s (vpsA (l.take j)))) ∧ Hid (Below w.heap.size w wr)) (fun _ _ i _ => n - (intOf i).toNat)
  case atStart => exact ⟨0, none, 0, by omega, rfl, rfl, HO0, HB0⟩
  case round =>
    obtain ⟨j, ao, c1, hj, rfl, rfl, HO, HB⟩ := hrel
    obtain ⟨w1, rfl⟩ : ∃ v, v = wr := ⟨_, rfl⟩
    clear HO0 HB0
    by_cases hlj : j < n
    · have ilj : (j : Int) < (n : Int) := by omega
      obtain ⟨b1, o1, rfl⟩ := in_blockA HI.out (by omega)
      have c0 := in_cellA (HI.out.below HB.out) j hlj
      have hm := vpsA_more (l.take j) (l.getD j 0)
      rw [← take_more l 0 (by rw [HI.out.len]; exact hlj)] at hm
      have hx := fitA_at HI.out.fit (j := j) (by rw [HI.out.len]; exact hlj)
      have hk : (vpsA (l.take j)).length ≤ j := Nat.le_trans (vpsA_len _) (by rw [List.length_take]; omega)
      obtain ⟨x, hxx⟩ : ∃ x, x = l.getD j 0 := ⟨_, rfl⟩
      rw [← hxx] at c0 hm hx
      obtain ⟨k, hkk⟩ : ∃ k, k = (vpsA (l.take j)).length := ⟨_, rfl⟩
      rw [← hkk] at HO hk ⊢
      have HKK := Lib.hid hkk
      have CV := Lib.hid (vip_c x hx w1)
      clear hxx hkk hx
      by_cases hv : IsVp x
      · rw [if_pos hv] at hm
        rw [decide_eq_true hv] at CV
        have HM := Lib.hid (show vpsA (l.take (j + 1)) = vpsA (l.take j) ++ [x] from hm)
        clear hm hv
        go_wp2_with fail
        refine CV.out.mono ?_
        rintro e w2 ⟨rfl, hb2⟩
        have HO2 := Lib.hid (owns_bel HO.out hb2)
        have HB2 := Lib.hid (bl_tr HB.out hb2)
        have hsz : w.heap.size ≤ w2.heap.size := HB2.out.size
        clear hb2 c0 CV
        go_wp2_with (at_builtin; refine wpList_append_own _ rfl (.tmp 14) (.tmp 16) 33 rfl w.heap.size 44 i0 (.int .u32 0) 1 4 Try.underlying33 hi0 hz0 hz1 hz2 rfl (by decide) _ k (a32s (vpsA (l.take j))) rfl (HO2.out.alloc _) ⟨w2.heap.size, 0, none⟩ 1 1 [.int .u32 x] rfl rfl (cell_one_new w2 _ _) ?c3 ?c4 ?c5 ?c6 ?_)
        case c3 => intro u hu; simp at hu; subst hu; rfl
        case c4 => unfold maxLen; omega
        case c5 => omega
        case c6 => simp; omega
        intro v4 w4 hown hg _
        have HB4 := Lib.hid ((HB2.out.alloc hsz (.cells #[.int .u32 x] 44)).grown hg (by simp; omega) (fun k hk => (HO2.out.lt k hk).1))
        obtain ⟨a4, c4, rfl⟩ := own_form hown
        have HL : Hid ((vpsA (l.take (j + 1))).length = k + 1) := Lib.hid (by rw [HM.out, List.length_append, ← HKK.out]; rfl)
        have HO4 : Hid (w4.ownsRow w.heap.size 44 1 (.slice a4 (vpsA (l.take (j + 1))).length c4) (vpsA (l.take (j + 1))).length (a32s (vpsA (l.take (j + 1))))) := Lib.hid (by
          rw [HL.out, HM.out]
          have e : a32s (vpsA (l.take j) ++ [x]) = a32s (vpsA (l.take j)) ++ [.int .u32 x] := by unfold a32s; rw [List.map_append]; rfl
          rw [e]
          exact hown)
        clear hown hg
        go_wp2
        go_roundw
        case rel => exact ⟨j + 1, a4, c4, by omega, by go_num, by rw [HL.out], HO4, HB4⟩
        case measure => simp [intOf]; omega
      · rw [if_neg hv] at hm
        rw [decide_eq_false hv] at CV
        have HM := Lib.hid (show vpsA (l.take (j + 1)) = vpsA (l.take j) from hm)
        clear hm hv
        go_wp2_with fail
        refine CV.out.mono ?_
        rintro e w2 ⟨rfl, hb2⟩
        have HO2 := Lib.hid (owns_bel HO.out hb2)
        have HB2 := Lib.hid (bl_tr HB.out hb2)
        clear hb2 c0 CV
        go_wp2
        go_roundw
        case rel => exact ⟨j + 1, ao, c1, by omega, by go_num, by rw [HM.out, ← HKK.out], Lib.hid (by rw [HM.out, ← HKK.out]; exact HO2.out), HB2⟩
        case measure => simp [intOf]; omega
    · have ilj : ¬ ((j : Int) < (n : Int)) := by omega
      have ej : l.take j = l := List.take_of_length_le (by rw [HI.out.len]; omega)
      rw [ej] at HO ⊢
      have hk : (vpsA l).length ≤ n := Nat.le_trans (vpsA_len l) (by rw [HI.out.len]; omega)
      obtain ⟨k, hkk⟩ : ∃ k, k = (vpsA l).length := ⟨_, rfl⟩
      rw [← hkk] at HO hk ⊢
      clear hkk ej
      have hbv : ∀ q, (Value.slice ao k c1).ownBlock = some q → w.heap.size ≤ q := fun q hq => (HO.out.lt q hq).1
      have CS := Lib.hid (sort_a (vpsA l) (.slice ao k c1) k w.heap.size w1 HO.out (by omega))
      go_wp2_with fail
      refine CS.out.mono ?_
      rintro e w2 ⟨rfl, ho2, ht2⟩
      have HB2 := Lib.hid (HB.out.trans (ht2.below (B := w.heap.size) (fun q hq => hbv q hq) HB.out.size))
      have CC := Lib.hid (compact_a (srtA (vpsA l)) (.slice ao k c1) k w.heap.size w2 ho2 (by omega))
      clear CS ho2 ht2
      go_wp2_with fail
      refine CC.out.mono ?_
      rintro e w3 ⟨v3, k3, rfl, hk3, ho3, ht3⟩
      have HB3 := Lib.hid (HB2.out.trans (ht3.below (B := w.heap.size) (fun q hq => hbv q hq) HB2.out.size))
      obtain ⟨a3, c3, rfl⟩ := own_form ho3
      obtain ⟨S, hS⟩ : ∃ S, S = Lib.compact (srtA (vpsA l)) := ⟨_, rfl⟩
      have HS := Lib.hid hS
      have hfS : fitA S := by rw [hS]; exact fitA_compact (fitA_srt (fitA_vps HI.out.fit))
      rw [← hS] at hk3 ho3
      have hIn := own_inA ho3 hk3.symm hfS
      obtain ⟨m, hm⟩ : ∃ m, m = min k3 39 := ⟨_, rfl⟩
      have hmk : m ≤ k3 := by omega
      have HC := Lib.hid (clone_a (S.take m) a3 m c3 w3 (hIn.take m hmk) (by omega))
      have hroom := hIn.room
      have hmin : ∀ ts ty W, (Builtin.min_ ts ty #[.int .i64 (k3 : Int), .int .i64 39]).run Try.prog W = .ok (.int .i64 (m : Int)) W := by
        intro ts ty W
        rw [run_min_int2, hm]
        congr 2
        omega
      have HA : Hid (annA l = S.take m) := Lib.hid (by
        unfold annA
        rw [← HS.out, hm]
        by_cases h : k3 ≤ 39
        · rw [Nat.min_eq_left h, List.take_of_length_le (by omega), List.take_of_length_le (by omega)]
        · rw [Nat.min_eq_right (by omega)])
      clear CC ho3 ht3 hS hIn hm hk3 hfS hk hbv
      go_wp2_with fail
      refine HC.out.mono ?_
      rintro e w4 ⟨a4, n4, c4, rfl, hn4, ho4, hb4⟩
      have HO4 := Lib.hid (own_base ho4 HB3.out.size)
      have HB4 := Lib.hid (bl_tr HB3.out hb4)
      have HN4 := Lib.hid hn4
      clear ho4 hb4 hn4
      go_wp2
      go_ret
      rw [HA.out]
      exact ⟨a4, n4, c4, rfl, HN4.out, HO4.out, HB4.out⟩
end Go.Proofs.Ytlmkmbpikhagiaa
