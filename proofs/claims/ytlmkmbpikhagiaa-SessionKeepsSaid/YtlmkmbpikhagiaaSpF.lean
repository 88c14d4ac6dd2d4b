/- Words that are read: readVips, read; a speaker's Receive.
 Conditions: those stated. -/
import Derived.Test.YtlmkmbpikhagiaaSpE
namespace Go.Proofs.Ytlmkmbpikhagiaa
open Go Go.RowKit Go.Lib
set_option linter.unusedVariables false
set_option linter.unusedSimpArgs false

/-- Numbers that are vips, rising. -/
def OkV (l : List Int) : Prop := (∀ x ∈ l, u32c x ∧ IsVp x) ∧ l.Pairwise (· < ·)
def VipsN (l : List Int) : Prop := l.length ≤ 39 ∧ OkV l
instance (x : Int) : Decidable (u32c x) := by unfold u32c; infer_instance
instance (l : List Int) : Decidable (OkV l) := by unfold OkV; infer_instance
instance (l : List Int) : Decidable (VipsN l) := by unfold VipsN; infer_instance
theorem OkV.fit {l : List Int} (h : OkV l) : fitA l := fun x hx => (h.1 x hx).1
theorem OkV.take {l : List Int} (h : OkV l) (j : Nat) : OkV (l.take j) := ⟨fun x hx => h.1 x (List.mem_of_mem_take hx), h.2.sublist (List.take_sublist j l)⟩
theorem rise_last : ∀ {l : List Int} {x : Int}, l.Pairwise (· < ·) → (∀ y ∈ l.getLast?, y < x) → (l ++ [x]).Pairwise (· < ·)
  | [], x, _, _ => by simp
  | [a], x, _, h => by simp at h ⊢; exact h
  | a :: b :: l, x, hp, h => by
    have h1 := List.pairwise_cons.1 hp
    have ih := rise_last (l := b :: l) (x := x) h1.2 (fun y hy => h y (by simpa using hy))
    rw [List.cons_append]
    refine List.pairwise_cons.2 ⟨fun y hy => ?_, ih⟩
    rcases List.mem_append.1 hy with hy | hy
    · exact h1.1 y hy
    · have e : y = x := by simpa using hy
      subst e
      have h2 := h1.1 b (by simp)
      have h3 := (List.pairwise_cons.1 ih).1 y (by simp)
      omega
theorem OkV.snoc {l : List Int} {j : Nat} (hj : j < l.length) (h : OkV (l.take j)) (hu : u32c (l.getD j 0)) (hv : IsVp (l.getD j 0)) (hr : 0 < j → l.getD (j - 1) 0 < l.getD j 0) : OkV (l.take (j + 1)) := by
  rw [take_more l 0 hj]
  refine ⟨fun x hx => ?_, rise_last h.2 (fun y hy => ?_)⟩
  · rcases List.mem_append.1 hx with hx | hx
    · exact h.1 x hx
    · have : x = l.getD j 0 := by simpa using hx
      rw [this]; exact ⟨hu, hv⟩
  · rcases Nat.eq_zero_or_pos j with h0 | h0
    · subst h0; simp at hy
    · have e := hr h0
      have : y = l.getD (j - 1) 0 := by
        rw [List.getLast?_take, if_neg (by omega)] at hy
        rw [List.getD_eq_getElem?_getD]
        have h1 : l[j - 1]? = some l[j - 1] := List.getElem?_eq_getElem (by omega)
        rw [h1] at hy ⊢
        simp at hy
        exact hy.symm
      omega
theorem OkV.bad {l : List Int} {j : Nat} (hj : j < l.length) (hb : ¬ u32c (l.getD j 0) ∨ ¬ IsVp (l.getD j 0) ∨ (0 < j ∧ l.getD j 0 ≤ l.getD (j - 1) 0)) : ¬ OkV l := fun h => by
  have hm : l.getD j 0 ∈ l := by rw [List.getD_eq_getElem?_getD, List.getElem?_eq_getElem hj]; exact List.getElem_mem hj
  rcases hb with hb | hb | ⟨h0, hb⟩
  · exact hb (h.1 _ hm).1
  · exact hb (h.1 _ hm).2
  · have := List.pairwise_iff_getElem.1 h.2 (j - 1) j (by omega) hj (by omega)
    rw [List.getD_eq_getElem?_getD, List.getD_eq_getElem?_getD, List.getElem?_eq_getElem hj, List.getElem?_eq_getElem (by omega : j - 1 < l.length)] at hb
    simp at hb
    omega
/-- What readVips answers. -/
def RvO (w : World) (l : List Int) (e : Ending) (w' : World) : Prop :=
  Below w.heap.size w w' ∧ ((VipsN l ∧ ∃ a c, e = .returned (.tuple #[.slice a l.length c, .bool true]) ∧ w'.ownsRow w.heap.size 44 1 (.slice a l.length c) l.length (a32s l)) ∨ (¬ VipsN l ∧ e = .returned (.tuple #[.slice none 0 0, .bool false])))
set_option maxRecDepth 100000 in
set_option maxHeartbeats 2000000 in
theorem readVips_c (l : List Int) (a : Option Addr) (n c : Nat) (w : World) (hI : InI w a n c l) (hn : n ≤ 4611686018427387904) :
    Calls Try.prog 55 #[.slice a n c] w (RvO w l) := by
  obtain ⟨i0, hi0, hz0, hz1, hz2⟩ := info_parts infoA
  have HI := Lib.hid hI
  have HB0 := Lib.hid (Below.refl w.heap.size w)
  by_cases h39 : 39 < n
  · have h39z : 39 < (n : Int) := by omega
    have HN := Lib.hid (show ¬ VipsN l from fun h => by have := h.1; rw [hI.len] at this; omega)
    clear hI
    go_enter Try.func55, Try.ntmps55
    go_wp2
    go_ret2
    exact ⟨HB0.out, .inr ⟨HN.out, rfl⟩⟩
  · have h39z : ¬ 39 < (n : Int) := by omega
    have HO0 : Hid (w.ownsRow w.heap.size 44 1 (.slice none 0 0) 0 (a32s (l.take 0)) ∧ OkV (l.take 0)) := Lib.hid ⟨World.ownsRow_nil _ _ _ _, by simp [OkV]⟩
    clear hI
    go_enter Try.func55, Try.ntmps55
    go_wp2
    go_loopw [4, 5, 6, 7, 13] (fun v x5 x6 x7 i wr => ∃ (j : Nat) (ao : Option Addr) (c1 : Nat), j ≤ n ∧ i = .int .i64 j ∧ v = .slice ao j c1 ∧ Hid (wr.ownsRow w.heap.size 44 1 (.slice ao j c1) j (a32s (l.take j)) ∧ OkV (l.take j)) ∧ Hid (Below w.heap.size w wr)) (fun _ _ _ _ i _ => n - (intOf i).toNat)
    case atStart => exact ⟨0, none, 0, by omega, rfl, rfl, HO0, HB0⟩
    case round =>
      obtain ⟨j, ao, c1, hj, rfl, rfl, HO, HB⟩ := hrel
      obtain ⟨w1, rfl⟩ : ∃ v, v = wr := ⟨_, rfl⟩
      clear HO0 HB0
      by_cases hlj : j < n
      · have ilj : (j : Int) < (n : Int) := by omega
        obtain ⟨b1, o1, rfl⟩ := in_blockI HI.out (by omega)
        have c0 := in_cellI (HI.out.below HB.out) j hlj
        have hlen : j < l.length := by rw [HI.out.len]; exact hlj
        have hx := fitI_at HI.out.fit hlen
        have HBad := Lib.hid (fun h => (fun h2 : VipsN l => OkV.bad hlen h h2.2))
        have HGood := Lib.hid (fun hu hv hr => OkV.snoc hlen HO.out.2 hu hv hr)
        have HTM := Lib.hid (take_more l 0 hlen)
        obtain ⟨x, hxx⟩ : ∃ x, x = l.getD j 0 := ⟨_, rfl⟩
        rw [← hxx] at c0 HBad HGood HTM hx
        clear hxx
        by_cases hu : u32c x
        · have hu1 : x % 4294967296 = x := by unfold u32c at hu; omega
          have hu2 : ∀ [Inhabited Nat], IntKind.i64.wrap x = x := by intro _; exact IntWalk.i64_in _ (by unfold u32c at hu; omega)
          have hxz : (x != x) = false := by simp
          have CV := Lib.hid (vip_c x hu w1)
          by_cases hv : IsVp x
          · rw [decide_eq_true hv] at CV
            by_cases hj0 : 0 < j
            · have hj0z : (0 : Int) < (j : Int) := by omega
              have c9 := in_cellI (HI.out.below HB.out) (j - 1) (by omega)
              have hej : ((j - 1 : Nat) : Int) = (j : Int) - 1 := by omega
              obtain ⟨y, hyy⟩ : ∃ y, y = l.getD (j - 1) 0 := ⟨_, rfl⟩
              rw [← hyy] at c9 HBad HGood
              clear hyy
              by_cases hr : x ≤ y
              · have HF := Lib.hid (HBad.out (.inr (.inr ⟨hj0, hr⟩)))
                clear HBad HGood hu hv
                have hcell : ∀ w2, Below w1.heap.size w1 w2 → w2.cell? ⟨b1, o1 + (j - 1), none⟩ = some (.int .i64 y) := fun w2 hb => (hb.cell (p := ⟨b1, o1 + (j - 1), none⟩) (block_lt_of_cell c9)).trans c9
                have HC := Lib.hid hcell
                clear hcell
                go_wp2_with (go_at_call 51; refine CV.out.mono ?_; rintro e w2 ⟨rfl, hb2⟩; have c92 := HC.out _ hb2)
                go_ret2
                exact ⟨bl_tr HB.out hb2, .inr ⟨HF.out, rfl⟩⟩
              · have HK := Lib.hid (HGood.out hu hv (fun _ => by omega))
                clear HBad HGood hu hv
                have hcell : ∀ w2, Below w1.heap.size w1 w2 → w2.cell? ⟨b1, o1 + (j - 1), none⟩ = some (.int .i64 y) := fun w2 hb => (hb.cell (p := ⟨b1, o1 + (j - 1), none⟩) (block_lt_of_cell c9)).trans c9
                have HC := Lib.hid hcell
                clear hcell
                go_wp2_with (first | (go_at_call 51; refine CV.out.mono ?_; rintro e w2 ⟨rfl, hb2⟩; have c92 := HC.out _ hb2) | (at_builtin; refine wpList_append_own _ rfl (.tmp 42) (.tmp 44) 33 rfl w.heap.size 44 i0 (.int .u32 0) 1 4 Try.underlying33 hi0 hz0 hz1 hz2 rfl (by decide) _ j (a32s (l.take j)) rfl ((owns_bel HO.out.1 hb2).alloc _) ⟨w2.heap.size, 0, none⟩ 1 1 [.int .u32 x] rfl rfl (cell_one_new w2 _ _) (by intro u hu; simp at hu; subst hu; rfl) (by unfold maxLen; omega) (by omega) (by simp; exact Nat.le_trans (bl_tr HB.out hb2).size (Nat.le_succ _)) ?_; intro v4 w4 hown hg _; obtain ⟨a4, c4, rfl⟩ := own_form hown))
                have HB2 := Lib.hid (bl_tr HB.out hb2)
                have HB4 := Lib.hid ((HB2.out.alloc HB2.out.size (.cells #[.int .u32 x] 44)).grown hg (by simp; exact Nat.le_succ_of_le HB2.out.size) (fun k hk => ((owns_bel HO.out.1 hb2).lt k hk).1))
                have HO4 : Hid (w4.ownsRow w.heap.size 44 1 (.slice a4 (j + 1) c4) (j + 1) (a32s (l.take (j + 1))) ∧ OkV (l.take (j + 1))) := Lib.hid ⟨by
                  rw [HTM.out]
                  have e : a32s (l.take j ++ [x]) = a32s (l.take j) ++ [.int .u32 x] := by unfold a32s; rw [List.map_append]; rfl
                  rw [e]
                  exact hown, HK.out⟩
                clear hown hg c0
                go_wp2
                go_roundw
                case rel => exact ⟨j + 1, a4, c4, by omega, by go_num, by first | rfl | (congr 1), HO4, HB4⟩
                case measure => simp [intOf]; omega
            · have hj00 : j = 0 := by omega
              have hj0z : ¬ (0 : Int) < (j : Int) := by omega
              have HK := Lib.hid (HGood.out hu hv (fun h => by omega))
              have HC := Lib.hid (show ∀ w2, Below w1.heap.size w1 w2 → True from fun _ _ => trivial)
              clear HBad HGood hu hv hj00
              go_wp2_with (first | (go_at_call 51; refine CV.out.mono ?_; rintro e w2 ⟨rfl, hb2⟩; have c92 := HC.out _ hb2) | (at_builtin; refine wpList_append_own _ rfl (.tmp 42) (.tmp 44) 33 rfl w.heap.size 44 i0 (.int .u32 0) 1 4 Try.underlying33 hi0 hz0 hz1 hz2 rfl (by decide) _ j (a32s (l.take j)) rfl ((owns_bel HO.out.1 hb2).alloc _) ⟨w2.heap.size, 0, none⟩ 1 1 [.int .u32 x] rfl rfl (cell_one_new w2 _ _) (by intro u hu; simp at hu; subst hu; rfl) (by unfold maxLen; omega) (by omega) (by simp; exact Nat.le_trans (bl_tr HB.out hb2).size (Nat.le_succ _)) ?_; intro v4 w4 hown hg _; obtain ⟨a4, c4, rfl⟩ := own_form hown))
              have HB2 := Lib.hid (bl_tr HB.out hb2)
              have HB4 := Lib.hid ((HB2.out.alloc HB2.out.size (.cells #[.int .u32 x] 44)).grown hg (by simp; exact Nat.le_succ_of_le HB2.out.size) (fun k hk => ((owns_bel HO.out.1 hb2).lt k hk).1))
              have HO4 : Hid (w4.ownsRow w.heap.size 44 1 (.slice a4 (j + 1) c4) (j + 1) (a32s (l.take (j + 1))) ∧ OkV (l.take (j + 1))) := Lib.hid ⟨by
                rw [HTM.out]
                have e : a32s (l.take j ++ [x]) = a32s (l.take j) ++ [.int .u32 x] := by unfold a32s; rw [List.map_append]; rfl
                rw [e]
                exact hown, HK.out⟩
              clear hown hg c0
              go_wp2
              go_roundw
              case rel => exact ⟨j + 1, a4, c4, by omega, by go_num, by first | rfl | (congr 1), HO4, HB4⟩
              case measure => simp [intOf]; omega
          · rw [decide_eq_false hv] at CV
            have HF := Lib.hid (HBad.out (.inr (.inl hv)))
            clear HBad HGood hu hv
            go_wp2_with (go_at_call 51; refine CV.out.mono ?_; rintro e w2 ⟨rfl, hb2⟩)
            go_ret2
            exact ⟨bl_tr HB.out hb2, .inr ⟨HF.out, rfl⟩⟩
        · have HF := Lib.hid (HBad.out (.inl hu))
          have hxz : (x % 4294967296 != x) = true := by unfold u32c at hu; simp; omega
          have hu2 : ∀ [Inhabited Nat], IntKind.i64.wrap (x % 4294967296) = x % 4294967296 := by intro _; exact IntWalk.i64_in _ (by omega)
          clear HBad HGood hu
          go_wp2
          go_ret2
          exact ⟨HB.out, .inr ⟨HF.out, rfl⟩⟩
      · have ilj : ¬ ((j : Int) < (n : Int)) := by omega
        have ej : l.take j = l := List.take_of_length_le (by rw [HI.out.len]; omega)
        have hjl : j = l.length := by rw [HI.out.len]; omega
        rw [ej] at HO
        have HE := Lib.hid hjl
        have HV := Lib.hid (show VipsN l from ⟨by rw [HI.out.len]; omega, HO.out.2⟩)
        clear ej hjl
        go_wp2
        go_ret2
        refine ⟨HB.out, .inl ⟨HV.out, ao, c1, by rw [HE.out]; rfl, ?_⟩⟩
        rw [← HE.out]
        exact HO.out.1
end Go.Proofs.Ytlmkmbpikhagiaa
