/- What a speaker says: say and sayRoutes of the program's.
 Conditions: those stated. -/
import Derived.Test.YtlmkmbpikhagiaaSpB
import Derived.Test.YtlmkmbpikhagiaaQStD
import Derived.Deep.RegionHeld3
import Derived.Deep.CutRange
import Derived.Deep.CutBlock
namespace Go.Proofs.Ytlmkmbpikhagiaa
open Go Go.RowKit Go.Lib
set_option linter.unusedVariables false
set_option linter.unusedSimpArgs false

theorem infoM : (Try.prog.info? tyM).map (fun i => (i.zero, i.size, i.bytes)) = some (some (.agg #[.int .i64 0, .slice none 0 0, .slice none 0 0]), 3, 56) := by kernel_rfl
/-- The numbers of a word. -/
def numsW (boot : Int) (l : List Int) : List Int := boot :: l
theorem numsW_take (boot : Int) (l : List Int) {j : Nat} (hj : j < l.length) : numsW boot (l.take (j + 1)) = numsW boot (l.take j) ++ [l.getD j 0] := by
  unfold numsW
  rw [take_more l 0 hj]
  rfl
theorem fitI_w {boot : Int} {l : List Int} (hb : IsTm boot) (hf : fitA l) : fitI (numsW boot l) := by
  intro x hx
  unfold IsTm at hb
  rcases List.mem_cons.1 hx with rfl | hx
  · omega
  · have := hf x hx
    omega
set_option maxRecDepth 100000 in
set_option maxHeartbeats 4000000 in
theorem say_c (kind : Int) (l : List Int) (a : Option Addr) (n c : Nat) (F : Nat → Prop) (B p : Nat) (boot : Int) (op : Bool) (vips : List Int) (said : List Mg) (w : World) (hS : SpS 78 w F B p boot op vips said) (hB : B ≤ w.heap.size) (hI : InA w a n c l) (hn : n ≤ 39) (hsd : said.length ≤ 100000) :
    Calls Try.prog 41 #[.pointer (some ⟨p, 0, none⟩), .int .i64 kind, .slice a n c] w fun e w' => e = .returned (.tuple #[]) ∧ SpTo 78 w F B p boot op vips (said ++ [⟨kind, numsW boot l, []⟩]) w' := by
  obtain ⟨i0, hi0, hz0, hz1, hz2⟩ := info_parts info3
  obtain ⟨j0, hj0, hy0, hy1, hy2⟩ := info_parts infoM
  obtain ⟨va, vc, sv, hp0, hv, hvF, us, hsv0, hat, hsF⟩ := hS.at_
  have HS := Lib.hid hS
  have HI := Lib.hid hI
  have HP0 := Lib.hid hp0
  have HV := Lib.hid (And.intro hv hvF)
  have HSV0 := Lib.hid (And.intro hsv0 (And.intro hat hsF))
  have HNp0 := Lib.hid (lt_of_block hp0)
  have HSp := Lib.hid (own_not hsv0 hp0 (by decide))
  have hcb : w.cell? ⟨p, 0, none⟩ = some (.int .i64 boot) := (cell_of_row w p 0 _ _ _ hp0).trans rfl
  have HO0 : Hid ((w.alloc (.cells #[.int .i64 boot] 3)).ownsRow w.heap.size 3 1 (.slice (some ⟨w.heap.size, 0, none⟩) (numsW boot (l.take 0)).length 1) (numsW boot (l.take 0)).length (i64s (numsW boot (l.take 0)))) := Lib.hid (own_litI w [boot] #[.int .i64 boot] rfl 1 w.heap.size rfl (Nat.le_refl _) (by unfold maxLen; omega))
  have HB0 := Lib.hid (bl_al (Below.refl w.heap.size w) (.cells #[.int .i64 boot] 3))
  clear hS hI hp0 hv hvF hsv0 hat hsF
  go_enter Try.func41, Try.ntmps41
  go_wp2
  go_loopw [6, 8, 16] (fun v x i wr => ∃ (j : Nat) (ao : Option Addr) (c1 : Nat), j ≤ n ∧ i = .int .i64 j ∧ v = .slice ao (numsW boot (l.take j)).length c1 ∧ Hid (wr.ownsRow w.heap.size 3 1 (.slice ao (numsW boot (l.take j)).length c1) (numsW boot (l.take j)).length (i64s (numsW boot (l.take j)))) ∧ Hid (Below w.heap.size w wr)) (fun _ _ i _ => n - (intOf i).toNat)
  case atStart => exact ⟨0, some ⟨w.heap.size, 0, none⟩, 1, by omega, rfl, rfl, HO0, HB0⟩
  case round =>
    obtain ⟨j, ao, c1, hj, rfl, rfl, HO, HB⟩ := hrel
    obtain ⟨w3, rfl⟩ : ∃ v, v = wr := ⟨_, rfl⟩
    clear HO0 HB0 hcb
    by_cases hlj : j < n
    · have ilj : (j : Int) < (n : Int) := by omega
      obtain ⟨b1, o1, rfl⟩ := in_blockA HI.out (by omega)
      have c0 := in_cellA (HI.out.below HB.out) j hlj
      have hm := numsW_take boot l (j := j) (by rw [HI.out.len]; exact hlj)
      have hx := fitA_at HI.out.fit (j := j) (by rw [HI.out.len]; exact hlj)
      have hk : (numsW boot (l.take j)).length = j + 1 := by unfold numsW; rw [List.length_cons, List.length_take, HI.out.len]; omega
      have hk2 : (numsW boot (l.take (j + 1))).length = j + 1 + 1 := by unfold numsW; rw [List.length_cons, List.length_take, HI.out.len]; omega
      rw [hk] at HO ⊢
      obtain ⟨x, hxx⟩ : ∃ x, x = l.getD j 0 := ⟨_, rfl⟩
      rw [← hxx] at c0 hm hx
      have hwx : ∀ [Inhabited Nat], IntKind.i64.wrap x = x := by intro _; exact IntWalk.i64_in _ (by omega)
      have HM := Lib.hid hm
      have HK2 := Lib.hid hk2
      have hsz : w.heap.size ≤ w3.heap.size := HB.out.size
      clear hxx hx hm hk hk2
      go_wp2_with (at_builtin; refine wpList_append_own _ rfl (.tmp 20) (.tmp 23) 37 rfl w.heap.size 3 i0 (.int .i64 0) 1 8 Try.underlying37 hi0 hz0 hz1 hz2 rfl (by decide) _ (j + 1) (i64s (numsW boot (l.take j))) rfl (HO.out.alloc _) ⟨w3.heap.size, 0, none⟩ 1 1 [.int .i64 x] rfl rfl (cell_one_new w3 _ _) ?c3 ?c4 ?c5 ?c6 ?_)
      case c3 => intro u hu; simp at hu; subst hu; rfl
      case c4 => unfold maxLen; omega
      case c5 => omega
      case c6 => simp; omega
      intro v4 w4 hown hg _
      have HB4 := Lib.hid ((HB.out.alloc hsz (.cells #[.int .i64 x] 3)).grown hg (by simp; omega) (fun k hk => (HO.out.lt k hk).1))
      obtain ⟨a4, c4, rfl⟩ := own_form hown
      have HO4 : Hid (w4.ownsRow w.heap.size 3 1 (.slice a4 (numsW boot (l.take (j + 1))).length c4) (numsW boot (l.take (j + 1))).length (i64s (numsW boot (l.take (j + 1))))) := Lib.hid (by
        rw [HK2.out, HM.out, ← i64s_app]
        exact hown)
      clear hown hg
      go_wp2
      go_roundw
      case rel => exact ⟨j + 1, a4, c4, by omega, by go_num, by rw [HK2.out], HO4, HB4⟩
      case measure => simp [intOf]; omega
    · have ilj : ¬ ((j : Int) < (n : Int)) := by omega
      have ej : l.take j = l := List.take_of_length_le (by rw [HI.out.len]; omega)
      rw [ej] at HO ⊢
      have hk : (numsW boot l).length = n + 1 := by unfold numsW; rw [List.length_cons, HI.out.len]
      rw [hk] at HO ⊢
      have HKL := Lib.hid hk
      have hp : w3.heap[p]? = some (.cells #[.int .i64 boot, .bool op, .slice va vips.length vc, sv] 78 (0, 0)) := (HB.out.block p HNp0.out).trans HP0.out
      have HNp3 := Lib.hid (lt_of_block hp)
      have HNp := Lib.hid (show p < w3.drew.heap.size from lt_of_block hp)
      have hSv := owns_bel HSV0.out.1 HB.out
      have HBd := Lib.hid (show Below w.heap.size w w3.drew from HB.out.drew)
      have HFI := Lib.hid (fitI_w HS.out.boot_ HI.out.fit)
      have CM := Lib.hid (make_t kind ao (n + 1) c1 (numsW boot l) w3.drew (own_inI (show w3.drew.ownsRow w.heap.size 3 1 (.slice ao (n + 1) c1) (n + 1) (i64s (numsW boot l)) from HO.out) HKL.out HFI.out) (by omega))
      have HBd3 := Lib.hid (show Below w3.heap.size w3 w3.drew from (Below.refl _ _).drew)
      have e3 : w3.drew.cell? ⟨p, 3, none⟩ = some sv := (cell_of_row w3.drew p 3 _ _ _ hp).trans rfl
      clear hk ej
      go_upto_region 6 with fail
      refine wp_region_held_drew (S := (fun _ => True)) (by kernel_rfl) trivial (fun hHeld => ?_)
      refine wpAnyH_take (i := 0) (v := ?_) rfl (by kernel_rfl) (by kernel_rfl) (by kernel_rfl) (fun _ _ _ h => h) (Or.inl ⟨by rfl, ?_⟩) (by assumption) ?_
      rotate_left
      · intro wz hSw; (try dsimp only at hSw); (try simp only [List.getElem_toArray, List.getElem_cons_zero, List.getElem_cons_succ]); go_simp; first | done | with_reducible rfl
      try simp only [Act.put, List.setIfInBounds_toArray, List.set_cons_zero, List.set_cons_succ, List.getElem_toArray, List.getElem_cons_zero, List.getElem_cons_succ]
      refine wpAnyH_take (i := 1) (v := ?_) rfl (by kernel_rfl) (by kernel_rfl) (by kernel_rfl) (fun _ _ _ h => h) (Or.inl ⟨by rfl, ?_⟩) (by assumption) ?_
      rotate_left
      · intro wz hSw; (try dsimp only at hSw); (try simp only [List.getElem_toArray, List.getElem_cons_zero, List.getElem_cons_succ]); go_simp; first | done | with_reducible rfl
      try simp only [Act.put, List.setIfInBounds_toArray, List.set_cons_zero, List.set_cons_succ, List.getElem_toArray, List.getElem_cons_zero, List.getElem_cons_succ]
      refine wpAnyH_take (i := 2) (v := ?_) rfl (by kernel_rfl) (by kernel_rfl) (by kernel_rfl) (fun _ _ _ h => h) (Or.inl ⟨by rfl, ?_⟩) (by assumption) ?_
      rotate_left
      · intro wz hSw; (try dsimp only at hSw); (try simp only [List.getElem_toArray, List.getElem_cons_zero, List.getElem_cons_succ]); go_simp; first | done | with_reducible rfl
      try simp only [Act.put, List.setIfInBounds_toArray, List.set_cons_zero, List.set_cons_succ, List.getElem_toArray, List.getElem_cons_zero, List.getElem_cons_succ]
      refine wpAnyH_take (i := 3) (v := ?_) rfl (by kernel_rfl) (by kernel_rfl) (by kernel_rfl) (fun _ _ _ h => h) (Or.inl ⟨by rfl, ?_⟩) (by assumption) ?_
      rotate_left
      · intro wz hSw; (try dsimp only at hSw); (try simp only [List.getElem_toArray, List.getElem_cons_zero, List.getElem_cons_succ]); go_simp; first | done | with_reducible rfl
      try simp only [Act.put, List.setIfInBounds_toArray, List.set_cons_zero, List.set_cons_succ, List.getElem_toArray, List.getElem_cons_zero, List.getElem_cons_succ]
      refine wpAnyH_take (i := 5) (v := ?_) rfl (by kernel_rfl) (by kernel_rfl) (by kernel_rfl) (fun _ _ _ h => h) (Or.inl ⟨by rfl, ?_⟩) (by assumption) ?_
      rotate_left
      · intro wz hSw; (try dsimp only at hSw); (try simp only [List.getElem_toArray, List.getElem_cons_zero, List.getElem_cons_succ]); go_simp; first | done | with_reducible rfl
      try simp only [Act.put, List.setIfInBounds_toArray, List.set_cons_zero, List.set_cons_succ, List.getElem_toArray, List.getElem_cons_zero, List.getElem_cons_succ]
      refine wpAnyH_take (i := 6) (v := ?_) rfl (by kernel_rfl) (by kernel_rfl) (by kernel_rfl) (fun _ _ _ h => h) (Or.inl ⟨by rfl, ?_⟩) (by assumption) ?_
      rotate_left
      · intro wz hSw; (try dsimp only at hSw); (try simp only [List.getElem_toArray, List.getElem_cons_zero, List.getElem_cons_succ]); go_simp; first | done | with_reducible rfl
      try simp only [Act.put, List.setIfInBounds_toArray, List.set_cons_zero, List.set_cons_succ, List.getElem_toArray, List.getElem_cons_zero, List.getElem_cons_succ]
      refine wpAnyH_ready (rs := [4, 7]) (by kernel_rfl) (by simp) ?_
      refine (AllReadyH.cons rfl (fun K hK => ?_) (AllReadyH.cons rfl (fun K hK => ?_) AllReadyH.nil))
      · try simp only [List.getElem_toArray, List.getElem_cons_zero, List.getElem_cons_succ]
        go_simp
        go_wp2_with fail
        refine hK.out _ _ ?_ (fun hHeld2 => ?_)
        · exact trivial
        clear hK K
        try simp only [Act.put, List.setIfInBounds_toArray, List.set_cons_zero, List.set_cons_succ, List.getElem_toArray, List.getElem_cons_zero, List.getElem_cons_succ]
        refine wpAnyH_ready (rs := [7]) (by kernel_rfl) (by simp) ?_
        refine (AllReadyH.cons rfl (fun K hK => ?_) AllReadyH.nil)
        try simp only [List.getElem_toArray, List.getElem_cons_zero, List.getElem_cons_succ]
        go_simp
        refine CM.out.mono ?_
        rintro e w4 ⟨a1, n1, c1, rfl, hn1, ho1, hb1⟩
        have HM1 := Lib.hid hn1
        have HO1 := Lib.hid ho1
        have HB4 := Lib.hid (bl_tr HBd.out hb1)
        have h4p := hb1.block p HNp.out
        have e30 : w4.cell? ⟨p, 3, none⟩ = some sv := (cell_of_row w4 p 3 _ _ _ (h4p.trans hp)).trans rfl
        have e31 : (w4.alloc (.cells #[.int .i64 kind, .slice a1 n1 c1, .slice none 0 0] tyM)).cell? ⟨p, 3, none⟩ = some sv := cell_later (bl_al (Below.refl _ _) _) e30
        clear hn1 ho1
        refine hK.out _ _ ?_ (fun hHeld2 => ?_)
        · exact trivial
        clear hK K
        try simp only [Act.put, List.setIfInBounds_toArray, List.set_cons_zero, List.set_cons_succ, List.getElem_toArray, List.getElem_cons_zero, List.getElem_cons_succ]
        refine wpAnyH_ready (rs := [8]) (by kernel_rfl) (by simp) ?_
        refine (AllReadyH.cons rfl (fun K hK => ?_) AllReadyH.nil)
        try simp only [List.getElem_toArray, List.getElem_cons_zero, List.getElem_cons_succ]
        go_simp
        go_wp2_with fail
        refine hK.out _ _ ?_ (fun hHeld2 => ?_)
        · exact trivial
        clear hK K
        try simp only [Act.put, List.setIfInBounds_toArray, List.set_cons_zero, List.set_cons_succ, List.getElem_toArray, List.getElem_cons_zero, List.getElem_cons_succ]
        refine wpAnyH_ready (rs := [9]) (by kernel_rfl) (by simp) ?_
        refine (AllReadyH.cons rfl (fun K hK => ?_) AllReadyH.nil)
        try simp only [List.getElem_toArray, List.getElem_cons_zero, List.getElem_cons_succ]
        obtain ⟨w5, hw5⟩ : ∃ v, v = w4.alloc (.cells #[.int .i64 kind, .slice a1 n1 c1, .slice none 0 0] tyM) := ⟨_, rfl⟩
        have HB5 := Lib.hid (show Below w.heap.size w w5 by rw [hw5]; exact bl_al HB4.out _)
        have HB35 := Lib.hid (show Below w3.heap.size w3 w5 by rw [hw5]; exact bl_tr HBd3.out (bl_al hb1 _))
        have HOS := Lib.hid (owns_bel hSv HB35.out)
        have hcs : ∀ ad, some (⟨w4.heap.size, 0, none⟩ : Addr) = some ad → ∀ j u, (MC.cs ⟨kind, a1, n1, c1⟩)[j]? = some u → w5.cell? (ad.add j) = some u := fun ad e j u hu => by
          cases e
          rw [hw5, Go.WideShapes.add_plain]
          exact cells_new w4 (MC.cs ⟨kind, a1, n1, c1⟩) tyM (0, 0) j u hu
        rw [← hw5]
        refine wp_append_at rfl (.tmp 30) (.tmp 34) 34 rfl B tyM j0 _ 3 56 Try.underlying34 hj0 hy0 hy1 hy2 rfl (by decide) sv said.length (cellsM us) rfl HOS.out (some ⟨w4.heap.size, 0, none⟩) 1 1 (MC.cs ⟨kind, a1, n1, c1⟩) rfl rfl (fun h => by cases h) hcs (by intro u hu; simp only [MC.cs, List.mem_cons, List.not_mem_nil, or_false] at hu; rcases hu with rfl | rfl | rfl <;> rfl) (by unfold maxLen; omega) (by omega) (Nat.le_trans hB HB5.out.size) ?_
        intro v8 w8 hown8 hg8 hwh8
        have h8 : w8.heap[p]? = some (.cells #[.int .i64 boot, .bool op, .slice va vips.length vc, sv] 78 (0, 0)) := (hg8.block p (by have := HB35.out.size; have := HNp3.out; omega) (fun e => HSp.out e.symm)).trans ((HB35.out.block p HNp3.out).trans hp)
        obtain ⟨a8, c8, rfl⟩ := own_form hown8
        have e08 : w8.cell? ⟨p, 3, none⟩ = some sv := (cell_of_row w8 p 3 _ _ _ h8).trans rfl
        have ef8 := frozen_of_row w8 p 3 _ _ h8
        refine hK.out _ _ ?_ (fun hHeld2 => ?_)
        · exact trivial
        clear hK K
        try simp only [Act.put, List.setIfInBounds_toArray, List.set_cons_zero, List.set_cons_succ, List.getElem_toArray, List.getElem_cons_zero, List.getElem_cons_succ]
        refine wpAnyH_take (i := 10) (v := ?_) rfl (by kernel_rfl) (by kernel_rfl) (by kernel_rfl) (fun _ _ _ h => h) (Or.inl ⟨by rfl, ?_⟩) (by assumption) ?_
        rotate_left
        · intro wz hSw; (try dsimp only at hSw); (try simp only [List.getElem_toArray, List.getElem_cons_zero, List.getElem_cons_succ]); go_simp; first | done | with_reducible rfl
        try simp only [Act.put, List.setIfInBounds_toArray, List.set_cons_zero, List.set_cons_succ, List.getElem_toArray, List.getElem_cons_zero, List.getElem_cons_succ]
        refine wpAnyH_take (i := 11) (v := ?_) rfl (by kernel_rfl) (by kernel_rfl) (by kernel_rfl) (fun _ _ _ h => h) (Or.inl ⟨by rfl, ?_⟩) (by assumption) ?_
        rotate_left
        · intro wz hSw; (try dsimp only at hSw); (try simp only [List.getElem_toArray, List.getElem_cons_zero, List.getElem_cons_succ]); go_simp; first | done | with_reducible rfl
        try simp only [Act.put, List.setIfInBounds_toArray, List.set_cons_zero, List.set_cons_succ, List.getElem_toArray, List.getElem_cons_zero, List.getElem_cons_succ]
        refine wpAnyH_ready (rs := [12]) (by kernel_rfl) (by simp) ?_
        refine (AllReadyH.cons rfl (fun K hK => ?_) AllReadyH.nil)
        try simp only [List.getElem_toArray, List.getElem_cons_zero, List.getElem_cons_succ]
        go_simp
        go_wp2_with fail
        refine hK.out _ _ ?_ (fun hHeld2 => ?_)
        · exact trivial
        clear hK K
        try simp only [Act.put, List.setIfInBounds_toArray, List.set_cons_zero, List.set_cons_succ, List.getElem_toArray, List.getElem_cons_zero, List.getElem_cons_succ]
        refine wpAnyH_done (by kernel_rfl) ?_ _
        have HFIN : Hid (SpTo 78 w F B p boot op vips (said ++ [⟨kind, numsW boot l, []⟩]) (w8.setCell ⟨p, 3, none⟩ (.slice a8 (said.length + 1) c8))) := Lib.hid (SpS.said (by decide) (by decide) (by decide) HS.out hB HP0.out HV.out.1 HV.out.2 HSV0.out.1 HSV0.out.2.1 HSV0.out.2.2 HB5.out hg8 (u := ⟨kind, a1, n1, c1⟩) hown8 hwh8 rfl rfl HM1.out (own_base (owns_bel HO1.out (by rw [hw5]; exact bl_al (Below.refl _ _) _)) HBd.out.size) HFI.out)
        clear hown8 hg8 h8 e08 ef8 hwh8 hw5
        go_wp2
        go_end0
        exact ⟨rfl, HFIN.out⟩
      · try simp only [List.getElem_toArray, List.getElem_cons_zero, List.getElem_cons_succ]
        go_simp
        refine CM.out.mono ?_
        rintro e w4 ⟨a1, n1, c1, rfl, hn1, ho1, hb1⟩
        have HM1 := Lib.hid hn1
        have HO1 := Lib.hid ho1
        have HB4 := Lib.hid (bl_tr HBd.out hb1)
        have h4p := hb1.block p HNp.out
        have e30 : w4.cell? ⟨p, 3, none⟩ = some sv := (cell_of_row w4 p 3 _ _ _ (h4p.trans hp)).trans rfl
        have e31 : (w4.alloc (.cells #[.int .i64 kind, .slice a1 n1 c1, .slice none 0 0] tyM)).cell? ⟨p, 3, none⟩ = some sv := cell_later (bl_al (Below.refl _ _) _) e30
        clear hn1 ho1
        refine hK.out _ _ ?_ (fun hHeld2 => ?_)
        · exact trivial
        clear hK K
        try simp only [Act.put, List.setIfInBounds_toArray, List.set_cons_zero, List.set_cons_succ, List.getElem_toArray, List.getElem_cons_zero, List.getElem_cons_succ]
        refine wpAnyH_ready (rs := [4, 8]) (by kernel_rfl) (by simp) ?_
        refine (AllReadyH.cons rfl (fun K hK => ?_) (AllReadyH.cons rfl (fun K hK => ?_) AllReadyH.nil))
        · try simp only [List.getElem_toArray, List.getElem_cons_zero, List.getElem_cons_succ]
          go_simp
          go_wp2_with fail
          refine hK.out _ _ ?_ (fun hHeld2 => ?_)
          · exact trivial
          clear hK K
          try simp only [Act.put, List.setIfInBounds_toArray, List.set_cons_zero, List.set_cons_succ, List.getElem_toArray, List.getElem_cons_zero, List.getElem_cons_succ]
          refine wpAnyH_ready (rs := [8]) (by kernel_rfl) (by simp) ?_
          refine (AllReadyH.cons rfl (fun K hK => ?_) AllReadyH.nil)
          try simp only [List.getElem_toArray, List.getElem_cons_zero, List.getElem_cons_succ]
          go_simp
          go_wp2_with fail
          refine hK.out _ _ ?_ (fun hHeld2 => ?_)
          · exact trivial
          clear hK K
          try simp only [Act.put, List.setIfInBounds_toArray, List.set_cons_zero, List.set_cons_succ, List.getElem_toArray, List.getElem_cons_zero, List.getElem_cons_succ]
          refine wpAnyH_ready (rs := [9]) (by kernel_rfl) (by simp) ?_
          refine (AllReadyH.cons rfl (fun K hK => ?_) AllReadyH.nil)
          try simp only [List.getElem_toArray, List.getElem_cons_zero, List.getElem_cons_succ]
          obtain ⟨w5, hw5⟩ : ∃ v, v = w4.alloc (.cells #[.int .i64 kind, .slice a1 n1 c1, .slice none 0 0] tyM) := ⟨_, rfl⟩
          have HB5 := Lib.hid (show Below w.heap.size w w5 by rw [hw5]; exact bl_al HB4.out _)
          have HB35 := Lib.hid (show Below w3.heap.size w3 w5 by rw [hw5]; exact bl_tr HBd3.out (bl_al hb1 _))
          have HOS := Lib.hid (owns_bel hSv HB35.out)
          have hcs : ∀ ad, some (⟨w4.heap.size, 0, none⟩ : Addr) = some ad → ∀ j u, (MC.cs ⟨kind, a1, n1, c1⟩)[j]? = some u → w5.cell? (ad.add j) = some u := fun ad e j u hu => by
            cases e
            rw [hw5, Go.WideShapes.add_plain]
            exact cells_new w4 (MC.cs ⟨kind, a1, n1, c1⟩) tyM (0, 0) j u hu
          rw [← hw5]
          refine wp_append_at rfl (.tmp 30) (.tmp 34) 34 rfl B tyM j0 _ 3 56 Try.underlying34 hj0 hy0 hy1 hy2 rfl (by decide) sv said.length (cellsM us) rfl HOS.out (some ⟨w4.heap.size, 0, none⟩) 1 1 (MC.cs ⟨kind, a1, n1, c1⟩) rfl rfl (fun h => by cases h) hcs (by intro u hu; simp only [MC.cs, List.mem_cons, List.not_mem_nil, or_false] at hu; rcases hu with rfl | rfl | rfl <;> rfl) (by unfold maxLen; omega) (by omega) (Nat.le_trans hB HB5.out.size) ?_
          intro v8 w8 hown8 hg8 hwh8
          have h8 : w8.heap[p]? = some (.cells #[.int .i64 boot, .bool op, .slice va vips.length vc, sv] 78 (0, 0)) := (hg8.block p (by have := HB35.out.size; have := HNp3.out; omega) (fun e => HSp.out e.symm)).trans ((HB35.out.block p HNp3.out).trans hp)
          obtain ⟨a8, c8, rfl⟩ := own_form hown8
          have e08 : w8.cell? ⟨p, 3, none⟩ = some sv := (cell_of_row w8 p 3 _ _ _ h8).trans rfl
          have ef8 := frozen_of_row w8 p 3 _ _ h8
          refine hK.out _ _ ?_ (fun hHeld2 => ?_)
          · exact trivial
          clear hK K
          try simp only [Act.put, List.setIfInBounds_toArray, List.set_cons_zero, List.set_cons_succ, List.getElem_toArray, List.getElem_cons_zero, List.getElem_cons_succ]
          refine wpAnyH_take (i := 10) (v := ?_) rfl (by kernel_rfl) (by kernel_rfl) (by kernel_rfl) (fun _ _ _ h => h) (Or.inl ⟨by rfl, ?_⟩) (by assumption) ?_
          rotate_left
          · intro wz hSw; (try dsimp only at hSw); (try simp only [List.getElem_toArray, List.getElem_cons_zero, List.getElem_cons_succ]); go_simp; first | done | with_reducible rfl
          try simp only [Act.put, List.setIfInBounds_toArray, List.set_cons_zero, List.set_cons_succ, List.getElem_toArray, List.getElem_cons_zero, List.getElem_cons_succ]
          refine wpAnyH_take (i := 11) (v := ?_) rfl (by kernel_rfl) (by kernel_rfl) (by kernel_rfl) (fun _ _ _ h => h) (Or.inl ⟨by rfl, ?_⟩) (by assumption) ?_
          rotate_left
          · intro wz hSw; (try dsimp only at hSw); (try simp only [List.getElem_toArray, List.getElem_cons_zero, List.getElem_cons_succ]); go_simp; first | done | with_reducible rfl
          try simp only [Act.put, List.setIfInBounds_toArray, List.set_cons_zero, List.set_cons_succ, List.getElem_toArray, List.getElem_cons_zero, List.getElem_cons_succ]
          refine wpAnyH_ready (rs := [12]) (by kernel_rfl) (by simp) ?_
          refine (AllReadyH.cons rfl (fun K hK => ?_) AllReadyH.nil)
          try simp only [List.getElem_toArray, List.getElem_cons_zero, List.getElem_cons_succ]
          go_simp
          go_wp2_with fail
          refine hK.out _ _ ?_ (fun hHeld2 => ?_)
          · exact trivial
          clear hK K
          try simp only [Act.put, List.setIfInBounds_toArray, List.set_cons_zero, List.set_cons_succ, List.getElem_toArray, List.getElem_cons_zero, List.getElem_cons_succ]
          refine wpAnyH_done (by kernel_rfl) ?_ _
          have HFIN : Hid (SpTo 78 w F B p boot op vips (said ++ [⟨kind, numsW boot l, []⟩]) (w8.setCell ⟨p, 3, none⟩ (.slice a8 (said.length + 1) c8))) := Lib.hid (SpS.said (by decide) (by decide) (by decide) HS.out hB HP0.out HV.out.1 HV.out.2 HSV0.out.1 HSV0.out.2.1 HSV0.out.2.2 HB5.out hg8 (u := ⟨kind, a1, n1, c1⟩) hown8 hwh8 rfl rfl HM1.out (own_base (owns_bel HO1.out (by rw [hw5]; exact bl_al (Below.refl _ _) _)) HBd.out.size) HFI.out)
          clear hown8 hg8 h8 e08 ef8 hwh8 hw5
          go_wp2
          go_end0
          exact ⟨rfl, HFIN.out⟩
        · try simp only [List.getElem_toArray, List.getElem_cons_zero, List.getElem_cons_succ]
          go_simp
          go_wp2_with fail
          refine hK.out _ _ ?_ (fun hHeld2 => ?_)
          · exact trivial
          clear hK K
          try simp only [Act.put, List.setIfInBounds_toArray, List.set_cons_zero, List.set_cons_succ, List.getElem_toArray, List.getElem_cons_zero, List.getElem_cons_succ]
          refine wpAnyH_ready (rs := [4]) (by kernel_rfl) (by simp) ?_
          refine (AllReadyH.cons rfl (fun K hK => ?_) AllReadyH.nil)
          try simp only [List.getElem_toArray, List.getElem_cons_zero, List.getElem_cons_succ]
          go_simp
          go_wp2_with fail
          refine hK.out _ _ ?_ (fun hHeld2 => ?_)
          · exact trivial
          clear hK K
          try simp only [Act.put, List.setIfInBounds_toArray, List.set_cons_zero, List.set_cons_succ, List.getElem_toArray, List.getElem_cons_zero, List.getElem_cons_succ]
          refine wpAnyH_ready (rs := [9]) (by kernel_rfl) (by simp) ?_
          refine (AllReadyH.cons rfl (fun K hK => ?_) AllReadyH.nil)
          try simp only [List.getElem_toArray, List.getElem_cons_zero, List.getElem_cons_succ]
          obtain ⟨w5, hw5⟩ : ∃ v, v = w4.alloc (.cells #[.int .i64 kind, .slice a1 n1 c1, .slice none 0 0] tyM) := ⟨_, rfl⟩
          have HB5 := Lib.hid (show Below w.heap.size w w5 by rw [hw5]; exact bl_al HB4.out _)
          have HB35 := Lib.hid (show Below w3.heap.size w3 w5 by rw [hw5]; exact bl_tr HBd3.out (bl_al hb1 _))
          have HOS := Lib.hid (owns_bel hSv HB35.out)
          have hcs : ∀ ad, some (⟨w4.heap.size, 0, none⟩ : Addr) = some ad → ∀ j u, (MC.cs ⟨kind, a1, n1, c1⟩)[j]? = some u → w5.cell? (ad.add j) = some u := fun ad e j u hu => by
            cases e
            rw [hw5, Go.WideShapes.add_plain]
            exact cells_new w4 (MC.cs ⟨kind, a1, n1, c1⟩) tyM (0, 0) j u hu
          rw [← hw5]
          refine wp_append_at rfl (.tmp 30) (.tmp 34) 34 rfl B tyM j0 _ 3 56 Try.underlying34 hj0 hy0 hy1 hy2 rfl (by decide) sv said.length (cellsM us) rfl HOS.out (some ⟨w4.heap.size, 0, none⟩) 1 1 (MC.cs ⟨kind, a1, n1, c1⟩) rfl rfl (fun h => by cases h) hcs (by intro u hu; simp only [MC.cs, List.mem_cons, List.not_mem_nil, or_false] at hu; rcases hu with rfl | rfl | rfl <;> rfl) (by unfold maxLen; omega) (by omega) (Nat.le_trans hB HB5.out.size) ?_
          intro v8 w8 hown8 hg8 hwh8
          have h8 : w8.heap[p]? = some (.cells #[.int .i64 boot, .bool op, .slice va vips.length vc, sv] 78 (0, 0)) := (hg8.block p (by have := HB35.out.size; have := HNp3.out; omega) (fun e => HSp.out e.symm)).trans ((HB35.out.block p HNp3.out).trans hp)
          obtain ⟨a8, c8, rfl⟩ := own_form hown8
          have e08 : w8.cell? ⟨p, 3, none⟩ = some sv := (cell_of_row w8 p 3 _ _ _ h8).trans rfl
          have ef8 := frozen_of_row w8 p 3 _ _ h8
          refine hK.out _ _ ?_ (fun hHeld2 => ?_)
          · exact trivial
          clear hK K
          try simp only [Act.put, List.setIfInBounds_toArray, List.set_cons_zero, List.set_cons_succ, List.getElem_toArray, List.getElem_cons_zero, List.getElem_cons_succ]
          refine wpAnyH_take (i := 10) (v := ?_) rfl (by kernel_rfl) (by kernel_rfl) (by kernel_rfl) (fun _ _ _ h => h) (Or.inl ⟨by rfl, ?_⟩) (by assumption) ?_
          rotate_left
          · intro wz hSw; (try dsimp only at hSw); (try simp only [List.getElem_toArray, List.getElem_cons_zero, List.getElem_cons_succ]); go_simp; first | done | with_reducible rfl
          try simp only [Act.put, List.setIfInBounds_toArray, List.set_cons_zero, List.set_cons_succ, List.getElem_toArray, List.getElem_cons_zero, List.getElem_cons_succ]
          refine wpAnyH_take (i := 11) (v := ?_) rfl (by kernel_rfl) (by kernel_rfl) (by kernel_rfl) (fun _ _ _ h => h) (Or.inl ⟨by rfl, ?_⟩) (by assumption) ?_
          rotate_left
          · intro wz hSw; (try dsimp only at hSw); (try simp only [List.getElem_toArray, List.getElem_cons_zero, List.getElem_cons_succ]); go_simp; first | done | with_reducible rfl
          try simp only [Act.put, List.setIfInBounds_toArray, List.set_cons_zero, List.set_cons_succ, List.getElem_toArray, List.getElem_cons_zero, List.getElem_cons_succ]
          refine wpAnyH_ready (rs := [12]) (by kernel_rfl) (by simp) ?_
          refine (AllReadyH.cons rfl (fun K hK => ?_) AllReadyH.nil)
          try simp only [List.getElem_toArray, List.getElem_cons_zero, List.getElem_cons_succ]
          go_simp
          go_wp2_with fail
          refine hK.out _ _ ?_ (fun hHeld2 => ?_)
          · exact trivial
          clear hK K
          try simp only [Act.put, List.setIfInBounds_toArray, List.set_cons_zero, List.set_cons_succ, List.getElem_toArray, List.getElem_cons_zero, List.getElem_cons_succ]
          refine wpAnyH_done (by kernel_rfl) ?_ _
          have HFIN : Hid (SpTo 78 w F B p boot op vips (said ++ [⟨kind, numsW boot l, []⟩]) (w8.setCell ⟨p, 3, none⟩ (.slice a8 (said.length + 1) c8))) := Lib.hid (SpS.said (by decide) (by decide) (by decide) HS.out hB HP0.out HV.out.1 HV.out.2 HSV0.out.1 HSV0.out.2.1 HSV0.out.2.2 HB5.out hg8 (u := ⟨kind, a1, n1, c1⟩) hown8 hwh8 rfl rfl HM1.out (own_base (owns_bel HO1.out (by rw [hw5]; exact bl_al (Below.refl _ _) _)) HBd.out.size) HFI.out)
          clear hown8 hg8 h8 e08 ef8 hwh8 hw5
          go_wp2
          go_end0
          exact ⟨rfl, HFIN.out⟩
end Go.Proofs.Ytlmkmbpikhagiaa
