/- A listener's Tick.
 Conditions: those stated. -/
import Derived.Test.YtlmkmbpikhagiaaLiC
namespace Go.Proofs.Ytlmkmbpikhagiaa
open Go Go.RowKit Go.Lib
set_option linter.unusedVariables false
set_option linter.unusedSimpArgs false

/-- Without those muxes. -/
def cutsS (G : List Int) (l : List Se) : List Se := l.filter (fun e => !G.contains e.mux)
theorem cutsS_step (G : List Int) (l : List Se) (k : Int) : cutS k (cutsS G l) = cutsS (G ++ [k]) l := by
  unfold cutS cutsS
  rw [List.filter_filter]
  apply List.filter_congr
  intro e _
  have h : (G ++ [k]).contains e.mux = (G.contains e.mux || e.mux == k) := by rw [Bool.eq_iff_iff]; simp
  rw [h, Bool.not_or, Bool.and_comm]
  rfl
theorem cutsS_end {l : List Se} (hs : SrtS l) (P : Se → Bool) : cutsS (muxesOf P l) l = l.filter (fun e => !P e) := by
  unfold cutsS muxesOf
  apply List.filter_congr
  intro e he
  congr 1
  rw [Bool.eq_iff_iff, List.contains_iff_mem, List.mem_map]
  constructor
  · rintro ⟨x, hx, h⟩
    have := srt_inj hs (List.mem_filter.1 hx).1 he h
    rw [← this]
    exact (List.mem_filter.1 hx).2
  · intro h
    exact ⟨e, List.mem_filter.2 ⟨he, h⟩, rfl⟩
/-- What Tick leaves. -/
def TickL (w : World) (F : Nat → Prop) (B p : Nat) (l : List Se) (now : Int) (e : Ending) (w' : World) : Prop :=
  ∃ a n c, e = .returned (.slice a n c) ∧ n = (muxesOf (goneP now) l).length ∧ w'.ownsRow w.heap.size tyI 1 (.slice a n c) n (i64s (muxesOf (goneP now) l)) ∧ LiTo w F B p (l.filter (fun e => !goneP now e)) w'
theorem fitI_mux {l : List Se} (hf : ∀ e ∈ l, IsMux e.mux) (P : Se → Bool) : fitI (muxesOf P l) := by
  intro x hx
  obtain ⟨e, he, rfl⟩ := List.mem_map.1 hx
  have := hf e (List.mem_filter.1 he).1
  unfold IsMux at this
  omega
set_option maxRecDepth 100000 in
set_option maxHeartbeats 1000000 in
theorem tickL_c (now : Int) (F : Nat → Prop) (B p : Nat) (l : List Se) (w : World) (hL : LiS w F B p l) (hB : B ≤ w.heap.size) :
    Calls Try.prog 23 #[.pointer (some ⟨p, 0, none⟩), .int .i64 now] w (TickL w F B p l now) := by
  have eg : ∀ args w, (callFunc 44 args).run Try.prog w = .ok (.enter 44 args) w := enters_of Try.func44 (by kernel_rfl) rfl
  obtain ⟨W, hW⟩ : ∃ W, W = w.alloc (.cells #[.int .i64 now] tyI) := ⟨_, rfl⟩
  have hBw : Below w.heap.size w W := by rw [hW]; exact bl_al (Below.refl _ _) _
  have hq : W.cell? ⟨w.heap.size, 0, none⟩ = some (.int .i64 now) := (cell_of_row W _ 0 _ _ _ (by rw [hW]; exact heap_alloc_new _ _)).trans rfl
  have CH := Lib.hid (having_c (goneP now) 44 #[.pointer (some ⟨w.heap.size, 0, none⟩)] eg F B p l W (hL.below hBw) (fun W2 x e hb he hr => by
    have h := tick1_c x now w.heap.size W2 ((hb.cell (p := ⟨w.heap.size, 0, none⟩) (block_lt_of_cell hq)).trans hq) (by rw [hr.2.1]; exact (hL.fit e he).2.2)
    have e1 : goneP now e = decide (x.heard + 12 < now) := by unfold goneP; rw [hr.2.1]
    rw [e1]
    exact h))
  have HBw := Lib.hid hBw
  have HW := Lib.hid hW
  have HL := Lib.hid hL
  have HFG := Lib.hid (fitI_mux (fun e he => (hL.fit e he).1) (goneP now))
  have HEND := Lib.hid (cutsS_end hL.srt (goneP now))
  have HEI := Lib.hid (show (muxesOf (goneP now) l).length ≤ 8 by
    unfold muxesOf
    rw [List.length_map]
    exact Nat.le_trans (List.length_filter_le _ _) (muxes_few hL.srt (fun e he => (hL.fit e he).1)))
  clear eg hW hBw hq hL
  go_enter Try.func23, Try.ntmps23
  go_upto_region 1 with fail
  rw [← HW.out]
  go_wp2_with fail
  refine CH.out.mono ?_
  rintro r w1 ⟨a1, n1, c1, rfl, hn1, ho1, hb1⟩
  obtain ⟨G, hG⟩ : ∃ G, G = muxesOf (goneP now) l := ⟨_, rfl⟩
  have hG2 : (l.filter (goneP now)).map (·.mux) = G := hG.symm
  rw [hG2] at hn1 ho1
  rw [← hG] at HFG HEND HEI
  have hn8 : n1 ≤ 8 := by rw [hn1]; exact HEI.out
  have HGG := Lib.hid hG
  have HN1 := Lib.hid hn1
  have HB1 := Lib.hid (bl_tr HBw.out hb1)
  have HO1 : Hid (w1.ownsRow w.heap.size tyI 1 (.slice a1 n1 c1) n1 (i64s G)) := Lib.hid (own_base ho1 HBw.out.size)
  have HT1 : Hid (LiTo w F B p (cutsS (G.take 0) l) w1) := Lib.hid (by
    have e : cutsS (G.take 0) l = l := by unfold cutsS; simp
    rw [e]
    exact HL.out.to HB1.out hB)
  clear hb1 ho1 hn1 hG hG2 CH
  go_wp2
  go_loopw [7, 13] (fun v i wr => ∃ j : Nat, j ≤ n1 ∧ i = .int .i64 j ∧ Hid (wr.ownsRow w.heap.size tyI 1 (.slice a1 n1 c1) n1 (i64s G)) ∧ Hid (LiTo w F B p (cutsS (G.take j) l) wr)) (fun _ i _ => n1 - (intOf i).toNat)
  case atStart => exact ⟨0, by omega, rfl, HO1, HT1⟩
  case round =>
    obtain ⟨j, hj, rfl, HO, HT⟩ := hrel
    obtain ⟨w2, rfl⟩ : ∃ v, v = wr := ⟨_, rfl⟩
    clear HO1 HT1
    by_cases hlj : j < n1
    · have ilj : (j : Int) < (n1 : Int) := by omega
      have hIn := own_inI HO.out (by rw [HN1.out]) HFG.out
      obtain ⟨b1, o1, hab⟩ := in_blockI hIn (by omega)
      subst hab
      have c0 := in_cellI hIn j hlj
      have hlen : j < G.length := by rw [← HN1.out]; exact hlj
      have hxm : i64c (G.getD j 0) := by have := fitI_at HFG.out hlen; unfold i64c; omega
      have HTK := Lib.hid (take_more G 0 hlen)
      obtain ⟨x, hx⟩ : ∃ x, x = G.getD j 0 := ⟨_, rfl⟩
      rw [← hx] at c0 hxm HTK
      obtain ⟨b, hp2, hm2⟩ := HT.out.1.at_
      have cp : w2.cell? ⟨p, 0, none⟩ = some (.map (some b)) := (cell_of_row w2 p 0 _ _ _ hp2).trans rfl
      obtain ⟨es, clock, hobj⟩ := hm2.obj
      obtain ⟨w3, hr, hm3, ht3, hs3⟩ := hm2.drop HT.out.1.srt hxm 0
      have hbp : b ≠ p := fun e => by rw [e] at hobj; rw [hobj] at hp2; cases hp2
      have HO3 := Lib.hid (ht3.own HO.out (fun g hg e => own_map HO.out hobj (by rw [hg, e])))
      have HT3 : Hid (LiTo w F B p (cutsS (G.take (j + 1)) l) w3) := Lib.hid (by
        have e : cutsS (G.take (j + 1)) l = cutS x (cutsS (G.take j) l) := by rw [HTK.out, cutsS_step]
        rw [e]
        have hFb : Gr F w w2 b := hm2.1
        have hgr : Gr F w w3 = Gr F w w2 := by unfold Gr; rw [hs3]
        refine ⟨?_, HT.out.2.trans' ht3 (fun k hk e => ?_)⟩
        · rw [hgr]
          exact ⟨HT.out.1.here, fun k hk => ⟨(HT.out.1.blocks k hk).1, by rw [hs3]; exact (HT.out.1.blocks k hk).2⟩, srt_cut HT.out.1.srt x, fun e he => HT.out.1.fit e (List.mem_filter.1 he).1, b, ht3.at hp2 (fun e => hbp e.symm), hm3⟩
        · rw [e] at hk
          rcases hFb with h | h
          · rw [e]; exact h
          · omega)
      clear hp2 hm2 hobj hm3 ht3 hs3 hIn hx hlen hbp
      go_wp2
      go_roundw
      case rel => exact ⟨j + 1, by omega, by go_num, HO3, HT3⟩
      case measure => simp [intOf]; omega
    · have ilj : ¬ ((j : Int) < (n1 : Int)) := by omega
      have ej : G.take j = G := List.take_of_length_le (by rw [← HN1.out]; omega)
      rw [ej, HEND.out] at HT
      clear ej
      go_wp2
      go_ret
      unfold TickL
      rw [← HGG.out]
      exact ⟨a1, n1, c1, rfl, HN1.out, HO.out, HT.out⟩
theorem tickL_n (now : Int) (w : World) : Calls Try.prog 23 #[.pointer none, .int .i64 now] w fun e w' => e = .returned (.slice none 0 0) ∧ Below w.heap.size w w' := by
  have HB := Lib.hid (bl_al (Below.refl w.heap.size w) (.cells #[.int .i64 now] tyI))
  go_enter Try.func23, Try.ntmps23
  go_wp2_with fail
  refine (having_n _ _).mono ?_
  rintro r w1 ⟨rfl, rfl⟩
  go_wp2
  go_loop [13] (fun v => v = .int .i64 0) (fun _ => 0)
  case atStart => rfl
  case round =>
    obtain rfl := hrel
    go_wp2
    go_ret
    exact ⟨rfl, HB.out⟩
end Go.Proofs.Ytlmkmbpikhagiaa
