/- What a speaker receives.
 Conditions: those stated. -/
import Derived.Test.YtlmkmbpikhagiaaSpG
namespace Go.Proofs.Ytlmkmbpikhagiaa
open Go Go.RowKit Go.Lib
set_option linter.unusedVariables false
set_option linter.unusedSimpArgs false

/-- Is it a word to a speaker of that boot? -/
def Mine (m : Mg) (boot : Int) : Prop := OkR m ∧ m.nums.getD 0 0 = boot
instance (m : Mg) (boot : Int) : Decidable (Mine m boot) := by unfold Mine; infer_instance
def recO (m : Mg) (boot : Int) (op : Bool) : Bool := if Mine m boot then (if m.kind = 11 then true else if m.kind = 14 then false else op) else op
def recS (m : Mg) (boot : Int) (vips : List Int) (said : List Mg) : List Mg := if Mine m boot ∧ m.kind = 11 then said ++ [⟨12, numsW boot vips, []⟩] else said
set_option maxRecDepth 100000 in
set_option maxHeartbeats 2000000 in
theorem recv_c (m : Mg) (a : Option Addr) (n c : Nat) (b : Option Addr) (k d : Nat) (F : Nat → Prop) (B p : Nat) (boot : Int) (op : Bool) (vips : List Int) (said : List Mg) (w : World) (hS : SpS 78 w F B p boot op vips said) (hB : B ≤ w.heap.size) (hsd : said.length ≤ 100000) (hI : InI w a n c m.nums) (hn : n ≤ 4611686018427387904) :
    Calls Try.prog 14 #[.pointer (some ⟨p, 0, none⟩), mval m.kind a n c b k d] w fun e w' => e = .returned (.tuple #[]) ∧ SpTo 78 w F B p boot (recO m boot op) vips (recS m boot vips said) w' := by
  obtain ⟨W, hW⟩ : ∃ W, w.alloc (mobj m.kind a n c b k d) = W := ⟨_, rfl⟩
  have hat : MAt W w.heap.size m.kind a n c b k d := by rw [← hW]; exact MAt.new _ _ _ _ _ _ _ _
  have hbw : Below w.heap.size w W := by rw [← hW]; exact bl_al (Below.refl _ _) _
  have HBW := Lib.hid hbw
  have HS := Lib.hid hS
  have HSZ : Hid (w.heap.size < W.heap.size) := Lib.hid (by rw [← hW]; simp)
  have CR := Lib.hid (read_c m a n c b k d W (hI.below hbw) hn)
  obtain ⟨q, hq⟩ : ∃ q, q = w.heap.size := ⟨_, rfl⟩
  rw [← hq] at hat
  obtain ⟨e0, e1, e2⟩ := hat
  have HW := Lib.hid hW
  have HQ := Lib.hid hq
  obtain ⟨kind, hkk⟩ : ∃ x, x = m.kind := ⟨_, rfl⟩
  have HK := Lib.hid hkk
  rw [← hkk] at e0 HW CR ⊢
  clear hW hq hI hkk hbw hS
  go_enter Try.func14, Try.ntmps14
  go_upto_region 1 with fail
  rw [HW.out, ← HQ.out]
  go_wp2_with fail
  refine CR.out.mono ?_
  rintro e w2 ⟨hb2, ⟨hv, a2, c2, rfl, ho2⟩ | ⟨hv, rfl⟩⟩
  · have HB2 := Lib.hid (bl_tr HBW.out hb2)
    have HS2 := Lib.hid (HS.out.below HB2.out)
    obtain ⟨va, vc, sv, hp2, _⟩ := HS2.out.at_
    have x0 : w2.cell? ⟨p, 0, none⟩ = some (.int .i64 boot) := (cell_of_row w2 p 0 _ _ _ hp2).trans rfl
    have x1 : w2.cell? ⟨p, 1, none⟩ = some (.bool op) := (cell_of_row w2 p 1 _ _ _ hp2).trans rfl
    have f1 := frozen_of_row w2 p 1 _ _ hp2
    have k0 : w2.cell? ⟨q, 0, none⟩ = some (.int .i64 kind) := (hb2.cell (p := ⟨q, 0, none⟩) (block_lt_of_cell e0)).trans e0
    have HT0 := Lib.hid (HS.out.to HB2.out hB)
    obtain ⟨x, hx⟩ : ∃ x, x = m.nums.getD 0 0 := ⟨_, rfl⟩
    rw [← hx]
    have HX := Lib.hid hx
    have HV := Lib.hid hv
    clear hx hv hb2 ho2 CR e0 e1 e2 hp2
    by_cases hb : x = boot
    · have hbz : (x != boot) = false := by simp [hb]
      have HM := Lib.hid (show Mine m boot from ⟨HV.out, by rw [← HX.out]; exact hb⟩)
      clear hb
      by_cases h11 : kind = 11
      · have z1 : (kind == 11) = true := by simp [h11]
        have E := Lib.hid (show recO m boot op = true ∧ recS m boot vips said = said ++ [⟨12, numsW boot vips, []⟩] from ⟨by unfold recO; rw [if_pos HM.out, if_pos (by rw [← HK.out]; exact h11)], by unfold recS; rw [if_pos ⟨HM.out, by rw [← HK.out]; exact h11⟩]⟩)
        clear h11
        obtain ⟨W3, hW3⟩ : ∃ W, W = w2.setCell ⟨p, 1, none⟩ (.bool true) := ⟨_, rfl⟩
        have HT3 := Lib.hid (show SpTo 78 w2 F B p boot true vips said W3 by rw [hW3]; exact SpS.setO (by decide) (by decide) (by decide) HS2.out (Nat.le_trans hB HB2.out.size) true)
        have CS := Lib.hid (routes_c _ B p boot true vips said W3 HT3.out.1 (Nat.le_trans (Nat.le_trans hB HB2.out.size) HT3.out.2.size) hsd)
        have HW3 := Lib.hid hW3
        clear hW3
        go_upto_region 6 with fail
        rw [← HW3.out]
        go_wp2_with fail
        refine CS.out.mono ?_
        rintro e w4 ⟨rfl, h4⟩
        have HT4 := Lib.hid (HT3.out.trans h4 (Nat.le_trans hB HB2.out.size))
        clear h4 CS x0 x1 f1 k0
        go_wp2
        first | go_end0 | ((try simp only [Exit.inBlock, Exit.then]); refine bodyPost_ret (results_none rfl _ _ _) rfl ?_)
        refine ⟨rfl, ?_⟩
        rw [E.out.1, E.out.2]
        exact ⟨HT4.out.1.gr (fun k hk => by rcases hk with hk | hk; exact .inl hk; exact .inr ⟨Nat.le_trans HB2.out.size hk.1, hk.2⟩) (fun k hk => by
          rcases hk with hk | hk
          · exact HT4.out.1.blocks k (.inl hk)
          · exact ⟨by omega, hk.2⟩), ((tch_new HB2.out).mono (fun _ h => h.elim)).trans HT4.out.2⟩
      · have z1 : (kind == 11) = false := by simp [h11]
        by_cases h14 : kind = 14
        · have z2 : (kind == 14) = true := by simp [h14]
          have E := Lib.hid (show recO m boot op = false ∧ recS m boot vips said = said from ⟨by unfold recO; rw [if_pos HM.out, if_neg (by rw [← HK.out]; exact h11), if_pos (by rw [← HK.out]; exact h14)], by unfold recS; rw [if_neg (fun h => h11 (by rw [HK.out]; exact h.2))]⟩)
          clear h11 h14
          have HT3 := Lib.hid (show SpTo 78 w2 F B p boot false vips said (w2.setCell ⟨p, 1, none⟩ (.bool false)) from SpS.setO (by decide) (by decide) (by decide) HS2.out (Nat.le_trans hB HB2.out.size) false)
          go_wp2
          first | go_end0 | ((try simp only [Exit.inBlock, Exit.then]); refine bodyPost_ret (results_none rfl _ _ _) rfl ?_)
          refine ⟨rfl, ?_⟩
          rw [E.out.1, E.out.2]
          exact ⟨HT3.out.1.gr (fun k hk => by rcases hk with hk | hk; exact .inl hk; exact .inr ⟨Nat.le_trans HB2.out.size hk.1, hk.2⟩) (fun k hk => by
            rcases hk with hk | hk
            · exact HT3.out.1.blocks k (.inl hk)
            · exact ⟨by omega, hk.2⟩), ((tch_new HB2.out).mono (fun _ h => h.elim)).trans HT3.out.2⟩
        · have z2 : (kind == 14) = false := by simp [h14]
          have E := Lib.hid (show recO m boot op = op ∧ recS m boot vips said = said from ⟨by unfold recO; rw [if_pos HM.out, if_neg (by rw [← HK.out]; exact h11), if_neg (by rw [← HK.out]; exact h14)], by unfold recS; rw [if_neg (fun h => h11 (by rw [HK.out]; exact h.2))]⟩)
          clear h11 h14
          go_wp2
          first | go_end0 | ((try simp only [Exit.inBlock, Exit.then]); refine bodyPost_ret (results_none rfl _ _ _) rfl ?_)
          refine ⟨rfl, ?_⟩
          rw [E.out.1, E.out.2]
          exact HT0.out
    · have hbz : (x != boot) = true := by simp [hb]
      have HN := Lib.hid (show ¬ Mine m boot from fun h => hb (by rw [HX.out]; exact h.2))
      have E := Lib.hid (show recO m boot op = op ∧ recS m boot vips said = said from ⟨by unfold recO; rw [if_neg HN.out], by unfold recS; rw [if_neg (fun h => HN.out h.1)]⟩)
      clear hb
      go_wp2
      first | go_end0 | ((try simp only [Exit.inBlock, Exit.then]); refine bodyPost_ret (results_none rfl _ _ _) rfl ?_)
      refine ⟨rfl, ?_⟩
      rw [E.out.1, E.out.2]
      exact HT0.out
  · have HT0 := Lib.hid (HS.out.to (bl_tr HBW.out hb2) hB)
    have HN := Lib.hid (show ¬ Mine m boot from fun h => hv h.1)
    have E := Lib.hid (show recO m boot op = op ∧ recS m boot vips said = said from ⟨by unfold recO; rw [if_neg HN.out], by unfold recS; rw [if_neg (fun h => HN.out h.1)]⟩)
    clear hv hb2 CR e0 e1 e2
    go_wp2
    first | go_end0 | ((try simp only [Exit.inBlock, Exit.then]); refine bodyPost_ret (results_none rfl _ _ _) rfl ?_)
    refine ⟨rfl, ?_⟩
    rw [E.out.1, E.out.2]
    exact HT0.out
set_option maxRecDepth 100000 in
theorem recv_n (m : Mg) (a : Option Addr) (n c : Nat) (b : Option Addr) (k d : Nat) (w : World) (hI : InI w a n c m.nums) (hn : n ≤ 4611686018427387904) :
    Calls Try.prog 14 #[.pointer none, mval m.kind a n c b k d] w fun e w' => e = .returned (.tuple #[]) ∧ Below w.heap.size w w' := by
  obtain ⟨W, hW⟩ : ∃ W, w.alloc (mobj m.kind a n c b k d) = W := ⟨_, rfl⟩
  have hat : MAt W w.heap.size m.kind a n c b k d := by rw [← hW]; exact MAt.new _ _ _ _ _ _ _ _
  have hbw : Below w.heap.size w W := by rw [← hW]; exact bl_al (Below.refl _ _) _
  have HBW := Lib.hid hbw
  have CR := Lib.hid (read_c m a n c b k d W (hI.below hbw) hn)
  obtain ⟨q, hq⟩ : ∃ q, q = w.heap.size := ⟨_, rfl⟩
  rw [← hq] at hat
  obtain ⟨e0, e1, e2⟩ := hat
  have HW := Lib.hid hW
  have HQ := Lib.hid hq
  clear hW hq hI hbw
  go_enter Try.func14, Try.ntmps14
  go_upto_region 1 with fail
  rw [HW.out, ← HQ.out]
  go_wp2_with fail
  refine CR.out.mono ?_
  rintro e w2 ⟨hb2, ⟨hv, a2, c2, rfl, ho2⟩ | ⟨hv, rfl⟩⟩
  · clear hv ho2 CR e0 e1 e2
    go_wp2
    first | go_end0 | ((try simp only [Exit.inBlock, Exit.then]); refine bodyPost_ret (results_none rfl _ _ _) rfl ?_)
    exact ⟨rfl, bl_tr HBW.out hb2⟩
  · clear hv CR e0 e1 e2
    go_wp2
    first | go_end0 | ((try simp only [Exit.inBlock, Exit.then]); refine bodyPost_ret (results_none rfl _ _ _) rfl ?_)
    exact ⟨rfl, bl_tr HBW.out hb2⟩
end Go.Proofs.Ytlmkmbpikhagiaa
