/- Contract of CodecSames: true. Conditions: the messages' rows came in, of at most 2^44 - 512 numbers and 2^47 - 4096 bytes. -/
import Derived.Test.YtbfcgnggcgodhaaCFrames
import Derived.LoopTactic
namespace Go.Proofs.Ytbfcgnggcgodhaa
open Go Go.RowKit
set_option linter.unusedVariables false
set_option linter.unusedSimpArgs false

theorem MAt.put {w : World} {q : Nat} {kind : Int} {a : Option Addr} {n c : Nat} {b : Option Addr} {k d : Nat} (h : MAt w q kind a n c b k d) (p : Addr) (hne : q ≠ p.block) (v : Value) : MAt (w.setCell p v) q kind a n c b k d := by
  have e : (w.setCell p v).heap[q]? = w.heap[q]? := Below.heap_setCell w p v q hne
  have cc : ∀ o u, w.cell? ⟨q, o, none⟩ = some u → (w.setCell p v).cell? ⟨q, o, none⟩ = some u := fun o u h => (World.cell?_of_block (a := ⟨q, o, none⟩) e).trans h
  exact ⟨cc _ _ h.c0, cc _ _ h.c1, cc _ _ h.c2⟩
theorem sms_of {X5 wx : World} {q2 q3 q5 q6 g h n k n' k' c c' d d' c5 d5 : Nat} {kd kr : Int} {a b a' b' a5 b5 : Option Addr} (h1 : MAt X5 q2 kd a n c b k d) (h2 : MAt X5 q3 kr a' n' c' b' k' d') (h3 : MAt X5 q5 kd (some ⟨g, 0, none⟩) n (n + 1) (some ⟨h, 0, none⟩) k (k + 2)) (h4 : MAt X5 q6 kd a5 n c5 b5 0 d5) (hb : Below X5.heap.size X5 wx) :
    wx.cell? ⟨q2, 0, none⟩ = some (.int .i64 kd) ∧ wx.cell? ⟨q2, 1, none⟩ = some (.slice a n c) ∧ wx.cell? ⟨q2, 2, none⟩ = some (.slice b k d) ∧ wx.cell? ⟨q3, 0, none⟩ = some (.int .i64 kr) ∧ wx.cell? ⟨q3, 1, none⟩ = some (.slice a' n' c') ∧ wx.cell? ⟨q3, 2, none⟩ = some (.slice b' k' d') ∧ wx.cell? ⟨q5, 0, none⟩ = some (.int .i64 kd) ∧ wx.cell? ⟨q5, 1, none⟩ = some (.slice (some ⟨g, 0, none⟩) n (n + 1)) ∧ wx.cell? ⟨q5, 2, none⟩ = some (.slice (some ⟨h, 0, none⟩) k (k + 2)) ∧ wx.cell? ⟨q6, 0, none⟩ = some (.int .i64 kd) ∧ wx.cell? ⟨q6, 1, none⟩ = some (.slice a5 n c5) ∧ wx.cell? ⟨q6, 2, none⟩ = some (.slice b5 0 d5) ∧ Below X5.heap.size X5 wx := by
  have g1 := h1.below hb h1.lt
  have g2 := h2.below hb h2.lt
  have g3 := h3.below hb h3.lt
  have g4 := h4.below hb h4.lt
  exact ⟨g1.c0, g1.c1, g1.c2, g2.c0, g2.c1, g2.c2, g3.c0, g3.c1, g3.c2, g4.c0, g4.c1, g4.c2, hb⟩
set_option maxRecDepth 100000 in
set_option maxHeartbeats 2000000 in
theorem samesC_any (m r : Mg) (a : Option Addr) (n c : Nat) (b : Option Addr) (k d : Nat) (a' : Option Addr) (n' c' : Nat) (b' : Option Addr) (k' d' : Nat) (w : World) (hI : MIn w a n c b k d m) (hJ : MIn w a' n' c' b' k' d' r) (hn : n ≤ 17592186043904) (hk : k ≤ 140737488351232) :
    Calls Try.prog 8 #[mval m.kind a n c b k d, mval r.kind a' n' c' b' k' d'] w fun e w' => e = .returned (.bool true) ∧ Below w.heap.size w w' := by
  obtain ⟨W, hW⟩ : ∃ W, W = (w.alloc (mobj m.kind a n c b k d)).alloc (mobj r.kind a' n' c' b' k' d') := ⟨_, rfl⟩
  have hs1 : (w.alloc (mobj m.kind a n c b k d)).heap.size = w.heap.size + 1 := by simp
  have HM : Hid (MAt W w.heap.size m.kind a n c b k d) := Lib.hid (by rw [hW]; exact (MAt.new w m.kind a n c b k d).below (bl_al (Below.refl _ _) _) (by omega))
  have HR : Hid (MAt W (w.heap.size + 1) r.kind a' n' c' b' k' d') := Lib.hid (by rw [hW, ← hs1]; exact MAt.new _ _ _ _ _ _ _ _)
  have HBW : Hid (Below w.heap.size w W) := Lib.hid (by rw [hW]; exact bl_al (bl_al (Below.refl _ _) _) _)
  have HIW := Lib.hid (hI.below HBW.out)
  have HJW := Lib.hid (hJ.below HBW.out)
  have HW := Lib.hid hW
  have HTM := Lib.hid hI.typed
  have HNL := Lib.hid hI.nums.len
  have HKL := Lib.hid hI.data.len
  obtain ⟨q2, hq2⟩ : ∃ q, q = w.heap.size := ⟨_, rfl⟩
  obtain ⟨q3, hq3⟩ : ∃ q, q = w.heap.size + 1 := ⟨_, rfl⟩
  rw [← hq2] at HM
  rw [← hq3] at HR
  have HQ2 := Lib.hid hq2
  have HQ3 := Lib.hid hq3
  obtain ⟨z, hz⟩ : ∃ z : Bool, z = true ↔ m = r := by
    by_cases h : m = r
    · exact ⟨true, by simp [h]⟩
    · exact ⟨false, by simp [h]⟩
  have hnb : n ≤ 4611686018427387904 := by omega
  have CS1 := Lib.hid (fun W (h : MIn W a n c b k d m) (h' : MIn W a' n' c' b' k' d' r) => sameM_t m r a n c b k d a' n' c' b' k' d' W h h' hnb z hz)
  have CR1 := Lib.hid (fun W (h : MIn W a n c b k d m) (h' : MIn W a' n' c' b' k' d' r) => refSame_any m r a n c b k d a' n' c' b' k' d' W h h' hnb z hz)
  have CS2 := Lib.hid (fun W g h (hi : MIn W a n c b k d m) (hc : Cpy W g h n k m) => sameM_t m m a n c b k d (some ⟨g, 0, none⟩) n (n + 1) (some ⟨h, 0, none⟩) k (k + 2) W hi hc.msg hnb true (by simp))
  have CR2 : Hid (∀ (W : World) (a5 : Option Addr) (c5 : Nat) (b5 : Option Addr) (d5 : Nat), MIn W a5 n c5 b5 0 d5 ⟨m.kind, m.nums, []⟩ → MIn W a n c none 0 0 ⟨m.kind, m.nums, []⟩ → Calls Try.prog 20 #[mval m.kind a5 n c5 b5 0 d5, mval m.kind a n c none 0 0] W fun e w' => e = .returned (.bool true) ∧ Below W.heap.size W w') := Lib.hid (fun W a5 c5 b5 d5 h h' => refSame_any ⟨m.kind, m.nums, []⟩ ⟨m.kind, m.nums, []⟩ a5 n c5 b5 0 d5 a n c none 0 0 W h h' hnb true (by simp))
  have CM := Lib.hid (fun W (h : MIn W a n c b k d m) => mine_t m a n c b k d W h hn hk)
  have CV := Lib.hid (fun W g c5 (h : InI W (some ⟨g, 0, none⟩) n c5 m.nums) => make_t m.kind (some ⟨g, 0, none⟩) n c5 m.nums W h hn)
  have CK := Lib.hid (fun W g h (hc : Cpy W g h n k m) (hi : MIn W a n c b k d m) => keptM_t m g h a n c b k d W hi hc.msg hc.mark hc.marks hn hk)
  have HN5 := Lib.hid hnb
  clear hI hJ hW hs1 hq2 hq3 hz hn hk hnb
  go_enter Try.func8, Try.ntmps8
  go_wp2_with fail
  rw [← HW.out, ← HQ3.out, ← HQ2.out]
  refine (alive6_any W).mono ?_
  rintro e w1 ⟨rfl, hb⟩
  have HM1 := Lib.hid (HM.out.below hb HM.out.lt)
  have HR1 := Lib.hid (HR.out.below hb HR.out.lt)
  have HI1 := Lib.hid (HIW.out.below hb)
  have HJ1 := Lib.hid (HJW.out.below hb)
  have HB1 := Lib.hid (bl_tr HBW.out hb)
  clear hb HM HR HIW HJW HBW HW
  obtain ⟨e0, e1, e2⟩ := HM1.out
  go_wp2_with fail
  refine (CM.out w1 HI1.out).mono ?_
  rintro e w2 ⟨g, h, n2, k2, rfl, hn2, hk2, o1, o2, hb⟩
  have hnn : n2 = n := by rw [hn2, HNL.out]
  have hkk : k2 = k := by rw [hk2, HKL.out]
  have hc := Cpy.of o1 o2 hn2 hk2 HTM.out
  subst hnn hkk
  have hb2 := bl_al hb (mobj m.kind (some ⟨g, 0, none⟩) n2 (n2 + 1) (some ⟨h, 0, none⟩) k2 (k2 + 2))
  have HC2 := Lib.hid (hc.below (bl_al (Below.refl _ _) (mobj m.kind (some ⟨g, 0, none⟩) n2 (n2 + 1) (some ⟨h, 0, none⟩) k2 (k2 + 2))))
  have HP2 := Lib.hid (MAt.new w2 m.kind (some ⟨g, 0, none⟩) n2 (n2 + 1) (some ⟨h, 0, none⟩) k2 (k2 + 2))
  have HM2 := Lib.hid (HM1.out.below hb2 HM1.out.lt)
  have HR2 := Lib.hid (HR1.out.below hb2 HR1.out.lt)
  have HI2 := Lib.hid (HI1.out.below hb2)
  have HJ2 := Lib.hid (HJ1.out.below hb2)
  have HB2 := Lib.hid (bl_tr HB1.out hb2)
  obtain ⟨X2, hX2⟩ : ∃ X, X = w2.alloc (mobj m.kind (some ⟨g, 0, none⟩) n2 (n2 + 1) (some ⟨h, 0, none⟩) k2 (k2 + 2)) := ⟨_, rfl⟩
  obtain ⟨q5, hq5⟩ : ∃ q, q = w2.heap.size := ⟨_, rfl⟩
  rw [← hX2] at HC2 HP2 HM2 HR2 HI2 HJ2 HB2
  rw [← hq5] at HP2
  have HXE := Lib.hid hX2
  have HQE := Lib.hid hq5
  clear hn2 hk2 o1 o2 hb hb2 hc hX2 hq5 HM1 HR1 HI1 HJ1 HB1 CM e0 e1 e2
  go_upto_region 4 with fail
  rw [← HXE.out, ← HQE.out]
  clear HXE HQE
  obtain ⟨e0, e1, e2⟩ := HM2.out
  obtain ⟨f0, f1, f2⟩ := HP2.out
  go_wp2_with fail
  refine (CV.out X2 g _ HC2.out.msg.nums).mono ?_
  rintro e w5 ⟨a5, n5, c5, b5, k5, d5, rfl, hn5, hk5, o1, o2, hb⟩
  have hnn : n5 = n2 := by rw [hn5]; exact HNL.out
  have hkk : k5 = 0 := hk5
  have hX := MIn.mk (own_inI o1 hn5.symm HTM.out.nums) (own_in o2 hk5.symm (by intro x hx; cases hx))
  subst hnn hkk
  have hb5 := bl_al hb (mobj m.kind a5 n5 c5 b5 0 d5)
  have hal := bl_al (Below.refl w5.heap.size w5) (mobj m.kind a5 n5 c5 b5 0 d5)
  have HX5 := Lib.hid (hX.below hal)
  have HO5 := Lib.hid (owns_bel o1 hal)
  have HV5 := Lib.hid (MAt.new w5 m.kind a5 n5 c5 b5 0 d5)
  have HC5 := Lib.hid (HC2.out.below hb5)
  have HP5 := Lib.hid (HP2.out.below hb5 HP2.out.lt)
  have HM5 := Lib.hid (HM2.out.below hb5 HM2.out.lt)
  have HR5 := Lib.hid (HR2.out.below hb5 HR2.out.lt)
  have HI5 := Lib.hid (HI2.out.below hb5)
  have HJ5 := Lib.hid (HJ2.out.below hb5)
  have HB5 := Lib.hid hb5
  have HGL : Hid (∀ g cap, (Value.slice a5 n5 c5) = .slice (some ⟨g, 0, none⟩) n5 cap → g ≠ w5.heap.size) := Lib.hid (fun g cap e => Nat.ne_of_lt (own_block o1 e).2)
  obtain ⟨X5, hX5⟩ : ∃ X, X = w5.alloc (mobj m.kind a5 n5 c5 b5 0 d5) := ⟨_, rfl⟩
  obtain ⟨q6, hq6⟩ : ∃ q, q = w5.heap.size := ⟨_, rfl⟩
  rw [← hX5] at HX5 HO5 HV5 HC5 HP5 HM5 HR5 HI5 HJ5 HB5
  rw [← hq6] at HV5 HGL
  have HXE := Lib.hid hX5
  have HQE := Lib.hid hq6
  have HL5 : Hid (m.nums.length = n5) := Lib.hid hn5.symm
  clear hn5 hk5 o1 o2 hb hb5 hal hX hX5 hq6 CV e0 e1 e2 f0 f1 f2
  go_upto_region 5 with fail
  rw [← HXE.out, ← HQE.out]
  clear HXE HQE
  have hd0 : Below X5.heap.size X5 X5.drew := (Below.refl _ _).drew
  have HX6 := Lib.hid (HX5.out)
  have A1 := Lib.hid (fun (U : World) (hu : Below X5.heap.size X5 U) => CS1.out U (HI5.out.below hu) (HJ5.out.below hu))
  have A2 := Lib.hid (fun (U : World) (hu : Below X5.heap.size X5 U) => CR1.out U (HI5.out.below hu) (HJ5.out.below hu))
  have A3 := Lib.hid (fun (U : World) (hu : Below X5.heap.size X5 U) => CS2.out U g h (HI5.out.below hu) (HC5.out.below hu))
  have A4 := Lib.hid (fun (U : World) (hu : Below X5.heap.size X5 U) => CR2.out U a5 c5 b5 d5 (HX5.out.below hu) ⟨HI5.out.nums.below hu, in_nil U⟩)
  have hS0 := sms_of HM5.out HR5.out HP5.out HV5.out hd0
  have zz : (z == z) = true := by simp
  clear CS1 CR1 CS2 CR2
  go_wp2_with fail
  go_region_held3 (fun wx => wx.cell? ⟨q2, 0, none⟩ = some (.int .i64 m.kind) ∧ wx.cell? ⟨q2, 1, none⟩ = some (.slice a n5 c) ∧ wx.cell? ⟨q2, 2, none⟩ = some (.slice b k2 d) ∧ wx.cell? ⟨q3, 0, none⟩ = some (.int .i64 r.kind) ∧ wx.cell? ⟨q3, 1, none⟩ = some (.slice a' n' c') ∧ wx.cell? ⟨q3, 2, none⟩ = some (.slice b' k' d') ∧ wx.cell? ⟨q5, 0, none⟩ = some (.int .i64 m.kind) ∧ wx.cell? ⟨q5, 1, none⟩ = some (.slice (some ⟨g, 0, none⟩) n5 (n5 + 1)) ∧ wx.cell? ⟨q5, 2, none⟩ = some (.slice (some ⟨h, 0, none⟩) k2 (k2 + 2)) ∧ wx.cell? ⟨q6, 0, none⟩ = some (.int .i64 m.kind) ∧ wx.cell? ⟨q6, 1, none⟩ = some (.slice a5 n5 c5) ∧ wx.cell? ⟨q6, 2, none⟩ = some (.slice b5 0 d5) ∧ Below X5.heap.size X5 wx) (first | (with_reducible exact hS0) | (with_reducible exact sms_of HM5.out HR5.out HP5.out HV5.out h7) | (with_reducible exact sms_of HM5.out HR5.out HP5.out HV5.out h8) | (with_reducible exact sms_of HM5.out HR5.out HP5.out HV5.out h9) | (with_reducible exact sms_of HM5.out HR5.out HP5.out HV5.out h10) | (with_reducible assumption) | fail)
    (first | (go_at_call 23; (with_reducible refine (A1.out _ hd0).mono ?_); rintro e w7 ⟨rfl, hb⟩; have h7 := bl_tr hd0 hb) | (go_at_call 20; (with_reducible refine (A2.out _ h7).mono ?_); rintro e w8 ⟨rfl, hb⟩; have h8 := bl_tr h7 hb) | (go_at_call 23; (with_reducible refine (A3.out _ h8).mono ?_); rintro e w9 ⟨rfl, hb⟩; have h9 := bl_tr h8 hb) | (go_at_call 20; (with_reducible refine (A4.out _ h9).mono ?_); rintro e w10 ⟨rfl, hb⟩; have h10 := bl_tr h9 hb) | fail)
  all_goals
    rename_i hHeld
    have HW10 := Lib.hid (bl_tr HB5.out h10)
    have HO10 := Lib.hid (owns_bel HO5.out h10)
    have HV10 := Lib.hid (HV5.out.below h10 HV5.out.lt)
    have hnb := HN5.out
    clear hHeld h10 h9 h8 h7 hb hd0 hS0 A1 A2 A3 A4 HX5 HX6 HO5 HV5 HC5 HP5 HM5 HR5 HI5 HJ5 HB5
    obtain ⟨v0, v1, v2⟩ := HV10.out
    go_wp2
    go_loopw [8, 42] (fun v i wr => ∃ (j : Nat) (M : List Int), j ≤ n5 ∧ i = .int .i64 j ∧ Hid (M.length = n5) ∧ Hid (wr.ownsRow X2.heap.size 3 1 (.slice a5 n5 c5) n5 (i64s M)) ∧ Hid (MAt wr q6 m.kind a5 n5 c5 b5 0 d5) ∧ Hid (Below X2.heap.size X2 wr)) (fun _ i _ => n5 - (intOf i).toNat)
    case atStart => exact ⟨0, _, by omega, rfl, HL5, HO10, HV10, HW10⟩
    case round =>
      obtain ⟨j, M, hj, rfl, hM, hO, hV, hB⟩ := hrel
      clear HO10 HV10 HW10 v0 v1 v2
      obtain ⟨v0, v1, v2⟩ := hV.out
      by_cases hlt : j < n5
      · obtain ⟨g5, cap5, hv, hg5⟩ := own_shape hO.out (by omega)
        have hne := HGL.out g5 cap5 hv
        simp only [Value.slice.injEq, true_and] at hv
        obtain ⟨rfl, rfl⟩ := hv
        have hcell := (hO.out.cellAt j (by omega)).trans (i64s_at (by rw [hM.out]; exact hlt))
        have hfr := hO.out.frozenAt j
        obtain ⟨x, hx⟩ : ∃ x, x = M.getD j 0 := ⟨_, rfl⟩
        rw [← hx] at hcell
        have ilt : (j : Int) < (n5 : Int) := by omega
        have HNE := Lib.hid hne
        clear hx hne
        go_wp2
        go_roundw
        case rel => exact ⟨j + 1, M.set j 0, by omega, by go_num, Lib.hid (by rw [List.length_set]; exact hM.out), Lib.hid (by have h1 := (hO.out.stored j (.int .i64 0)).1; rwa [i64s_set] at h1), Lib.hid (hV.out.put _ (fun e => HNE.out e.symm) _), Lib.hid (hB.out.setCell hg5 _)⟩
        case measure => simp [intOf]; omega
      · have HC11 := Lib.hid (HC2.out.below hB.out)
        have HI11 := Lib.hid (HI2.out.below hB.out)
        have HB11 := Lib.hid (bl_tr HB2.out hB.out)
        have ilt : ¬ (j : Int) < (n5 : Int) := by omega
        obtain ⟨e0, e1, e2⟩ := HM2.out.below hB.out HM2.out.lt
        obtain ⟨f0, f1, f2⟩ := HP2.out.below hB.out HP2.out.lt
        go_wp2_with fail
        refine (CK.out _ g h HC11.out HI11.out).mono ?_
        rintro e w12 ⟨rfl, hb⟩
        have HB12 := Lib.hid (bl_tr HB11.out hb)
        clear hb
        go_wp2
        go_ret
        exact ⟨rfl, HB12.out⟩
end Go.Proofs.Ytbfcgnggcgodhaa
