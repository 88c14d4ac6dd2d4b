/- Contract of CodecApart: true. Conditions: the messages' rows came in, of at most 2^62. -/
import Derived.Test.YtbfcgnggcgodhaaMgG
import Derived.Deep.RegionHeld3
import Derived.Deep.RegionWith
import Derived.Deep.CutRange
namespace Go.Proofs.Ytbfcgnggcgodhaa
open Go Go.RowKit
set_option linter.unusedVariables false
set_option linter.unusedSimpArgs false

abbrev wS (w3 : World) (q0 q1 : Nat) (kd kr : Int) (a : Option Addr) (n c : Nat) (b : Option Addr) (k d : Nat) (a' : Option Addr) (n' c' : Nat) (b' : Option Addr) (k' d' : Nat) (a2 : Option Addr) (k2 c2 : Nat) (a3 : Option Addr) (k3 c3 : Nat) (s t : ByteArray) (wx : World) : Prop :=
  wx.cell? ⟨q0, 0, none⟩ = some (.int .i64 kd) ∧ wx.cell? ⟨q0, 1, none⟩ = some (.slice a n c) ∧ wx.cell? ⟨q0, 2, none⟩ = some (.slice b k d) ∧ wx.cell? ⟨q1, 0, none⟩ = some (.int .i64 kr) ∧ wx.cell? ⟨q1, 1, none⟩ = some (.slice a' n' c') ∧ wx.cell? ⟨q1, 2, none⟩ = some (.slice b' k' d') ∧ Below w3.heap.size w3 wx ∧ (convert 23 9 (.slice a2 k2 c2)).run Try.prog wx = .ok (.string s) wx ∧ (convert 23 9 (.slice a3 k3 c3)).run Try.prog wx = .ok (.string t) wx
theorem ws_of {w3 wx : World} {q0 q1 : Nat} {kd kr : Int} {a : Option Addr} {n c : Nat} {b : Option Addr} {k d : Nat} {a' : Option Addr} {n' c' : Nat} {b' : Option Addr} {k' d' : Nat} {a2 : Option Addr} {k2 c2 : Nat} {a3 : Option Addr} {k3 c3 : Nat} {s t : ByteArray} (h1 : MAt w3 q0 kd a n c b k d) (h2 : MAt w3 q1 kr a' n' c' b' k' d') (hA : ∀ U, Below w3.heap.size w3 U → (convert 23 9 (.slice a2 k2 c2)).run Try.prog U = .ok (.string s) U) (hC : ∀ U, Below w3.heap.size w3 U → (convert 23 9 (.slice a3 k3 c3)).run Try.prog U = .ok (.string t) U) (hb : Below w3.heap.size w3 wx) : wS w3 q0 q1 kd kr a n c b k d a' n' c' b' k' d' a2 k2 c2 a3 k3 c3 s t wx := by
  have g1 := h1.below hb h1.lt
  have g2 := h2.below hb h2.lt
  exact ⟨g1.c0, g1.c1, g1.c2, g2.c0, g2.c1, g2.c2, hb, hA _ hb, hC _ hb⟩
theorem ws_keep {w3 wx wy : World} {q0 q1 : Nat} {kd kr : Int} {a : Option Addr} {n c : Nat} {b : Option Addr} {k d : Nat} {a' : Option Addr} {n' c' : Nat} {b' : Option Addr} {k' d' : Nat} {a2 : Option Addr} {k2 c2 : Nat} {a3 : Option Addr} {k3 c3 : Nat} {s t : ByteArray} (h1 : MAt w3 q0 kd a n c b k d) (h2 : MAt w3 q1 kr a' n' c' b' k' d') (hA : ∀ U, Below w3.heap.size w3 U → (convert 23 9 (.slice a2 k2 c2)).run Try.prog U = .ok (.string s) U) (hC : ∀ U, Below w3.heap.size w3 U → (convert 23 9 (.slice a3 k3 c3)).run Try.prog U = .ok (.string t) U) (h : wS w3 q0 q1 kd kr a n c b k d a' n' c' b' k' d' a2 k2 c2 a3 k3 c3 s t wx) (hb : Below wx.heap.size wx wy) : wS w3 q0 q1 kd kr a n c b k d a' n' c' b' k' d' a2 k2 c2 a3 k3 c3 s t wy := ws_of h1 h2 hA hC (bl_tr h.2.2.2.2.2.2.1 hb)
set_option maxRecDepth 100000 in
set_option maxHeartbeats 2000000 in
theorem apartC_any (m r : Mg) (a : Option Addr) (n c : Nat) (b : Option Addr) (k d : Nat) (a' : Option Addr) (n' c' : Nat) (b' : Option Addr) (k' d' : Nat) (w : World) (hI : MIn w a n c b k d m) (hJ : MIn w a' n' c' b' k' d' r) (hn : n ≤ 4611686018427387904) :
    Calls Try.prog 9 #[mval m.kind a n c b k d, mval r.kind a' n' c' b' k' d'] w fun e w' => e = .returned (.bool true) ∧ Below w.heap.size w w' := by
  obtain ⟨W, hW⟩ : ∃ W, W = (w.alloc (mobj m.kind a n c b k d)).alloc (mobj r.kind a' n' c' b' k' d') := ⟨_, rfl⟩
  have hs1 : (w.alloc (mobj m.kind a n c b k d)).heap.size = w.heap.size + 1 := by simp
  have HM : Hid (MAt W w.heap.size m.kind a n c b k d) := Lib.hid (by rw [hW]; exact (MAt.new w m.kind a n c b k d).below (bl_al (Below.refl _ _) _) (by omega))
  have HR : Hid (MAt W (w.heap.size + 1) r.kind a' n' c' b' k' d') := Lib.hid (by rw [hW, ← hs1]; exact MAt.new _ _ _ _ _ _ _ _)
  have HBW : Hid (Below w.heap.size w W) := Lib.hid (by rw [hW]; exact bl_al (bl_al (Below.refl _ _) _) _)
  have HIW := Lib.hid (hI.below HBW.out)
  have HJW := Lib.hid (hJ.below HBW.out)
  have HW := Lib.hid hW
  have htm := hI.typed
  have htr := hJ.typed
  obtain ⟨q0, hq0⟩ : ∃ q, q = w.heap.size := ⟨_, rfl⟩
  obtain ⟨q1, hq1⟩ : ∃ q, q = w.heap.size + 1 := ⟨_, rfl⟩
  rw [← hq0] at HM
  rw [← hq1] at HR
  have HQ0 := Lib.hid hq0
  have HQ1 := Lib.hid hq1
  obtain ⟨R1, E1, f1, ho1⟩ := FOut.some m
  obtain ⟨R2, E2, f2, ho2⟩ := FOut.some r
  have C1 := Lib.hid (fun W (h : MIn W a n c b k d m) => frame_t ho1 a n c b k d W h)
  have C2 := Lib.hid (fun W (h : MIn W a' n' c' b' k' d' r) => frame_t ho2 a' n' c' b' k' d' W h)
  obtain ⟨z, hz⟩ : ∃ z : Bool, z = true ↔ m = r := by
    by_cases h : m = r
    · exact ⟨true, by simp [h]⟩
    · exact ⟨false, by simp [h]⟩
  have CS := Lib.hid (fun W (h : MIn W a n c b k d m) (h' : MIn W a' n' c' b' k' d' r) => sameM_t m r a n c b k d a' n' c' b' k' d' W h h' hn z hz)
  have F1 := Lib.hid (ho1.fit htm)
  have F2 := Lib.hid (ho2.fit htr)
  have hsame : OkM m → OkM r → same R1 R2 = z := fun h1 h2 => by
    have e1 : R1 = frm m := (ho1.resolve_right (fun h => h.1 h1)).2.1
    have e2 : R2 = frm r := (ho2.resolve_right (fun h => h.1 h2)).2.1
    unfold same
    rw [Bool.eq_iff_iff, hz, decide_eq_true_eq, e1, e2]
    exact ⟨fun h => frm_inj h1 htm h2 htr h, fun h => by rw [h]⟩
  have HSM := Lib.hid hsame
  have HO1 := Lib.hid ho1
  have HO2 := Lib.hid ho2
  have start : ∀ (Q : Ending → World → Prop), True := fun _ => trivial
  clear start
  clear hI hJ hW hs1 hq0 hq1 htm htr hz hsame ho1 ho2
  by_cases hlg : k ≤ 131072 ∧ k' ≤ 131072
  · obtain ⟨l1, l2⟩ := hlg
    have L1 := Lib.hid (fun W => large_no k l1 W)
    have L2 := Lib.hid (fun W => large_no k' l2 W)
    clear l1 l2
    go_enter Try.func9, Try.ntmps9
    go_wp2_with fail
    rw [← HW.out, ← HQ1.out, ← HQ0.out]
    refine (alive6_any W).mono ?_
    rintro e w1 ⟨rfl, hb⟩
    have HM1 := Lib.hid (HM.out.below hb HM.out.lt)
    have HR1 := Lib.hid (HR.out.below hb HR.out.lt)
    have HI1 := Lib.hid (HIW.out.below hb)
    have HJ1 := Lib.hid (HJW.out.below hb)
    have HB1 := Lib.hid (bl_tr HBW.out hb)
    clear hb HM HR HIW HJW HBW HW
    obtain ⟨e0, e1, e2⟩ := HM1.out
    obtain ⟨f0, f1', f2'⟩ := HR1.out
    go_wp2_with fail
    refine (L1.out _).mono ?_
    rintro e w' ⟨rfl, rfl⟩
    go_wp2_with fail
    refine (L2.out _).mono ?_
    rintro e w' ⟨rfl, rfl⟩
    go_wp2_with fail
    refine (C1.out w1 HI1.out).mono ?_
    rintro e w2 ⟨a2, k2, c2, rfl, hk2, hown2, hb⟩
    have HM2 := Lib.hid (HM1.out.below hb HM1.out.lt)
    have HR2 := Lib.hid (HR1.out.below hb HR1.out.lt)
    have HI2 := Lib.hid (HI1.out.below hb)
    have HJ2 := Lib.hid (HJ1.out.below hb)
    have HB2 := Lib.hid (bl_tr HB1.out hb)
    have HA2 := Lib.hid (own_in hown2 hk2.symm F1.out)
    clear hb hk2 hown2 HM1 HR1 HI1 HJ1 HB1 C1 L1 L2 e0 e1 e2 f0 f1' f2'
    obtain ⟨e0, e1, e2⟩ := HM2.out
    obtain ⟨f0, f1', f2'⟩ := HR2.out
    go_wp2_with fail
    refine (C2.out w2 HJ2.out).mono ?_
    rintro e w3 ⟨a3, k3, c3, rfl, hk3, hown3, hb⟩
    have HM3 := Lib.hid (HM2.out.below hb HM2.out.lt)
    have HR3 := Lib.hid (HR2.out.below hb HR2.out.lt)
    have HI3 := Lib.hid (HI2.out.below hb)
    have HJ3 := Lib.hid (HJ2.out.below hb)
    have HB3 := Lib.hid (bl_tr HB2.out hb)
    have HA3 := Lib.hid (HA2.out.below hb)
    have HC3 := Lib.hid (own_in hown3 hk3.symm F2.out)
    clear hb hk3 hown3 HM2 HR2 HI2 HJ2 HB2 HA2 C2 e0 e1 e2 f0 f1' f2'
    obtain ⟨e0, e1, e2⟩ := HM3.out
    obtain ⟨f0, f1', f2'⟩ := HR3.out
    have HEA : Hid (∀ U, Below w3.heap.size w3 U → (convert 23 9 (.slice a2 k2 c2)).run Try.prog U = .ok (.string (strOfNums R1)) U) := Lib.hid (fun U h => str_of (HA3.out.below h).here HA3.out.len)
    have HEC : Hid (∀ U, Below w3.heap.size w3 U → (convert 23 9 (.slice a3 k3 c3)).run Try.prog U = .ok (.string (strOfNums R2)) U) := Lib.hid (fun U h => str_of (HC3.out.below h).here HC3.out.len)
    have sq := str_eq F1.out F2.out
    have HSS := Lib.hid sq
    obtain ⟨s, hs⟩ : ∃ s, s = strOfNums R1 := ⟨_, rfl⟩
    obtain ⟨t, ht⟩ : ∃ s, s = strOfNums R2 := ⟨_, rfl⟩
    rw [← hs] at HEA sq
    rw [← ht] at HEC sq
    clear hs ht HSS
    rcases HO1.out with ⟨hok1, -, rfl, -⟩ | ⟨-, -, rfl, -⟩
    · rcases HO2.out with ⟨hok2, -, rfl, -⟩ | ⟨-, -, rfl, -⟩
      · have hss := HSM.out hok1 hok2
        rw [hss] at sq
        have sq2 : ((s.toList == t.toList) == z) = true := by simp [sq]
        have hd0 : Below w3.heap.size w3 w3.drew := (Below.refl _ _).drew
        have sA := HEA.out _ hd0
        have sC := HEC.out _ hd0
        have CS2 := Lib.hid (fun (U : World) (h : Below w3.heap.size w3 U) => CS.out U (HI3.out.below h) (HJ3.out.below h))
        clear hok1 hok2 hss
        go_wp2_with fail
        have hS0 : wS w3 q0 q1 m.kind r.kind a n c b k d a' n' c' b' k' d' a2 k2 c2 a3 k3 c3 s t w3.drew := ws_of HM3.out HR3.out HEA.out HEC.out hd0
        go_region_held3 (fun wx => wx.cell? ⟨q0, 0, none⟩ = some (.int .i64 m.kind) ∧ wx.cell? ⟨q0, 1, none⟩ = some (.slice a n c) ∧ wx.cell? ⟨q0, 2, none⟩ = some (.slice b k d) ∧ wx.cell? ⟨q1, 0, none⟩ = some (.int .i64 r.kind) ∧ wx.cell? ⟨q1, 1, none⟩ = some (.slice a' n' c') ∧ wx.cell? ⟨q1, 2, none⟩ = some (.slice b' k' d') ∧ Below w3.heap.size w3 wx ∧ (convert 23 9 (.slice a2 k2 c2)).run Try.prog wx = .ok (.string s) wx ∧ (convert 23 9 (.slice a3 k3 c3)).run Try.prog wx = .ok (.string t) wx) (first | (with_reducible exact hS0) | (with_reducible exact ws_keep HM3.out HR3.out HEA.out HEC.out (by assumption) (by assumption)) | (with_reducible assumption) | fail)
          (first | (go_at_call 23; (with_reducible refine (CS2.out _ (by assumption)).mono ?_); rintro e w' ⟨rfl, hb⟩; have sA' := HEA.out _ (bl_tr (by assumption) hb); have sC' := HEC.out _ (bl_tr (by assumption) hb)) | fail)
        all_goals
          rename_i hHeld
          have HB4 := Lib.hid (bl_tr HB3.out hHeld.2.2.2.2.2.2.1)
          clear hHeld
          go_wp2
          go_ret
          exact ⟨rfl, HB4.out⟩
      · clear HO1 HO2
        go_wp2_with fail
        go_quiet (fail)
        go_wp2
        go_ret
        exact ⟨rfl, below_drewN HB3.out _⟩
    · clear HO1 HO2
      go_wp2_with fail
      go_quiet (fail)
      go_wp2
      go_ret
      exact ⟨rfl, below_drewN HB3.out _⟩
  · have hcase : 131072 < k ∨ k ≤ 131072 ∧ 131072 < k' := by omega
    rcases hcase with l1 | ⟨l1, l2⟩
    · have L1 := Lib.hid (fun W => large_yes k l1 W)
      clear hlg l1
      go_enter Try.func9, Try.ntmps9
      go_wp2_with fail
      rw [← HW.out, ← HQ1.out, ← HQ0.out]
      refine (alive6_any W).mono ?_
      rintro e w1 ⟨rfl, hb⟩
      have HM1 := Lib.hid (HM.out.below hb HM.out.lt)
      have HB1 := Lib.hid (bl_tr HBW.out hb)
      clear hb
      obtain ⟨e0, e1, e2⟩ := HM1.out
      go_wp2_with fail
      refine (L1.out _).mono ?_
      rintro e w' ⟨rfl, rfl⟩
      go_wp2
      go_ret
      exact ⟨rfl, HB1.out⟩
    · have L1 := Lib.hid (fun W => large_no k l1 W)
      have L2 := Lib.hid (fun W => large_yes k' l2 W)
      clear hlg l1 l2
      go_enter Try.func9, Try.ntmps9
      go_wp2_with fail
      rw [← HW.out, ← HQ1.out, ← HQ0.out]
      refine (alive6_any W).mono ?_
      rintro e w1 ⟨rfl, hb⟩
      have HM1 := Lib.hid (HM.out.below hb HM.out.lt)
      have HR1 := Lib.hid (HR.out.below hb HR.out.lt)
      have HB1 := Lib.hid (bl_tr HBW.out hb)
      clear hb
      obtain ⟨e0, e1, e2⟩ := HM1.out
      obtain ⟨f0, f1', f2'⟩ := HR1.out
      go_wp2_with fail
      refine (L1.out _).mono ?_
      rintro e w' ⟨rfl, rfl⟩
      go_wp2_with fail
      refine (L2.out _).mono ?_
      rintro e w' ⟨rfl, rfl⟩
      go_wp2
      go_ret
      exact ⟨rfl, HB1.out⟩
end Go.Proofs.Ytbfcgnggcgodhaa
