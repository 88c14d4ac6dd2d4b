/- Contract of the statements' kept: a copy says what the message says, marks and all. Conditions: as mine leaves it. -/
import Derived.Test.YtbfcgnggcgodhaaMrk
import Derived.Test.YtbfcgnggcgodhaaMgG
import Derived.Deep.RegionHeld3
import Derived.Deep.CutRange
namespace Go.Proofs.Ytbfcgnggcgodhaa
open Go Go.RowKit
set_option linter.unusedVariables false
set_option linter.unusedSimpArgs false

theorem kpt_of {W wx : World} {q0 q1 g h n k : Nat} {kd : Int} {a : Option Addr} {c : Nat} {b : Option Addr} {d : Nat} (h1 : MAt W q0 kd (some ⟨g, 0, none⟩) n (n + 1) (some ⟨h, 0, none⟩) k (k + 2)) (h2 : MAt W q1 kd a n c b k d) (h3 : W.cell? ⟨g, n, none⟩ = some (.int .i64 (-77))) (hb : Below W.heap.size W wx) :
    wx.cell? ⟨q0, 0, none⟩ = some (.int .i64 kd) ∧ wx.cell? ⟨q0, 1, none⟩ = some (.slice (some ⟨g, 0, none⟩) n (n + 1)) ∧ wx.cell? ⟨q0, 2, none⟩ = some (.slice (some ⟨h, 0, none⟩) k (k + 2)) ∧ wx.cell? ⟨q1, 0, none⟩ = some (.int .i64 kd) ∧ wx.cell? ⟨q1, 1, none⟩ = some (.slice a n c) ∧ wx.cell? ⟨q1, 2, none⟩ = some (.slice b k d) ∧ wx.cell? ⟨g, n, none⟩ = some (.int .i64 (-77)) ∧ Below W.heap.size W wx := by
  have g1 := h1.below hb h1.lt
  have g2 := h2.below hb h2.lt
  exact ⟨g1.c0, g1.c1, g1.c2, g2.c0, g2.c1, g2.c2, cell_later hb h3, hb⟩
set_option maxRecDepth 100000 in
set_option maxHeartbeats 2000000 in
theorem keptM_t (m : Mg) (g h : Nat) (a : Option Addr) (n c : Nat) (b : Option Addr) (k d : Nat) (w : World) (hI : MIn w a n c b k d m) (hC : MIn w (some ⟨g, 0, none⟩) n (n + 1) (some ⟨h, 0, none⟩) k (k + 2) m) (hm : w.cell? ⟨g, n, none⟩ = some (.int .i64 (-77))) (hM : Marked w h k m.data) (hn : n ≤ 17592186043904) (hk : k ≤ 140737488351232) :
    Calls Try.prog 16 #[mval m.kind (some ⟨g, 0, none⟩) n (n + 1) (some ⟨h, 0, none⟩) k (k + 2), mval m.kind a n c b k d] w fun e w' => e = .returned (.bool true) ∧ Below w.heap.size w w' := by
  obtain ⟨W, hW⟩ : ∃ W, W = (w.alloc (mobj m.kind (some ⟨g, 0, none⟩) n (n + 1) (some ⟨h, 0, none⟩) k (k + 2))).alloc (mobj m.kind a n c b k d) := ⟨_, rfl⟩
  have hs1 : (w.alloc (mobj m.kind (some ⟨g, 0, none⟩) n (n + 1) (some ⟨h, 0, none⟩) k (k + 2))).heap.size = w.heap.size + 1 := by simp
  have HM : Hid (MAt W w.heap.size m.kind (some ⟨g, 0, none⟩) n (n + 1) (some ⟨h, 0, none⟩) k (k + 2)) := Lib.hid (by rw [hW]; exact (MAt.new w m.kind _ _ _ _ _ _).below (bl_al (Below.refl _ _) _) (by omega))
  have HR : Hid (MAt W (w.heap.size + 1) m.kind a n c b k d) := Lib.hid (by rw [hW, ← hs1]; exact MAt.new _ _ _ _ _ _ _ _)
  have HBW : Hid (Below w.heap.size w W) := Lib.hid (by rw [hW]; exact bl_al (bl_al (Below.refl _ _) _) _)
  have HIW := Lib.hid (hI.below HBW.out)
  have HCW := Lib.hid (hC.below HBW.out)
  have HMW := Lib.hid (hM.below HBW.out)
  have HKW := Lib.hid (cell_later HBW.out hm)
  have CS := Lib.hid (fun (U : World) (hu : Below W.heap.size W U) => refSame_any m m (some ⟨g, 0, none⟩) n (n + 1) (some ⟨h, 0, none⟩) k (k + 2) a n c b k d U (HCW.out.below hu) (HIW.out.below hu) (by omega) true (by simp))
  have CK := Lib.hid (fun (U : World) (hu : Below W.heap.size W U) => kept_any m.data b k d h U (HIW.out.data.below hu) (HMW.out.below hu) hk)
  have HW := Lib.hid hW
  obtain ⟨q0, hq0⟩ : ∃ q, q = w.heap.size := ⟨_, rfl⟩
  obtain ⟨q1, hq1⟩ : ∃ q, q = w.heap.size + 1 := ⟨_, rfl⟩
  rw [← hq0] at HM
  rw [← hq1] at HR
  have HQ0 := Lib.hid hq0
  have HQ1 := Lib.hid hq1
  have i1 : (n : Int) < (n : Int) + 1 := by omega
  have i2 : (0 : Int) ≤ (n : Int) + 1 := by omega
  have hwr : ∀ [Inhabited Nat], IntKind.i64.wrap ((n : Int) + 1) = (n : Int) + 1 := by intro _; exact IntWalk.i64_in _ (by omega)
  clear hI hC hW hq0 hq1 hs1 hm hM hk
  have hd0 : Below W.heap.size W W.drew := (Below.refl _ _).drew
  have hS0 := kpt_of HM.out HR.out HKW.out hd0
  go_enter Try.func16, Try.ntmps16
  go_wp2_with fail
  rw [← HW.out, ← HQ1.out, ← HQ0.out]
  go_region_held3 (fun wx => wx.cell? ⟨q0, 0, none⟩ = some (.int .i64 m.kind) ∧ wx.cell? ⟨q0, 1, none⟩ = some (.slice (some ⟨g, 0, none⟩) n (n + 1)) ∧ wx.cell? ⟨q0, 2, none⟩ = some (.slice (some ⟨h, 0, none⟩) k (k + 2)) ∧ wx.cell? ⟨q1, 0, none⟩ = some (.int .i64 m.kind) ∧ wx.cell? ⟨q1, 1, none⟩ = some (.slice a n c) ∧ wx.cell? ⟨q1, 2, none⟩ = some (.slice b k d) ∧ wx.cell? ⟨g, n, none⟩ = some (.int .i64 (-77)) ∧ Below W.heap.size W wx) (first | (with_reducible exact hS0) | (with_reducible exact kpt_of HM.out HR.out HKW.out h7) | (with_reducible exact kpt_of HM.out HR.out HKW.out h8) | (with_reducible assumption) | fail)
    (first | (go_at_call 20; (with_reducible refine (CS.out _ hd0).mono ?_); rintro e w7 ⟨rfl, hb⟩; have h7 := bl_tr hd0 hb) | (go_at_call 21; (with_reducible refine (CK.out _ h7).mono ?_); rintro e w8 ⟨rfl, hb⟩; have h8 := bl_tr h7 hb) | fail)
  all_goals
    rename_i hHeld
    have HB8 := Lib.hid (bl_tr HBW.out h8)
    clear hHeld
    go_wp2
    go_ret
    exact ⟨rfl, HB8.out⟩
end Go.Proofs.Ytbfcgnggcgodhaa
