/- Contract of CodecFrames: true. Conditions: the message's rows came in, of at most 2^44 - 512 numbers and 2^47 - 4096 bytes. -/
import Derived.Test.YtbfcgnggcgodhaaMine
import Derived.Test.YtbfcgnggcgodhaaKpt
import Derived.Deep.RegionHeld3
import Derived.Deep.CutRange
namespace Go.Proofs.Ytbfcgnggcgodhaa
open Go Go.RowKit
set_option linter.unusedVariables false
set_option linter.unusedSimpArgs false

/-- A message's copy with its marks. -/
structure Cpy (w : World) (g h n k : Nat) (m : Mg) : Prop where
  msg : MIn w (some ⟨g, 0, none⟩) n (n + 1) (some ⟨h, 0, none⟩) k (k + 2) m
  mark : w.cell? ⟨g, n, none⟩ = some (.int .i64 (-77))
  marks : Marked w h k m.data
theorem Cpy.below {w w' : World} {g h n k : Nat} {m : Mg} (c : Cpy w g h n k m) (hb : Below w.heap.size w w') : Cpy w' g h n k m := ⟨c.msg.below hb, cell_later hb c.mark, c.marks.below hb⟩
theorem Cpy.of {w : World} {B g h n k : Nat} {m : Mg} (o1 : w.ownsRow B 3 1 (.slice (some ⟨g, 0, none⟩) (n + 1) (n + 1)) (n + 1) (i64s (m.nums ++ [-77]))) (o2 : Own w B h (k + 2) (k + 2) (m.data ++ [165, 90])) (hn : n = m.nums.length) (hk : k = m.data.length) (t : TyM m) : Cpy w g h n k m :=
  ⟨⟨(mark_in o1 hn.symm t.nums).1, own_marks o2 hk.symm t.data⟩, (mark_in o1 hn.symm t.nums).2, o2.marked hk.symm⟩
set_option maxRecDepth 100000 in
set_option maxHeartbeats 2000000 in
theorem framesC_any (m : Mg) (a : Option Addr) (n c : Nat) (b : Option Addr) (k d : Nat) (w : World) (hI : MIn w a n c b k d m) (hn : n ≤ 17592186043904) (hk : k ≤ 140737488351232) :
    Calls Try.prog 3 #[mval m.kind a n c b k d] w fun e w' => e = .returned (.bool true) ∧ Below w.heap.size w w' := by
  obtain ⟨W, hW⟩ : ∃ W, W = w.alloc (mobj m.kind a n c b k d) := ⟨_, rfl⟩
  have HM : Hid (MAt W w.heap.size m.kind a n c b k d) := Lib.hid (by rw [hW]; exact MAt.new w m.kind a n c b k d)
  have HBW : Hid (Below w.heap.size w W) := Lib.hid (by rw [hW]; exact bl_al (Below.refl _ _) _)
  have HIW := Lib.hid (hI.below HBW.out)
  have HW := Lib.hid hW
  have htm := hI.typed
  have HTM := Lib.hid htm
  have HNL := Lib.hid hI.nums.len
  have HKL := Lib.hid hI.data.len
  obtain ⟨q0, hq0⟩ : ∃ q, q = w.heap.size := ⟨_, rfl⟩
  rw [← hq0] at HM
  have HQ0 := Lib.hid hq0
  obtain ⟨R, E, f, ho⟩ := FOut.some m
  have C1 := Lib.hid (fun W g h (hc : Cpy W g h n k m) => frame_t ho (some ⟨g, 0, none⟩) n (n + 1) (some ⟨h, 0, none⟩) k (k + 2) W hc.msg)
  have C2 := Lib.hid (fun W (h : MIn W a n c b k d m) => refFrame_t ho a n c b k d W h)
  have CM := Lib.hid (fun W (h : MIn W a n c b k d m) => mine_t m a n c b k d W h hn hk)
  have CN := Lib.hid (fun W => num_fout ho W)
  have CK := Lib.hid (fun W g h (hc : Cpy W g h n k m) (hi : MIn W a n c b k d m) => keptM_t m g h a n c b k d W hi hc.msg hc.mark hc.marks hn hk)
  have F1 := Lib.hid (ho.fit htm)
  clear hI hW hq0 htm ho hn hk
  by_cases hlg : k ≤ 131072
  · have L1 := Lib.hid (fun W => large_no k hlg W)
    clear hlg
    go_enter Try.func3, Try.ntmps3
    go_wp2_with fail
    rw [← HW.out, ← HQ0.out]
    refine (alive6_any W).mono ?_
    rintro e w1 ⟨rfl, hb⟩
    have HM1 := Lib.hid (HM.out.below hb HM.out.lt)
    have HI1 := Lib.hid (HIW.out.below hb)
    have HB1 := Lib.hid (bl_tr HBW.out hb)
    clear hb HM HIW HBW HW
    obtain ⟨e0, e1, e2⟩ := HM1.out
    go_wp2_with fail
    refine (L1.out _).mono ?_
    rintro e w' ⟨rfl, rfl⟩
    go_wp2_with fail
    refine (CM.out w1 HI1.out).mono ?_
    rintro e w2 ⟨g, h, n2, k2, rfl, hn2, hk2, o1, o2, hb⟩
    have hnn : n2 = n := by rw [hn2, HNL.out]
    have hkk : k2 = k := by rw [hk2, HKL.out]
    have hc := Cpy.of o1 o2 hn2 hk2 HTM.out
    subst hnn hkk
    have hb2 := bl_al hb (mobj m.kind (some ⟨g, 0, none⟩) n2 (n2 + 1) (some ⟨h, 0, none⟩) k2 (k2 + 2))
    have HC2 := Lib.hid (hc.below (bl_al (Below.refl _ _) (mobj m.kind (some ⟨g, 0, none⟩) n2 (n2 + 1) (some ⟨h, 0, none⟩) k2 (k2 + 2))))
    have HQ2 := Lib.hid (MAt.new w2 m.kind (some ⟨g, 0, none⟩) n2 (n2 + 1) (some ⟨h, 0, none⟩) k2 (k2 + 2))
    have HM2 := Lib.hid (HM1.out.below hb2 HM1.out.lt)
    have HI2 := Lib.hid (HI1.out.below hb2)
    have HB2 := Lib.hid (bl_tr HB1.out hb2)
    obtain ⟨X2, hX2⟩ : ∃ X, X = w2.alloc (mobj m.kind (some ⟨g, 0, none⟩) n2 (n2 + 1) (some ⟨h, 0, none⟩) k2 (k2 + 2)) := ⟨_, rfl⟩
    obtain ⟨q3, hq3⟩ : ∃ q, q = w2.heap.size := ⟨_, rfl⟩
    rw [← hX2] at HC2 HQ2 HM2 HI2 HB2
    rw [← hq3] at HQ2
    have HXE := Lib.hid hX2
    have HQE := Lib.hid hq3
    clear hn2 hk2 o1 o2 hb hb2 hc hX2 hq3 HM1 HI1 HB1 CM L1 e0 e1 e2
    go_upto_region 6 with fail
    rw [← HXE.out, ← HQE.out]
    clear HXE HQE
    obtain ⟨e0, e1, e2⟩ := HM2.out
    obtain ⟨f0, f1, f2⟩ := HQ2.out
    go_wp2_with fail
    refine (C1.out X2 g h HC2.out).mono ?_
    rintro e w3 ⟨a3, n3, c3, rfl, hn3, o3, hb⟩
    have HC3 := Lib.hid (HC2.out.below hb)
    have HQ3 := Lib.hid (HQ2.out.below hb HQ2.out.lt)
    have HM3 := Lib.hid (HM2.out.below hb HM2.out.lt)
    have HI3 := Lib.hid (HI2.out.below hb)
    have HB3 := Lib.hid (bl_tr HB2.out hb)
    have HA3 := Lib.hid (own_in o3 hn3.symm F1.out)
    clear hb hn3 o3 HC2 HQ2 HM2 HI2 HB2 C1 e0 e1 e2 f0 f1 f2
    obtain ⟨e0, e1, e2⟩ := HM3.out
    obtain ⟨f0, f1, f2⟩ := HQ3.out
    go_wp2_with fail
    refine (C2.out w3 HI3.out).mono ?_
    rintro e w4 ⟨a4, n4, c4, rfl, hn4, o4, hb⟩
    have HC4 := Lib.hid (HC3.out.below hb)
    have HQ4 := Lib.hid (HQ3.out.below hb HQ3.out.lt)
    have HM4 := Lib.hid (HM3.out.below hb HM3.out.lt)
    have HI4 := Lib.hid (HI3.out.below hb)
    have HB4 := Lib.hid (bl_tr HB3.out hb)
    have HA4 := Lib.hid (HA3.out.below hb)
    have HD4 := Lib.hid (own_in o4 hn4.symm F1.out)
    clear hb hn4 o4 HC3 HQ3 HM3 HI3 HB3 HA3 C2 e0 e1 e2 f0 f1 f2
    have sA := str_of HA4.out.here HA4.out.len
    have sD := str_of HD4.out.here HD4.out.len
    obtain ⟨s, hs⟩ : ∃ s, s = strOfNums R := ⟨_, rfl⟩
    rw [← hs] at sA sD
    clear hs
    have ss : (s.toList == s.toList) = true := by simp
    obtain ⟨e0, e1, e2⟩ := HM4.out
    obtain ⟨f0, f1, f2⟩ := HQ4.out
    go_wp2_with fail
    refine (CN.out w4).mono ?_
    rintro e w' ⟨rfl, rfl⟩
    have ff : (f == f) = true := by simp
    go_wp2_with fail
    refine (CK.out w4 g h HC4.out HI4.out).mono ?_
    rintro e w8 ⟨rfl, hb⟩
    have HB8 := Lib.hid (bl_tr HB4.out hb)
    clear hb
    go_wp2
    go_ret
    exact ⟨rfl, HB8.out⟩
  · have L1 := Lib.hid (fun W => large_yes k (by omega) W)
    clear hlg
    go_enter Try.func3, Try.ntmps3
    go_wp2_with fail
    rw [← HW.out, ← HQ0.out]
    refine (alive6_any W).mono ?_
    rintro e w1 ⟨rfl, hb⟩
    have HM1 := Lib.hid (HM.out.below hb HM.out.lt)
    have HB1 := Lib.hid (bl_tr HBW.out hb)
    clear hb
    obtain ⟨e0, e1, e2⟩ := HM1.out
    go_wp2_with fail
    refine (L1.out _).mono ?_
    rintro e w' ⟨rfl, rfl⟩
    go_wp2
    go_ret
    exact ⟨rfl, HB1.out⟩
end Go.Proofs.Ytbfcgnggcgodhaa
