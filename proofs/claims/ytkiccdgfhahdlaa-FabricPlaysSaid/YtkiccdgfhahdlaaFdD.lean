/- Nth. -/
import Derived.Test.YtkiccdgfhahdlaaFdB
import Derived.Test.YtkiccdgfhahdlaaFdC
namespace Go.Proofs.Ytkiccdgfhahdlaa
open Go Go.RowKit
set_option linter.unusedVariables false
set_option linter.unusedSimpArgs false

set_option maxRecDepth 100000 in
set_option maxHeartbeats 1000000 in
theorem fnth0_c (P : Option Addr) (n : Int) (w : World) (hP : ∀ W, Tch Non w W → Calls Try.prog 39 #[.pointer P, .int .i64 n] W fun e w' => e = .returned (.tuple #[.int .i64 0, errnoF 6]) ∧ W = w') :
    Calls Try.prog 23 #[.pointer P, .int .i64 n] w (FNth w (lt0, 6)) := by
  obtain ⟨W, hW⟩ : ∃ W, W = w.alloc (.cells zeroL tyL) := ⟨_, rfl⟩
  have hz : Bx W w.heap.size lt0 (.slice none 0 0) := by rw [hW]; exact Bx.new w lt0 _
  have hT : Tch Non w W := by rw [hW]; exact tch_alloc _ _
  have hb : Below w.heap.size w W := by rw [hW]; exact bl_al (Below.refl _ _) _
  obtain ⟨b0, b1, b2, b3, b4⟩ := hz.cell
  have bf := hz.free
  have CP := Lib.hid (hP W hT)
  obtain ⟨q, hq⟩ : ∃ q, q = w.heap.size := ⟨_, rfl⟩
  rw [← hq] at b0 b1 b2 b3 b4 bf hz
  obtain ⟨z0, z1, z2, z3, z4⟩ := (hz.stored lt0 (.slice none 0 0)).cell
  have g1 : w.heap.size ≤ q := by omega
  have HF := Lib.hid (((((hb.setCell (p := ⟨q, 0, none⟩) g1 (.int .i64 0)).setCell (p := ⟨q, 1, none⟩) g1 (.int .i64 0)).setCell (p := ⟨q, 2, none⟩) g1 (.int .i64 0)).setCell (p := ⟨q, 3, none⟩) g1 (.bool false)).setCell (p := ⟨q, 4, none⟩) g1 (.slice none 0 0))
  have HW := Lib.hid hW
  have HQ := Lib.hid hq
  clear hz hT hW hq hP hb
  go_enter Try.func23, Try.ntmps23
  go_upto_region 1 with fail
  rw [← HW.out, ← HQ.out]
  go_wp2_with fail
  refine CP.out.mono ?_
  rintro e w1 ⟨rfl, rfl⟩
  clear CP
  go_wp2
  refine bodyPost_ret (v := .tuple #[lt0.val (.slice none 0 0), errnoF 6]) (by simp [results, Try.results23, go_sem, b0, b1, b2, b3, b4, lt0, Lt.val]) rfl ?_
  exact ⟨_, rfl, World.ownsRow_nil _ _ _ _, HF.out⟩
theorem fnthN_c (n : Int) (w : World) : Calls Try.prog 23 #[.pointer none, .int .i64 n] w (FNth w (lt0, 6)) := fnth0_c none n w (fun W _ => placeN_c n W)
set_option maxRecDepth 100000 in
set_option maxHeartbeats 1000000 in
theorem fnth1_c (B f last : Nat) (F : Nat → Prop) (ls : List Lt) (n : Int) (w : World) (hL : FSt w B F f ls last) (h0 : 0 < ls.length) (h4 : ls.length ≤ 4096) (hp : ∀ l ∈ ls, l.bs.length ≤ 1048576) :
    Calls Try.prog 23 #[.pointer (some ⟨f, 0, none⟩), .int .i64 n] w (FNth w (ls.getD (plc n ls.length) lt0, 0)) := by
  have hj := plc_lt n h0
  have hfit := hL.fits
  obtain ⟨ao, k, c, vs, g, hM, hF, rfl, hk, hkc, hmem, hc, ho⟩ := hL.nthv hj
  subst hk
  obtain ⟨W, hW⟩ : ∃ W, W = w.alloc (.cells zeroL tyL) := ⟨_, rfl⟩
  have hz : Bx W w.heap.size lt0 (.slice none 0 0) := by rw [hW]; exact Bx.new w lt0 _
  have hT : Tch Non w W := by rw [hW]; exact tch_alloc _ _
  have hbW : Below w.heap.size w W := by rw [hW]; exact bl_al (Below.refl _ _) _
  have hsW : W.heap.size = w.heap.size + 1 := by rw [hW]; simp
  have e0 := hT.cell hM.c0 (fun h => h)
  have CP := Lib.hid (place_c B f last F ls n W (hL.keep hT (fun _ _ h => h)) h0 h4)
  obtain ⟨q, hq⟩ : ∃ q, q = w.heap.size := ⟨_, rfl⟩
  rw [← hq] at hz
  obtain ⟨j, hjd⟩ : ∃ j, j = plc n ls.length := ⟨_, rfl⟩
  rw [← hjd] at hj hmem hc ho CP
  rw [← hjd]
  have hc0 := hT.cell (hc 0 (by omega)) (fun h => h)
  have hc1 := hT.cell (hc 1 (by omega)) (fun h => h)
  have hc2 := hT.cell (hc 2 (by omega)) (fun h => h)
  have hc3 := hT.cell (hc 3 (by omega)) (fun h => h)
  have hc4 := hT.cell (hc 4 (by omega)) (fun h => h)
  have hlm : ls.getD j lt0 ∈ ls := by rw [List.getD_eq_getElem?_getD, List.getElem?_eq_getElem hj]; exact List.getElem_mem hj
  have hlb := hp _ hlm
  have hlf := hfit _ hlm
  obtain ⟨l, hl⟩ : ∃ l, l = ls.getD j lt0 := ⟨_, rfl⟩
  obtain ⟨v, hv⟩ : ∃ v, v = vs.getD j undef := ⟨_, rfl⟩
  rw [← hl] at hc0 hc1 hc2 hc3 hlb hlf
  rw [← hv] at hc4
  rw [Nat.add_zero] at hc0
  rw [← hl, ← hv] at ho
  rw [← hl]
  obtain ⟨av, cv, hv2⟩ := own_form ho
  obtain ⟨nb, hnb⟩ : ∃ k, k = l.bs.length := ⟨_, rfl⟩
  rw [← hnb] at hv2 ho
  rw [hv2] at hc4 ho
  have CC := Lib.hid (lclone_c l av nb cv W (own_in (hT.own ho (fun _ _ h => h)) hnb.symm hlf) (by omega))
  have HNB := Lib.hid hnb
  obtain ⟨N, hN⟩ : ∃ N, N = ls.length := ⟨_, rfl⟩
  rw [← hN] at hj e0 hkc h0 h4
  have ij : (j : Int) < (N : Int) := by omega
  have i0 : (0 : Int) ≤ (j : Int) := by omega
  have HW := Lib.hid hW
  have HQ := Lib.hid hq
  have HZ := Lib.hid hz
  have HB := Lib.hid (And.intro hbW hsW)
  clear hfit
  clear hM hF hL hz hT hW hq hmem hc ho hjd hl hv hN hbW hv2 hnb v hp hlm hlb hlf hsW
  unfold Lt.val at CC
  go_enter Try.func23, Try.ntmps23
  go_upto_region 1 with fail
  rw [← HW.out, ← HQ.out]
  go_wp2_with fail
  refine CP.out.mono ?_
  rintro e w1 ⟨rfl, rfl⟩
  clear CP
  go_wp2_with fail
  refine CC.out.mono ?_
  rintro e w3 ⟨a3, c3, rfl, ho, hb⟩
  have z3 := HZ.out.keep (tch_new hb) (fun h => h)
  have hb3 := bl_tr HB.out.1 hb
  obtain ⟨b0, b1, b2, b3, b4⟩ := z3.cell
  have bf := z3.free
  obtain ⟨y0, y1, y2, y3, y4⟩ := (z3.stored l (.slice a3 nb c3)).cell
  have g1 : w.heap.size ≤ q := by have := HQ.out; omega
  have HX := Lib.hid (((((hb3.setCell (p := ⟨q, 0, none⟩) g1 (.int .i64 l.id)).setCell (p := ⟨q, 1, none⟩) g1 (.int .i64 l.frm)).setCell (p := ⟨q, 2, none⟩) g1 (.int .i64 l.dst)).setCell (p := ⟨q, 3, none⟩) g1 (.bool l.ctl)).setCell (p := ⟨q, 4, none⟩) g1 (.slice a3 nb c3))
  have T9 := fun (Y : World) (o : Nat) (u : Value) => (tch_set Y ⟨q, o, none⟩ u)
  have hO := Lib.hid (own_base ((((((T9 w3 0 (.int .i64 l.id)).trans (T9 _ 1 (.int .i64 l.frm))).trans (T9 _ 2 (.int .i64 l.dst))).trans (T9 _ 3 (.bool l.ctl))).trans (T9 _ 4 (.slice a3 nb c3))).own ho (fun k hk (h : k = q) => by have := (ho.lt k hk).1; have := HB.out.2; have := HQ.out; omega)) (show w.heap.size ≤ W.heap.size by have := HB.out.2; omega))
  clear e0 hc0 hc1 hc2 hc3 hc4 CC ho hb hb3 z3
  go_wp2
  refine bodyPost_ret (v := .tuple #[l.val (.slice a3 nb c3), .nilIface]) (by simp [results, Try.results23, go_sem, y0, y1, y2, y3, y4, Lt.val]) rfl ?_
  exact ⟨_, rfl, by have := hO.out; rw [HNB.out] at this ⊢; exact this, HX.out⟩
theorem fnth_c (B f last : Nat) (F : Nat → Prop) (ls : List Lt) (n : Int) (w : World) (hL : FSt w B F f ls last) (h4 : ls.length ≤ 4096) (hn : I64 n) (hp : ∀ l ∈ ls, l.bs.length ≤ 1048576) :
    Calls Try.prog 23 #[.pointer (some ⟨f, 0, none⟩), .int .i64 n] w (FNth w (nthR ls n)) := by
  unfold nthR
  split
  · rename_i h
    subst h
    exact fnth0_c _ n w (fun W ht => place0_c B f last F n W (hL.keep ht (fun _ _ h => h)))
  · rename_i h
    exact fnth1_c B f last F ls n w hL (List.length_pos_iff.2 h) h4 hp
end Go.Proofs.Ytkiccdgfhahdlaa
