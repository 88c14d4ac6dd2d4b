/- Take, its row of letters shortened in place. -/
import Derived.Test.YtkiccdgfhahdlaaFdD
import Derived.Test.YtkiccdgfhahdlaaDlB
namespace Go.Proofs.Ytkiccdgfhahdlaa
open Go Go.RowKit
set_option linter.unusedVariables false
set_option linter.unusedSimpArgs false

theorem fdel_step {w w8 : World} {B m last n c j g : Nat} {ls : List Lt} {vs : List Value} (hM : FsM w B m ls last (some ⟨g, 0, none⟩) n c vs)
    (h8 : w8.ownsRow B tyL 5 (.slice (some ⟨g, 0, none⟩) (n - 1) c) (n - 1) (cellsL (ls.eraseIdx j) (vs.eraseIdx j))) (T : Tch (· = g) w w8) :
    FsM (w8.setCell ⟨m, 0, none⟩ (.slice (some ⟨g, 0, none⟩) (n - 1) c)) B m (ls.eraseIdx j) last (some ⟨g, 0, none⟩) (n - 1) c (vs.eraseIdx j) ∧ Tch (fun k => k = m ∨ k = g) w (w8.setCell ⟨m, 0, none⟩ (.slice (some ⟨g, 0, none⟩) (n - 1) c)) := by
  have hmg : ¬ m = g := fun e => hM.away0 (by rw [e]; rfl)
  have T4 := tch_set w8 ⟨m, 0, none⟩ (.slice (some ⟨g, 0, none⟩) (n - 1) c)
  have e0 := T.cell hM.c0 hmg
  have e1 := T.cell hM.c1 hmg
  have hsub : ∀ u ∈ vs.eraseIdx j, u ∈ vs := fun u hu => List.mem_of_mem_eraseIdx hu
  have haw : ∀ u ∈ vs.eraseIdx j, u.ownBlock ≠ some m := fun u hu => hM.away u (hsub u hu)
  have hag : ∀ u ∈ vs, u.ownBlock ≠ some g := fun u hu => hM.far u hu g rfl
  have hm8 : (Value.slice (some ⟨g, 0, none⟩) (n - 1) c).ownBlock ≠ some m := fun e => hmg (by cases e; rfl)
  refine ⟨⟨World.cell?_setCell_same w8 ⟨m, 0, none⟩ _ e0, (World.cell?_setCell_other _ _ _ _ (fun e => by have := congrArg Addr.off e; simp at this)).trans e1, fun o => by simpa using (frozen_keep T hM.c0 hmg o).trans (hM.free o), hM.hm, ownsRow_setCell_other h8 hm8 _, ?_, haw, hm8⟩, (T.mono (fun _ h => .inr h)).trans (T4.mono (fun _ h => .inl h))⟩
  rw [map_erase]
  exact ((hM.rows.keep T (fun v hv k hk e => hag v hv (by rw [hk, e]))).erase j).keep T4 (fun u hu k hk e => haw u hu (by rw [hk, e]))
set_option maxRecDepth 100000 in
set_option maxHeartbeats 1000000 in
theorem ftake0_c (P : Option Addr) (n : Int) (w : World) (hP : ∀ W, Tch Non w W → Calls Try.prog 39 #[.pointer P, .int .i64 n] W fun e w' => e = .returned (.tuple #[.int .i64 0, errnoF 6]) ∧ W = w') :
    Calls Try.prog 18 #[.pointer P, .int .i64 n] w fun e w' => e = .returned (.tuple #[lt0.val (.slice none 0 0), errnoF 6]) ∧ Below w.heap.size w w' := by
  obtain ⟨W, hW⟩ : ∃ W, W = w.alloc (.cells zeroL tyL) := ⟨_, rfl⟩
  have hz : Bx W w.heap.size lt0 (.slice none 0 0) := by rw [hW]; exact Bx.new w lt0 _
  have hT : Tch Non w W := by rw [hW]; exact tch_alloc _ _
  have hb : Below w.heap.size w W := by rw [hW]; exact bl_al (Below.refl _ _) _
  obtain ⟨b0, b1, b2, b3, b4⟩ := hz.cell
  have bf := hz.free
  have CP := Lib.hid (hP W hT)
  obtain ⟨q, hq⟩ : ∃ q, q = w.heap.size := ⟨_, rfl⟩
  rw [← hq] at b0 b1 b2 b3 b4 bf
  have HF := Lib.hid (setL_below hb (show w.heap.size ≤ q by omega) (.int .i64 0) (.int .i64 0) (.int .i64 0) (.bool false) (.slice none 0 0))
  have HW := Lib.hid hW
  have HQ := Lib.hid hq
  clear hz hT hW hq hP hb
  go_enter Try.func18, Try.ntmps18
  go_upto_region 1 with fail
  rw [← HW.out, ← HQ.out]
  go_wp2_with fail
  refine CP.out.mono ?_
  rintro e w1 ⟨rfl, rfl⟩
  clear CP
  go_wp2
  refine bodyPost_ret (v := .tuple #[lt0.val (.slice none 0 0), errnoF 6]) (by simp [results, Try.results18, go_sem, b0, b1, b2, b3, b4, lt0, Lt.val]) rfl ?_
  exact ⟨rfl, HF.out⟩
set_option maxRecDepth 100000 in
set_option maxHeartbeats 1000000 in
theorem ftake1_c (B f last : Nat) (F : Nat → Prop) (ls : List Lt) (n : Int) (w : World) (hL : FSt w B F f ls last) (hB : B ≤ w.heap.size) (h0 : 0 < ls.length) (h4 : ls.length ≤ 4096) (hp : ∀ l ∈ ls, l.bs.length ≤ 1048576) :
    Calls Try.prog 18 #[.pointer (some ⟨f, 0, none⟩), .int .i64 n] w (FTke w B F f (ls.getD (plc n ls.length) lt0, 0) (ls.eraseIdx (plc n ls.length)) last) := by
  have hj := plc_lt n h0
  have hfit := hL.fits
  obtain ⟨ao, k, c, vs, g, hM, hF, rfl, hk, hkc, hmem, hc, ho⟩ := hL.nthv hj
  obtain ⟨W, hW⟩ : ∃ W, W = w.alloc (.cells zeroL tyL) := ⟨_, rfl⟩
  have hz : Bx W w.heap.size lt0 (.slice none 0 0) := by rw [hW]; exact Bx.new w lt0 _
  have hT : Tch Non w W := by rw [hW]; exact tch_alloc _ _
  have hbW : Below w.heap.size w W := by rw [hW]; exact bl_al (Below.refl _ _) _
  have hsW : W.heap.size = w.heap.size + 1 := by rw [hW]; simp
  have hMW := hM.keep hT (fun h => h) (fun _ _ h => h)
  have e0 := hMW.c0
  have CP := Lib.hid (place_c B f last F ls n W (hL.keep hT (fun _ _ h => h)) h0 h4)
  obtain ⟨j, hjd⟩ : ∃ j, j = plc n ls.length := ⟨_, rfl⟩
  rw [← hjd] at hj hmem hc ho CP
  rw [← hjd]
  have hc0 := hT.cell (hc 0 (by omega)) (fun h => h)
  have hc1 := hT.cell (hc 1 (by omega)) (fun h => h)
  have hc2 := hT.cell (hc 2 (by omega)) (fun h => h)
  have hc3 := hT.cell (hc 3 (by omega)) (fun h => h)
  have hc4 := hT.cell (hc 4 (by omega)) (fun h => h)
  rw [Nat.add_zero] at hc0
  have hlm : ls.getD j lt0 ∈ ls := by rw [List.getD_eq_getElem?_getD, List.getElem?_eq_getElem hj]; exact List.getElem_mem hj
  have hlb := hp _ hlm
  have hlf := hfit _ hlm
  obtain ⟨l, hl⟩ : ∃ l, l = ls.getD j lt0 := ⟨_, rfl⟩
  obtain ⟨v, hv⟩ : ∃ v, v = vs.getD j undef := ⟨_, rfl⟩
  rw [← hl] at hc0 hc1 hc2 hc3 hlb hlf
  rw [← hv] at hc4
  rw [← hl, ← hv] at ho
  rw [← hl]
  obtain ⟨av, cv, hv2⟩ := own_form ho
  obtain ⟨nb, hnb⟩ : ∃ k, k = l.bs.length := ⟨_, rfl⟩
  rw [← hnb] at hv2 ho
  rw [hv2] at hc4 ho
  have CC := Lib.hid (lclone_c l av nb cv W (own_in (hT.own ho (fun _ _ h => h)) hnb.symm hlf) (by omega))
  obtain ⟨q, hq⟩ : ∃ q, q = w.heap.size := ⟨_, rfl⟩
  have HMW := Lib.hid hMW
  have HF := Lib.hid hF
  have HZ := Lib.hid hz
  have hgq : g < q := by have := (hM.row.lt g rfl).2; omega
  have hfq : f < q := by have := hM.lt; omega
  have HLT := Lib.hid (And.intro hgq (And.intro hfq (show f ≠ g from fun e => hM.away0 (by rw [e]; rfl))))
  have HO := Lib.hid (And.intro hbW hB)
  have HK := Lib.hid hL.blocks
  have HNB := Lib.hid hnb
  have HQ := Lib.hid (And.intro hq hsW)
  have HW := Lib.hid hW
  have HD := Lib.hid (fun (Y : World) (hY : FsM Y B f ls last (some ⟨g, 0, none⟩) k c vs) => delete_t B g k c j ls vs Y hY.row hY.vlen hY.rows.cells (by omega) (by omega))
  have ij : (j : Int) < (k : Int) := by omega
  have i0 : (0 : Int) ≤ (j : Int) := by omega
  have v1 : ∀ [Inhabited Nat], IntKind.i64.wrap ((j : Int) + 1) = (j : Int) + 1 := by intro _; rw [IntWalk.i64_in _ (by omega)]
  clear hM hF hL hz hT hbW hMW hk hmem hc ho hjd hl hv hv2 hnb hW hgq hfq v h0 h4 hj hq hsW hB hlm hlb hlf hfit hp
  unfold FTke
  unfold Lt.val at CC
  go_enter Try.func18, Try.ntmps18
  go_upto_region 1 with fail
  rw [← HW.out, ← HQ.out.1]
  go_wp2_with fail
  refine CP.out.mono ?_
  rintro e w1 ⟨rfl, rfl⟩
  clear CP
  go_wp2_with fail
  refine CC.out.mono ?_
  rintro e w3 ⟨a3, c3, rfl, hown3, hb3⟩
  clear CC e0 hc0 hc1 hc2 hc3 hc4
  obtain ⟨Y, hY⟩ : ∃ Y, Y = w3.alloc (.cells #[.int .i64 l.id, .int .i64 l.frm, .int .i64 l.dst, .bool l.ctl, .slice a3 nb c3] tyL) := ⟨_, rfl⟩
  obtain ⟨p, hp⟩ : ∃ p, p = w3.heap.size := ⟨_, rfl⟩
  have hT3 := tch_new hb3
  have hTY : Tch Non w3 Y := by rw [hY]; exact tch_alloc _ _
  have hbY : Below w.heap.size w Y := by rw [hY]; exact bl_al (bl_tr HO.out.1 hb3) _
  have xp : Bx Y p l (.slice a3 nb c3) := by rw [hY, hp]; exact Bx.new w3 l _
  have xq : Bx Y q lt0 (.slice none 0 0) := by rw [HQ.out.1]; exact (HZ.out.keep hT3 (fun h => h)).keep hTY (fun h => h)
  have hMY := (HMW.out.keep hT3 (fun h => h) (fun _ _ h => h)).keep hTY (fun h => h) (fun _ _ h => h)
  have hown4 := hTY.own hown3 (fun _ _ h => h)
  have hpq : q < p := by have := hb3.size; have := HQ.out; omega
  have hYs : Y.heap.size = p + 1 := by rw [hY, hp]; simp
  have y0 := hMY.c0
  have yf := hMY.free
  have CD := Lib.hid (HD.out Y hMY)
  have HM := Lib.hid hMY
  have HBX := Lib.hid (And.intro xp xq)
  have HY := Lib.hid hY
  have HP := Lib.hid (And.intro hp (And.intro hpq hYs))
  have HOW := Lib.hid (And.intro hown4 hbY)
  clear hT3 hTY hbY xp xq hMY hown4 hpq hYs hY hp hown3 hb3 HD
  go_upto_region 5 with fail
  rw [← HY.out, ← HP.out.1]
  go_wp2_with fail
  refine CD.out.mono ?_
  rintro e w2 ⟨rfl, hr, ht⟩
  clear CD
  obtain ⟨hM2, hT2⟩ := fdel_step HM.out hr ht
  have f0 := ht.cell y0 HLT.out.2.2
  have ff := fun o => (frozen_keep ht y0 HLT.out.2.2 o).trans (yf o)
  clear y0 yf
  obtain ⟨Z, hZ⟩ : ∃ Z, Z = w2.setCell ⟨f, 0, none⟩ (.slice (some ⟨g, 0, none⟩) (k - 1) c) := ⟨_, rfl⟩
  rw [← hZ] at hM2 hT2
  have xp := HBX.out.1.keep hT2 (fun h => by have := HLT.out; have := HP.out.2.1; omega)
  have xq := HBX.out.2.keep hT2 (fun h => by have := HLT.out; omega)
  obtain ⟨b0, b1, b2, b3, b4⟩ := xp.cell
  obtain ⟨d0, d1, d2, d3, d4⟩ := xq.cell
  have bf := xp.free
  have df := xq.free
  obtain ⟨z0, z1, z2, z3, z4⟩ := (xq.stored l (.slice a3 nb c3)).cell
  have HZZ := Lib.hid hZ
  have HM2 := Lib.hid (And.intro hM2 hT2)
  clear xp xq hM2 hT2 hr ht hZ
  go_upto_region 6 with fail
  rw [← HZZ.out]
  go_wp2
  refine bodyPost_ret (v := .tuple #[l.val (.slice a3 nb c3), .nilIface]) (by simp [results, Try.results18, go_sem, z0, z1, z2, z3, z4, Lt.val]) rfl ?_
  have TQ := setL_tch Z q (.int .i64 l.id) (.int .i64 l.frm) (.int .i64 l.dst) (.bool l.ctl) (.slice a3 nb c3)
  have hFv : F f := (HF.out f).2 (.inl rfl)
  have hFg : F g := (HF.out g).2 (.inr (.inl rfl))
  have hlt : ∀ k2, F k2 → k2 < q := fun k2 h2 => by have := (HK.out k2 h2).2; have := HQ.out.1; omega
  have hnew : ∀ k2, (Value.slice a3 nb c3).ownBlock = some k2 → q < k2 := fun k2 h2 => by have := (HOW.out.1.lt k2 h2).1; have := HQ.out; omega
  have hF2 : ∀ k2, (k2 = f ∨ RfB (some ⟨g, 0, none⟩) (k - 1) c (vs.eraseIdx j) k2) → F k2 := fun k2 h2 => by
    rcases h2 with h2 | h2 | ⟨u, hu, h2⟩
    · exact (HF.out k2).2 (.inl h2)
    · exact (HF.out k2).2 (.inr (.inl h2))
    · exact (HF.out k2).2 (.inr (.inr ⟨u, List.mem_of_mem_eraseIdx hu, h2⟩))
  have T2 : Tch (fun k => k = f ∨ k = g) w Z := ((tch_new HOW.out.2).mono (fun _ h => h.elim)).trans HM2.out.2
  have TA := T2.trans' TQ (U := (· = q)) (fun k hk e => by have := HQ.out.1; omega)
  have TF := TA.mono (U := F) (fun k h => by rcases h with rfl | rfl; exact hFv; exact hFg)
  have TZ2 : Tch (fun k => k = f ∨ k = g ∨ k = q) Y _ := (HM2.out.2.mono (fun k h => by rcases h with h | h; exact .inl h; exact .inr (.inl h))).trans (TQ.mono (fun k h => .inr (.inr h)))
  refine ⟨_, fun k2 => k2 = f ∨ RfB (some ⟨g, 0, none⟩) (k - 1) c (vs.eraseIdx j) k2, rfl, ?_, fun k2 h2 => ⟨fun h => ?_, .inr ?_⟩, ⟨⟨_, _, _, _, HM2.out.1.keep TQ (fun e => ?_) (fun k2 h2 (e : k2 = q) => ?_), fun _ => Iff.rfl⟩, fun k2 h2 => .inl (hF2 k2 h2), TF⟩⟩
  · have := TZ2.own HOW.out.1 (fun k2 h2 h => by
      have h3 := hnew k2 h2
      rcases h with e | e | e
      · have := HLT.out; omega
      · have := HLT.out; omega
      · omega)
    rw [HNB.out] at this ⊢
    exact own_base this (by have := HO.out.2; have := HQ.out; omega)
  · have := hlt k2 (hF2 k2 h)
    have := hnew k2 h2
    omega
  · have := hnew k2 h2
    have := HQ.out.1
    omega
  · have := HLT.out
    omega
  · have := hlt k2 (hF2 k2 (.inr h2))
    omega
theorem ftakeN_c (n : Int) (w : World) : Calls Try.prog 18 #[.pointer none, .int .i64 n] w fun e w' => (∃ a c, e = .returned (.tuple #[lt0.val (.slice a 0 c), errnoF 6])) ∧ Below w.heap.size w w' :=
  (ftake0_c none n w (fun W _ => placeN_c n W)).mono (fun e w' h => ⟨⟨none, 0, h.1⟩, h.2⟩)
theorem ftake_c (B f last : Nat) (F : Nat → Prop) (ls : List Lt) (n : Int) (w : World) (hL : FSt w B F f ls last) (hB : B ≤ w.heap.size) (h4 : ls.length ≤ 4096) (hn : I64 n) (hp : ∀ l ∈ ls, l.bs.length ≤ 1048576) :
    Calls Try.prog 18 #[.pointer (some ⟨f, 0, none⟩), .int .i64 n] w (FTke w B F f (nthR ls n) (leftR ls n) last) := by
  unfold nthR leftR
  split
  · rename_i h
    subst h
    refine (ftake0_c _ n w (fun W ht => place0_c B f last F n W (hL.keep ht (fun _ _ h => h)))).mono ?_
    rintro e w' ⟨rfl, hb⟩
    exact ⟨_, F, rfl, World.ownsRow_nil _ _ _ _, (fun k hk => by cases hk), hL.keep (tch_new hb) (fun _ _ h => h), fun k hk => .inl hk, (tch_new hb).mono (fun _ h => h.elim)⟩
  · rename_i h
    exact ftake1_c B f last F ls n w hL hB (List.length_pos_iff.2 h) h4 hp
end Go.Proofs.Ytkiccdgfhahdlaa
