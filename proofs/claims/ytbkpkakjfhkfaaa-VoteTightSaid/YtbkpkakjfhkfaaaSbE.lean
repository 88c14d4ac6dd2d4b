/- The program's store: Drop. Conditions: as it states. -/
import Derived.Test.YtbkpkakjfhkfaaaSbG
import Derived.OrdersHeld
import Derived.Deep.RegionHeld
namespace Go.Proofs.Ytbkpkakjfhkfaaa
open Go Go.RowKit Go.Maps
set_option linter.unusedVariables false
set_option linter.unusedSimpArgs false

/-- Keys in a row, in block b. -/
structure KsIn (w : World) (b n : Nat) (ks : List Ky) : Prop where
  len : ks.length = n
  here : ∀ j, j < n → w.cell? ⟨b, j, none⟩ = some (sv (ks.getD j []))
  big : ∀ k ∈ ks, k.length ≤ maxLen
theorem KsIn.tch {T : Nat → Prop} {w w' : World} {b n : Nat} {ks : List Ky} (h : KsIn w b n ks) (ht : Tch T w w') (hn : ¬ T b) : KsIn w' b n ks :=
  ⟨h.len, fun j hj => ht.cell (h.here j hj) hn, h.big⟩
/-- While keys are dropped: the map has turned behind the number. -/
theorem StK.drop1 {w : World} {B : Nat} {F : Nat → Prop} {p : Nat} {size : Int} {c1 c2 : Option Nat} {l m : List Pr} (h : StK w B F p size (usedP l) c1 c2 l m) (k : Ky) (hk : k.length ≤ maxLen) (ty : TypeId) {u : Nat} (hu : u + sizeAt k l = usedP l) :
    SAt (w.setCell ⟨p, 3, none⟩ (.int .i64 (u : Nat))) p size c1 c2 u ∧ ∃ w4, (Builtin.delete_ #[tyM, tyK] ty #[.map c1, sv k]).run Try.prog (w.setCell ⟨p, 3, none⟩ (.int .i64 (u : Nat))) = .ok (.tuple #[]) w4 ∧
      StK w4 B F p size (usedP (cutP k l)) c1 c2 (cutP k l) m ∧ Tch F w w4 ∧ w4.heap.size = w.heap.size := by
  have hc1 := h.cells.set3 u
  refine ⟨hc1, ?_⟩
  have hT := tch_set w ⟨p, 3, none⟩ (.int .i64 (u : Nat))
  have hno := h.cells.noRow
  have hcur1 : MapO (w.setCell ⟨p, 3, none⟩ (.int .i64 (u : Nat))) F B c1 l := h.cur.tch hT (fun b e hb => (h.ne1 b e).1 hb) (fun j hj _ => by rw [hj]; exact hno)
  have hsyn1 : MapO (w.setCell ⟨p, 3, none⟩ (.int .i64 (u : Nat))) F B c2 m := h.syn.tch hT (fun b e hb => (h.ne2 b e).1 hb) (fun j hj _ => by rw [hj]; exact hno)
  obtain ⟨w4, hr, hm4, ht4, hs4⟩ := hcur1.drop h.srt.1 hk ty
  have hc4 := hc1.tch ht4 (fun e => (h.ne1 p e).1 rfl)
  have huc := used_cut (k := k) h.srt.1
  have e : u = usedP (cutP k l) := by omega
  subst e
  refine ⟨w4, hr, ⟨⟨srt_cut h.srt.1, h.srt.2⟩, ⟨ok_cut h.ok.1, h.ok.2⟩, h.sz, ⟨?_, h.used.2⟩, h.here, fun j hj => ⟨(h.blocks j hj).1, ?_⟩, hc4, hm4, ?_, h.nils, h.none_, h.apart⟩, ?_, ?_⟩
  · have := used_cut_le k l
    have := h.used.1
    omega
  · rw [hs4, World.size_setCell]; exact (h.blocks j hj).2
  · exact hsyn1.tch ht4 (fun b e hb => h.apart b hb e) (fun j hj _ => by
      have h5 := hcur1
      rw [hj] at h5
      exact MapS.noRow h5)
  · exact (hT.mono (fun j hj => by rw [hj]; exact h.here)).trans (ht4.mono (fun j hj => (h.ne1 j hj).2))
  · rw [hs4, World.size_setCell]
theorem dropP_take {ks : List Ky} {j : Nat} (hj : j < ks.length) (l : List Pr) : dropP (ks.take (j + 1)) l = cutP (ks.getD j []) (dropP (ks.take j) l) := by
  rw [List.take_add_one, List.getElem?_eq_getElem hj, List.getD_eq_getElem?_getD, List.getElem?_eq_getElem hj]
  exact dropP_app _ _ _
set_option maxRecDepth 100000 in
set_option maxHeartbeats 2000000 in
theorem drop_c (B : Nat) (F : Nat → Prop) (pv : Option Addr) (size : Int) (l m : List Pr) (b n : Nat) (ks : List Ky) (w : World) (h : Rcv w B F pv size l m) (hB : B ≤ w.heap.size) (hp : KsIn w b n ks) (hn : n ≤ 4611686018427387904) (hbF : ¬ F b) (hbw : b < w.heap.size) :
    Calls Try.prog 127 #[.pointer pv, .slice (some ⟨b, 0, none⟩) n n] w fun e w' => e = .returned (.int .i64 ((l.length - (dropP ks l).length : Nat) : Nat)) ∧ RTo w B F pv size (dropP ks l) m w' := by
  have HO := Lib.hid (orE_t B F pv size l m w h hB)
  have HNL : Hid (pv = none → size = 0 ∧ dropP ks l = [] ∧ m = []) := Lib.hid (fun e => by
    rcases h with h | ⟨p, e2, _⟩
    · refine ⟨h.2.1, ?_, h.2.2.2.1⟩
      have := len_drop_le ks l
      rw [h.2.2.1] at this ⊢
      exact List.eq_nil_of_length_eq_zero (by simpa using this)
    · rw [e] at e2; cases e2)
  have HP := Lib.hid hp
  clear h hp
  go_enter Try.func127, Try.ntmps127
  go_wp2_with fail
  refine HO.out.mono ?_
  rintro e w1 ⟨G, p, rfl, hR⟩
  obtain ⟨c1, c2, hK⟩ := hR.1
  have HR := Lib.hid hR
  have HK := Lib.hid hK
  have hGb : ¬ G b := fun hg => by
    rcases hR.2.2 with ⟨_, _, h4⟩ | ⟨_, rfl⟩
    · have := (h4 b hg).2; omega
    · exact hbF hg
  have HP1 := Lib.hid (HP.out.tch hR.2.1 (fun h => h))
  have c1e := hK.cells.cs.2.1
  have hlen := fun ty => hK.cur.len ty w1 (fun _ _ => rfl)
  have hL := Lib.hid hK.lens
  have HGB := Lib.hid hGb
  clear hK HO hR hB hGb hbF hbw
  go_wp2
  go_loopw [7, 17] (fun _ i wr => ∃ j : Nat, j ≤ n ∧ i = .int .i64 j ∧ Hid (StK wr B G p size (usedP (dropP (ks.take j) l)) c1 c2 (dropP (ks.take j) l) m) ∧ Hid (Tch G w1 wr)) (fun _ i _ => n - (intOf i).toNat)
  case atStart => exact ⟨0, by omega, rfl, HK, Lib.hid (Tch.refl _ _)⟩
  case round =>
    obtain ⟨j, hj, rfl, HKj, HTj⟩ := hrel
    by_cases hlj : j < n
    · have hjp : j < ks.length := by rw [HP1.out.len]; exact hlj
      have hc := (HP1.out.tch HTj.out HGB.out).here j hlj
      have hkb := HP1.out.big (ks.getD j []) (by rw [List.getD_eq_getElem?_getD, List.getElem?_eq_getElem hjp]; exact List.getElem_mem hjp)
      have HDT := Lib.hid (dropP_take hjp l)
      obtain ⟨k, hk⟩ : ∃ k, k = ks.getD j [] := ⟨_, rfl⟩
      obtain ⟨lj, hlj2⟩ : ∃ lj, lj = dropP (ks.take j) l := ⟨_, rfl⟩
      rw [← hk] at hc hkb HDT
      rw [← hlj2] at HKj HDT
      clear hk hjp hlj2
      have hK := HKj.out
      have e1 := hK.cells.cs.2.1
      have e3 := hK.cells.cs.2.2.2
      have e4 := hK.cells.free 3
      have huc := used_cut (k := k) hK.srt.1
      have hul := hK.lens.2.2.1
      have CS := Lib.hid (fun U (hU : Below wr.heap.size wr U) => sizeAt_c B G c1 lj k U (hK.cur.tch (tch_new hU) (fun _ _ h => h) (fun _ h => h.elim)) hkb (fun r hf => by have := hK.row hf; omega))
      have hd0 : Below wr.heap.size wr wr.drew := (Below.refl _ _).drew
      have hS0 : wr.drew.cell? ⟨p, 1, none⟩ = some (.map c1) ∧ wr.drew.cell? ⟨p, 3, none⟩ = some (.int .i64 (usedP lj : Nat)) := ⟨e1, e3⟩
      have HDR := Lib.hid (hK.keep (tch_new hd0) (fun _ _ h => h))
      have D1 := Lib.hid (fun ty => HDR.out.drop1 k hkb ty (u := usedP (cutP k lj)) huc)
      obtain ⟨u, hu⟩ : ∃ u, u = usedP lj := ⟨_, rfl⟩
      obtain ⟨z, hz⟩ : ∃ z, z = sizeAt k lj := ⟨_, rfl⟩
      obtain ⟨q, hq⟩ : ∃ q, q = usedP (cutP k lj) := ⟨_, rfl⟩
      rw [← hu] at hS0 hul huc e3
      rw [← hz] at CS huc
      rw [← hq] at huc D1
      have W1 : Hid (IntKind.i64.wrap ((u : Int) - (z : Int)) = (q : Int)) := Lib.hid (by rw [IntWalk.i64_in _ (by omega)]; omega)
      have w1e : ∀ [Inhabited Nat], wrap64 ((u : Int) - (z : Int)) = (q : Int) := by intro _; unfold wrap64; omega
      have HU' := Lib.hid hu
      have HQ := Lib.hid hq
      clear hK hu hz hq huc hul hS0 e1 e3 e4
      have e1 := HDR.out.cells.cs.2.1
      have e4 := HDR.out.cells.free 3
      go_wp2_with fail
      have e3 : wr.drew.cell? ⟨p, 3, none⟩ = some (.int .i64 (u : Nat)) := by rw [HU'.out]; exact HDR.out.cells.cs.2.2.2
      have e5 := (D1.out 0).1.cs.2.1
      refine wp_region_held_drew (S := (fun wx => wx.cell? ⟨p, 1, none⟩ = some (.map c1))) (by kernel_rfl) e1 (fun hHeld => ?_)
      refine wpAnyH_take (i := 0) (v := ?_) rfl (by kernel_rfl) (by kernel_rfl) (by kernel_rfl) (fun _ _ _ h => h) (Or.inl ⟨by rfl, ?_⟩) (by assumption) ?_
      rotate_left
      · intro wz hSw; (try dsimp only at hSw); (try simp only [List.getElem_toArray, List.getElem_cons_zero, List.getElem_cons_succ]); go_simp; first | done | with_reducible rfl
      try simp only [Act.put, List.setIfInBounds_toArray, List.set_cons_zero, List.set_cons_succ, List.getElem_toArray, List.getElem_cons_zero, List.getElem_cons_succ]
      refine wpAnyH_take (i := 1) (v := ?_) rfl (by kernel_rfl) (by kernel_rfl) (by kernel_rfl) (fun _ _ _ h => h) (Or.inl ⟨by rfl, ?_⟩) (by assumption) ?_
      rotate_left
      · intro wz hSw; (try dsimp only at hSw); (try simp only [List.getElem_toArray, List.getElem_cons_zero, List.getElem_cons_succ]); go_simp; first | done | with_reducible rfl
      try simp only [Act.put, List.setIfInBounds_toArray, List.set_cons_zero, List.set_cons_succ, List.getElem_toArray, List.getElem_cons_zero, List.getElem_cons_succ]
      refine wpAnyH_take (i := 2) (v := ?_) rfl (by kernel_rfl) (by kernel_rfl) (by kernel_rfl) (fun _ _ _ h => h) (Or.inl ⟨by rfl, ?_⟩) (by assumption) ?_
      rotate_left
      · intro wz hSw; (try dsimp only at hSw); (try simp only [List.getElem_toArray, List.getElem_cons_zero, List.getElem_cons_succ]); go_simp; first | done | with_reducible rfl
      try simp only [Act.put, List.setIfInBounds_toArray, List.set_cons_zero, List.set_cons_succ, List.getElem_toArray, List.getElem_cons_zero, List.getElem_cons_succ]
      refine wpAnyH_take (i := 4) (v := ?_) rfl (by kernel_rfl) (by kernel_rfl) (by kernel_rfl) (fun _ _ _ h => h) (Or.inl ⟨by rfl, ?_⟩) (by assumption) ?_
      rotate_left
      · intro wz hSw; (try dsimp only at hSw); (try simp only [List.getElem_toArray, List.getElem_cons_zero, List.getElem_cons_succ]); go_simp; first | done | with_reducible rfl
      try simp only [Act.put, List.setIfInBounds_toArray, List.set_cons_zero, List.set_cons_succ, List.getElem_toArray, List.getElem_cons_zero, List.getElem_cons_succ]
      refine wpAnyH_take (i := 5) (v := ?_) rfl (by kernel_rfl) (by kernel_rfl) (by kernel_rfl) (fun _ _ _ h => h) (Or.inl ⟨by rfl, ?_⟩) (by assumption) ?_
      rotate_left
      · intro wz hSw; (try dsimp only at hSw); (try simp only [List.getElem_toArray, List.getElem_cons_zero, List.getElem_cons_succ]); go_simp; first | done | with_reducible rfl
      try simp only [Act.put, List.setIfInBounds_toArray, List.set_cons_zero, List.set_cons_succ, List.getElem_toArray, List.getElem_cons_zero, List.getElem_cons_succ]
      refine wpAnyH_take (i := 6) (v := ?_) rfl (by kernel_rfl) (by kernel_rfl) (by kernel_rfl) (fun _ _ _ h => h) (Or.inl ⟨by rfl, ?_⟩) (by assumption) ?_
      rotate_left
      · intro wz hSw; (try dsimp only at hSw); (try simp only [List.getElem_toArray, List.getElem_cons_zero, List.getElem_cons_succ]); go_simp; first | done | with_reducible rfl
      try simp only [Act.put, List.setIfInBounds_toArray, List.set_cons_zero, List.set_cons_succ, List.getElem_toArray, List.getElem_cons_zero, List.getElem_cons_succ]
      refine wpAnyH_take (i := 7) (v := ?_) rfl (by kernel_rfl) (by kernel_rfl) (by kernel_rfl) (fun _ _ _ h => h) (Or.inl ⟨by rfl, ?_⟩) (by assumption) ?_
      rotate_left
      · intro wz hSw; (try dsimp only at hSw); (try simp only [List.getElem_toArray, List.getElem_cons_zero, List.getElem_cons_succ]); go_simp; first | done | with_reducible rfl
      try simp only [Act.put, List.setIfInBounds_toArray, List.set_cons_zero, List.set_cons_succ, List.getElem_toArray, List.getElem_cons_zero, List.getElem_cons_succ]
      refine wpAnyH_take (i := 8) (v := ?_) rfl (by kernel_rfl) (by kernel_rfl) (by kernel_rfl) (fun _ _ _ h => h) (Or.inl ⟨by rfl, ?_⟩) (by assumption) ?_
      rotate_left
      · intro wz hSw; (try dsimp only at hSw); (try simp only [List.getElem_toArray, List.getElem_cons_zero, List.getElem_cons_succ]); go_simp; first | done | with_reducible rfl
      try simp only [Act.put, List.setIfInBounds_toArray, List.set_cons_zero, List.set_cons_succ, List.getElem_toArray, List.getElem_cons_zero, List.getElem_cons_succ]
      refine wpAnyH_ready (rs := [3, 9]) (by kernel_rfl) (by simp) ?_
      refine AllReadyH.cons rfl (fun K hK => ?_) (AllReadyH.cons rfl (fun K hK => ?_) AllReadyH.nil)
      · try simp only [List.getElem_toArray, List.getElem_cons_zero, List.getElem_cons_succ]
        go_simp
        go_wp2_with fail
        refine hK.out _ _ ?_ (fun hHeld2 => ?_)
        · exact e1
        clear hK K
        try simp only [Act.put, List.setIfInBounds_toArray, List.set_cons_zero, List.set_cons_succ, List.getElem_toArray, List.getElem_cons_zero, List.getElem_cons_succ]
        refine wpAnyH_ready (rs := [9]) (by kernel_rfl) (by simp) ?_
        refine AllReadyH.cons rfl (fun K hK => ?_) AllReadyH.nil
        try simp only [List.getElem_toArray, List.getElem_cons_zero, List.getElem_cons_succ]
        go_simp
        refine (CS.out _ hd0).mono ?_
        rintro e w4 ⟨rfl, rfl⟩
        go_wp2_with fail
        refine hK.out _ _ ?_ (fun hHeld2 => ?_)
        · exact e1
        clear hK K
        try simp only [Act.put, List.setIfInBounds_toArray, List.set_cons_zero, List.set_cons_succ, List.getElem_toArray, List.getElem_cons_zero, List.getElem_cons_succ]
        refine wpAnyH_take (i := 10) (v := ?_) rfl (by kernel_rfl) (by kernel_rfl) (by kernel_rfl) (fun _ _ _ h => h) (Or.inl ⟨by rfl, ?_⟩) (by assumption) ?_
        rotate_left
        · intro wz hSw; (try dsimp only at hSw); (try simp only [List.getElem_toArray, List.getElem_cons_zero, List.getElem_cons_succ]); go_simp; first | done | with_reducible rfl
        try simp only [Act.put, List.setIfInBounds_toArray, List.set_cons_zero, List.set_cons_succ, List.getElem_toArray, List.getElem_cons_zero, List.getElem_cons_succ]
        refine wpAnyH_take (i := 11) (v := ?_) rfl (by kernel_rfl) (by kernel_rfl) (by kernel_rfl) (fun _ _ _ h => h) (Or.inl ⟨by rfl, ?_⟩) (by assumption) ?_
        rotate_left
        · intro wz hSw; (try dsimp only at hSw); (try simp only [List.getElem_toArray, List.getElem_cons_zero, List.getElem_cons_succ]); go_simp; first | done | with_reducible rfl
        try simp only [Act.put, List.setIfInBounds_toArray, List.set_cons_zero, List.set_cons_succ, List.getElem_toArray, List.getElem_cons_zero, List.getElem_cons_succ]
        refine wpAnyH_take (i := 12) (v := ?_) rfl (by kernel_rfl) (by kernel_rfl) (by kernel_rfl) (fun _ _ _ h => h) (Or.inl ⟨by rfl, ?_⟩) (by assumption) ?_
        rotate_left
        · intro wz hSw; (try dsimp only at hSw); (try simp only [List.getElem_toArray, List.getElem_cons_zero, List.getElem_cons_succ]); go_simp; first | done | with_reducible rfl
        try simp only [Act.put, List.setIfInBounds_toArray, List.set_cons_zero, List.set_cons_succ, List.getElem_toArray, List.getElem_cons_zero, List.getElem_cons_succ]
        refine wpAnyH_ready (rs := [13]) (by kernel_rfl) (by simp) ?_
        refine AllReadyH.cons rfl (fun K hK => ?_) AllReadyH.nil
        try simp only [List.getElem_toArray, List.getElem_cons_zero, List.getElem_cons_succ]
        go_simp
        rw [W1.out]
        go_wp2_with fail
        refine hK.out _ _ ?_ (fun hHeld2 => ?_)
        · exact e5
        clear hK K
        try simp only [Act.put, List.setIfInBounds_toArray, List.set_cons_zero, List.set_cons_succ, List.getElem_toArray, List.getElem_cons_zero, List.getElem_cons_succ]
        refine wpAnyH_done (by kernel_rfl) ?_ _
        obtain ⟨W5, hW5⟩ : ∃ W, W = (wr.setCell ⟨p, 3, none⟩ (.int .i64 (q : Nat))).drew := ⟨_, rfl⟩
        rw [← hW5]
        have hW6 : wr.drew.setCell ⟨p, 3, none⟩ (.int .i64 (q : Nat)) = W5 := by rw [hW5]; rfl
        obtain ⟨hs5, w5, hrun, hK5, hT5, hs5'⟩ := (D1.out 0)
        rw [hW6] at hrun e5
        have HK5 : Hid (StK w5 B G p size (usedP (dropP (ks.take (j + 1)) l)) c1 c2 (dropP (ks.take (j + 1)) l) m) := Lib.hid (by rw [HDT.out, ← HQ.out]; exact hK5)
        have HT5 := Lib.hid (HTj.out.trans (((tch_new hd0).mono (fun _ h => h.elim)).trans hT5))
        clear hW5 hW6 hHeld hHeld2 hs5 hK5 hT5 hs5' D1 CS hc hd0 e1 e3 e4 W1 w1e
        go_wp2
        go_roundw
        case rel => exact ⟨j + 1, by omega, by go_num, HK5, HT5⟩
        case measure => simp [intOf]; omega
      · try simp only [List.getElem_toArray, List.getElem_cons_zero, List.getElem_cons_succ]
        go_simp
        refine (CS.out _ hd0).mono ?_
        rintro e w4 ⟨rfl, rfl⟩
        go_wp2_with fail
        refine hK.out _ _ ?_ (fun hHeld2 => ?_)
        · exact e1
        clear hK K
        try simp only [Act.put, List.setIfInBounds_toArray, List.set_cons_zero, List.set_cons_succ, List.getElem_toArray, List.getElem_cons_zero, List.getElem_cons_succ]
        refine wpAnyH_ready (rs := [3]) (by kernel_rfl) (by simp) ?_
        refine AllReadyH.cons rfl (fun K hK => ?_) AllReadyH.nil
        try simp only [List.getElem_toArray, List.getElem_cons_zero, List.getElem_cons_succ]
        go_simp
        go_wp2_with fail
        refine hK.out _ _ ?_ (fun hHeld2 => ?_)
        · exact e1
        clear hK K
        try simp only [Act.put, List.setIfInBounds_toArray, List.set_cons_zero, List.set_cons_succ, List.getElem_toArray, List.getElem_cons_zero, List.getElem_cons_succ]
        refine wpAnyH_take (i := 10) (v := ?_) rfl (by kernel_rfl) (by kernel_rfl) (by kernel_rfl) (fun _ _ _ h => h) (Or.inl ⟨by rfl, ?_⟩) (by assumption) ?_
        rotate_left
        · intro wz hSw; (try dsimp only at hSw); (try simp only [List.getElem_toArray, List.getElem_cons_zero, List.getElem_cons_succ]); go_simp; first | done | with_reducible rfl
        try simp only [Act.put, List.setIfInBounds_toArray, List.set_cons_zero, List.set_cons_succ, List.getElem_toArray, List.getElem_cons_zero, List.getElem_cons_succ]
        refine wpAnyH_take (i := 11) (v := ?_) rfl (by kernel_rfl) (by kernel_rfl) (by kernel_rfl) (fun _ _ _ h => h) (Or.inl ⟨by rfl, ?_⟩) (by assumption) ?_
        rotate_left
        · intro wz hSw; (try dsimp only at hSw); (try simp only [List.getElem_toArray, List.getElem_cons_zero, List.getElem_cons_succ]); go_simp; first | done | with_reducible rfl
        try simp only [Act.put, List.setIfInBounds_toArray, List.set_cons_zero, List.set_cons_succ, List.getElem_toArray, List.getElem_cons_zero, List.getElem_cons_succ]
        refine wpAnyH_take (i := 12) (v := ?_) rfl (by kernel_rfl) (by kernel_rfl) (by kernel_rfl) (fun _ _ _ h => h) (Or.inl ⟨by rfl, ?_⟩) (by assumption) ?_
        rotate_left
        · intro wz hSw; (try dsimp only at hSw); (try simp only [List.getElem_toArray, List.getElem_cons_zero, List.getElem_cons_succ]); go_simp; first | done | with_reducible rfl
        try simp only [Act.put, List.setIfInBounds_toArray, List.set_cons_zero, List.set_cons_succ, List.getElem_toArray, List.getElem_cons_zero, List.getElem_cons_succ]
        refine wpAnyH_ready (rs := [13]) (by kernel_rfl) (by simp) ?_
        refine AllReadyH.cons rfl (fun K hK => ?_) AllReadyH.nil
        try simp only [List.getElem_toArray, List.getElem_cons_zero, List.getElem_cons_succ]
        go_simp
        rw [W1.out]
        go_wp2_with fail
        refine hK.out _ _ ?_ (fun hHeld2 => ?_)
        · exact e5
        clear hK K
        try simp only [Act.put, List.setIfInBounds_toArray, List.set_cons_zero, List.set_cons_succ, List.getElem_toArray, List.getElem_cons_zero, List.getElem_cons_succ]
        refine wpAnyH_done (by kernel_rfl) ?_ _
        obtain ⟨W5, hW5⟩ : ∃ W, W = (wr.setCell ⟨p, 3, none⟩ (.int .i64 (q : Nat))).drew := ⟨_, rfl⟩
        rw [← hW5]
        have hW6 : wr.drew.setCell ⟨p, 3, none⟩ (.int .i64 (q : Nat)) = W5 := by rw [hW5]; rfl
        obtain ⟨hs5, w5, hrun, hK5, hT5, hs5'⟩ := (D1.out 0)
        rw [hW6] at hrun e5
        have HK5 : Hid (StK w5 B G p size (usedP (dropP (ks.take (j + 1)) l)) c1 c2 (dropP (ks.take (j + 1)) l) m) := Lib.hid (by rw [HDT.out, ← HQ.out]; exact hK5)
        have HT5 := Lib.hid (HTj.out.trans (((tch_new hd0).mono (fun _ h => h.elim)).trans hT5))
        clear hW5 hW6 hHeld hHeld2 hs5 hK5 hT5 hs5' D1 CS hc hd0 e1 e3 e4 W1 w1e
        go_wp2
        go_roundw
        case rel => exact ⟨j + 1, by omega, by go_num, HK5, HT5⟩
        case measure => simp [intOf]; omega
    · have hjn : j = n := by omega
      subst hjn
      have hlast : dropP (ks.take j) l = dropP ks l := by rw [List.take_of_length_le (by rw [HP1.out.len]; exact Nat.le_refl _)]
      rw [hlast] at HKj
      have e1 := HKj.out.cells.cs.2.1
      have hlen2 := fun ty => HKj.out.cur.len ty wr (fun _ _ => rfl)
      have hle := len_drop_le ks l
      have hl1 := hL.out.1
      have w1e : ∀ [Inhabited Nat], wrap64 ((l.length : Int) - ((dropP ks l).length : Int)) = ((l.length - (dropP ks l).length : Nat) : Int) := by intro _; unfold wrap64; omega
      have HF := Lib.hid (HR.out.back ⟨c1, c2, HKj.out⟩ (fun j hj => .inl hj) HTj.out HNL.out)
      clear hlast hle hl1 hlen
      go_wp2
      go_ret
      exact ⟨by rw [w1e]; rfl, HF.out⟩
end Go.Proofs.Ytbkpkakjfhkfaaa
