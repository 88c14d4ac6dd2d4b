/- The document's store: Drop. Conditions: as it states. -/
import Derived.Test.YtpbgccidhpfmgaaSdC
import Derived.OrdersHeld
import Derived.Deep.RegionHeld
namespace Go.Proofs.Ytpbgccidhpfmgaa
open Go Go.RowKit Go.Maps
set_option linter.unusedVariables false
set_option linter.unusedSimpArgs false

theorem RsTo.trans {w w1 w2 : World} {B : Nat} {G G2 : Nat → Prop} {q : Nat} {size : Int} {l m : List Pr} (hG : ∀ k, G2 k → G k ∨ w.heap.size ≤ k) (ht : Tch (· = q) w w1) (h : RsTo w1 B G2 q size l m w2) : RsTo w B G q size l m w2 := by
  obtain ⟨G3, h1, h2, h3⟩ := h
  refine ⟨G3, h1, fun k hk => ?_, ht.trans h3⟩
  rcases h2 k hk with h | h
  · exact hG k h
  · exact .inr (Nat.le_trans ht.size h)
theorem find_cut {k : Ky} {l : List Pr} (h : findP k l = none) : cutP k l = l := by
  unfold findP at h
  rw [Option.map_eq_none_iff, List.find?_eq_none] at h
  exact List.filter_eq_self.2 (fun e he => by have := h e he; simpa using this)
set_option maxRecDepth 100000 in
set_option maxHeartbeats 4000000 in
theorem rdrop_c (B : Nat) (G : Nat → Prop) (q : Nat) (size : Int) (l m : List Pr) (b n cc : Nat) (ks : List Ky) (w : World) (h : RsS w B G q size l m) (hB : B ≤ w.heap.size) (hp : KsIn w b n ks) (hn : n ≤ 4611686018427387904) (hcc : n ≤ cc) (hbG : ¬ G b) (hbw : b < w.heap.size) :
    Calls Try.prog 40 #[.pointer (some ⟨q, 0, none⟩), .slice (some ⟨b, 0, none⟩) n cc] w fun e w' => e = .returned (.int .i64 ((l.length - (dropP ks l).length : Nat) : Nat)) ∧ RsTo w B G q size (dropP ks l) m w' := by
  have HS := Lib.hid h
  have HP := Lib.hid hp
  have HBw := Lib.hid hB
  have hqb : ¬ b = q := by
    obtain ⟨a1, c1, a2, c2, ps, qs, hK, _⟩ := h
    rintro rfl
    exact hbG hK.here
  have HQB := Lib.hid hqb
  have hll : l.length ≤ 67108864 := by
    obtain ⟨a1, c1, a2, c2, ps, qs, hK, e1, _⟩ := h
    have := hK.lens.1
    rw [← e1, List.length_map]
    exact this
  clear h hp hB hqb hbG
  go_enter Try.func40, Try.ntmps40
  go_wp2_with fail
  go_loopw [5, 6] (fun t i wr => ∃ j t0 : Nat, j ≤ n ∧ i = .int .i64 j ∧ t = .int .i64 t0 ∧ t0 ≤ j ∧ Hid (t0 + (dropP (ks.take j) l).length = l.length) ∧ Hid (RsTo w B G q size (dropP (ks.take j) l) m wr)) (fun _ i _ => n - (intOf i).toNat)
  case atStart => exact ⟨0, 0, by omega, rfl, rfl, Nat.le_refl _, Lib.hid (by simp [dropP]), Lib.hid ⟨G, HS.out, fun k hk => .inl hk, Tch.refl _ _⟩⟩
  case round =>
    obtain ⟨j, t0, hj, rfl, rfl, htj, HT, HR⟩ := hrel
    by_cases hlj : j < n
    · obtain ⟨G2, ⟨a1, c1, a2, c2, ps, qs, hK, e1, e2⟩, hG2, htc⟩ := HR.out
      have hjp : j < ks.length := by rw [HP.out.len]; exact hlj
      have hck := htc.cell (HP.out.here j hlj) HQB.out
      have hkb := HP.out.big (ks.getD j []) (by rw [List.getD_eq_getElem?_getD, List.getElem?_eq_getElem hjp]; exact List.getElem_mem hjp)
      have HDT := Lib.hid (dropP_take hjp l)
      obtain ⟨k, hk⟩ : ∃ k, k = ks.getD j [] := ⟨_, rfl⟩
      rw [← hk] at hck hkb HDT
      clear hk hjp HR
      have HK := Lib.hid hK
      have HG2 := Lib.hid hG2
      have HTC := Lib.hid htc
      have HBr : Hid (B ≤ wr.heap.size) := Lib.hid (Nat.le_trans HBw.out htc.size)
      have HL := Lib.hid e1
      have HM := Lib.hid e2
      have hbq : ¬ b = q := HQB.out
      have hd0 : Below wr.heap.size wr wr.drew := (Below.refl _ _).drew
      have hS0 : wr.drew.cell? ⟨q, 0, none⟩ = some (.slice a1 ps.length c1) ∧ wr.drew.cell? ⟨b, j, none⟩ = some (sv k) := ⟨hK.cs.1, hck⟩
      have CF := Lib.hid (fun U (hU : Below wr.heap.size wr U) => rfind_c G2 B a1 ps.length c1 ps k U (HK.out.keep (tch_new hU) (fun _ _ h => h)).now (by have := HK.out.lens.1; omega) rfl)
      have CS := Lib.hid (fun U (hU : Below wr.heap.size wr U) => rwithout_c G2 B a1 ps.length c1 ps k U (HK.out.keep (tch_new hU) (fun _ _ h => h)).now HK.out.lens.1 rfl)
      have ilj : (j : Int) < (n : Int) := by omega
      have j0 : (0 : Int) ≤ (j : Int) := by omega
      have hnc : (n : Int) ≤ (cc : Int) := by omega
      clear hK hG2 htc e1 e2
      go_wp2_with fail
      go_region_held3 (fun wx => wx.cell? ⟨q, 0, none⟩ = some (.slice a1 ps.length c1) ∧ wx.cell? ⟨b, j, none⟩ = some (sv k)) (first | (with_reducible exact hS0) | (with_reducible assumption) | fail)
        (first | (go_at_call 75; (with_reducible refine (CF.out _ hd0).mono ?_); rintro e w2 ⟨⟨z, rfl, hz⟩, rfl⟩) | fail)
      by_cases hz0 : z < 0
      · have hcu : cutP k (dropP (ks.take j) l) = dropP (ks.take j) l := by
          rw [← HL.out]
          exact find_cut (hz.none' hz0)
        have HT2 : Hid (t0 + (dropP (ks.take (j + 1)) l).length = l.length) := Lib.hid (by rw [HDT.out, hcu]; exact HT.out)
        have HR2 : Hid (RsTo w B G q size (dropP (ks.take (j + 1)) l) m wr.drew) := Lib.hid (by
          rw [HDT.out, hcu]
          exact RsTo.trans HG2.out HTC.out ⟨G2, ⟨_, _, _, _, _, _, HK.out.keep (tch_new hd0) (fun _ _ h => h), HL.out, HM.out⟩, fun k hk => .inl hk, (tch_new hd0).mono (fun _ h => h.elim)⟩)
        clear hcu hz hS0 CF CS hck hd0
        go_wp2
        go_roundw
        case rel => exact ⟨j + 1, t0, by omega, by go_num, rfl, by omega, HT2, HR2⟩
        case measure => simp [intOf]; omega
      · obtain ⟨i, hi, rfl, hf⟩ := hz.some' HK.out.srt.1 hz0
        have hcl : (cutP k (dropP (ks.take j) l)).length + 1 = (dropP (ks.take j) l).length := by
          have h9 := len_cut (k := k) HK.out.srt.1
          rw [hf, HL.out] at h9
          simpa using h9
        have HT2 : Hid (t0 + 1 + (dropP (ks.take (j + 1)) l).length = l.length) := Lib.hid (by rw [HDT.out]; have := HT.out; omega)
        have hd1 : Below wr.heap.size wr wr.drew := hd0
        have hd2 : Below wr.heap.size wr wr.drew.drew := hd0.drew
        clear hcl hz hS0 CF hf hd0
        go_upto_region 6 with fail
        have e1 : wr.drew.drew.cell? ⟨b, j, none⟩ = some (sv k) := (tch_new hd2).cell hck (fun h => h)
        have e0 : wr.drew.drew.cell? ⟨q, 0, none⟩ = some (.slice a1 ps.length c1) := (HK.out.keep (tch_new hd2) (fun _ _ h => h)).cs.1
        refine wp_region_held_drew (S := (fun wx => wx.cell? ⟨b, j, none⟩ = some (sv k))) (by kernel_rfl) e1 (fun hHeld => ?_)
        refine wpAnyH_take (i := 0) (v := ?_) rfl (by kernel_rfl) (by kernel_rfl) (by kernel_rfl) (fun _ _ _ h => h) (Or.inl ⟨by rfl, ?_⟩) (by assumption) ?_
        rotate_left
        · intro wz hSw; (try dsimp only at hSw); (try simp only [List.getElem_toArray, List.getElem_cons_zero, List.getElem_cons_succ]); go_simp; first | done | with_reducible rfl
        try simp only [Act.put, List.setIfInBounds_toArray, List.set_cons_zero, List.set_cons_succ, List.getElem_toArray, List.getElem_cons_zero, List.getElem_cons_succ]
        refine wpAnyH_take (i := 1) (v := ?_) rfl (by kernel_rfl) (by kernel_rfl) (by kernel_rfl) (fun _ _ _ h => h) (Or.inl ⟨by rfl, ?_⟩) (by assumption) ?_
        rotate_left
        · intro wz hSw; (try dsimp only at hSw); (try simp only [List.getElem_toArray, List.getElem_cons_zero, List.getElem_cons_succ]); go_simp; first | done | with_reducible rfl
        try simp only [Act.put, List.setIfInBounds_toArray, List.set_cons_zero, List.set_cons_succ, List.getElem_toArray, List.getElem_cons_zero, List.getElem_cons_succ]
        refine wpAnyH_take (i := 2) (v := ?_) rfl (by kernel_rfl) (by kernel_rfl) (by kernel_rfl) (fun _ _ _ h => h) (Or.inl ⟨by rfl, ?_⟩) (by assumption) ?_
        rotate_left
        · intro wz hSw; (try dsimp only at hSw); (try simp only [List.getElem_toArray, List.getElem_cons_zero, List.getElem_cons_succ]); go_simp; first | done | with_reducible rfl
        try simp only [Act.put, List.setIfInBounds_toArray, List.set_cons_zero, List.set_cons_succ, List.getElem_toArray, List.getElem_cons_zero, List.getElem_cons_succ]
        refine wpAnyH_take (i := 3) (v := ?_) rfl (by kernel_rfl) (by kernel_rfl) (by kernel_rfl) (fun _ _ _ h => h) (Or.inl ⟨by rfl, ?_⟩) (by assumption) ?_
        rotate_left
        · intro wz hSw; (try dsimp only at hSw); (try simp only [List.getElem_toArray, List.getElem_cons_zero, List.getElem_cons_succ]); go_simp; first | done | with_reducible rfl
        try simp only [Act.put, List.setIfInBounds_toArray, List.set_cons_zero, List.set_cons_succ, List.getElem_toArray, List.getElem_cons_zero, List.getElem_cons_succ]
        refine wpAnyH_take (i := 5) (v := ?_) rfl (by kernel_rfl) (by kernel_rfl) (by kernel_rfl) (fun _ _ _ h => h) (Or.inl ⟨by rfl, ?_⟩) (by assumption) ?_
        rotate_left
        · intro wz hSw; (try dsimp only at hSw); (try simp only [List.getElem_toArray, List.getElem_cons_zero, List.getElem_cons_succ]); go_simp; first | done | with_reducible rfl
        try simp only [Act.put, List.setIfInBounds_toArray, List.set_cons_zero, List.set_cons_succ, List.getElem_toArray, List.getElem_cons_zero, List.getElem_cons_succ]
        refine wpAnyH_take (i := 6) (v := ?_) rfl (by kernel_rfl) (by kernel_rfl) (by kernel_rfl) (fun _ _ _ h => h) (Or.inl ⟨by rfl, ?_⟩) (by assumption) ?_
        rotate_left
        · intro wz hSw; (try dsimp only at hSw); (try simp only [List.getElem_toArray, List.getElem_cons_zero, List.getElem_cons_succ]); go_simp; first | done | with_reducible rfl
        try simp only [Act.put, List.setIfInBounds_toArray, List.set_cons_zero, List.set_cons_succ, List.getElem_toArray, List.getElem_cons_zero, List.getElem_cons_succ]
        refine wpAnyH_take (i := 7) (v := ?_) rfl (by kernel_rfl) (by kernel_rfl) (by kernel_rfl) (fun _ _ _ h => h) (Or.inl ⟨by rfl, ?_⟩) (by assumption) ?_
        rotate_left
        · intro wz hSw; (try dsimp only at hSw); (try simp only [List.getElem_toArray, List.getElem_cons_zero, List.getElem_cons_succ]); go_simp; first | done | with_reducible rfl
        try simp only [Act.put, List.setIfInBounds_toArray, List.set_cons_zero, List.set_cons_succ, List.getElem_toArray, List.getElem_cons_zero, List.getElem_cons_succ]
        refine wpAnyH_take (i := 8) (v := ?_) rfl (by kernel_rfl) (by kernel_rfl) (by kernel_rfl) (fun _ _ _ h => h) (Or.inl ⟨by rfl, ?_⟩) (by assumption) ?_
        rotate_left
        · intro wz hSw; (try dsimp only at hSw); (try simp only [List.getElem_toArray, List.getElem_cons_zero, List.getElem_cons_succ]); go_simp; first | done | with_reducible rfl
        try simp only [Act.put, List.setIfInBounds_toArray, List.set_cons_zero, List.set_cons_succ, List.getElem_toArray, List.getElem_cons_zero, List.getElem_cons_succ]
        refine wpAnyH_ready (rs := [4]) (by kernel_rfl) (by simp) ?_
        refine AllReadyH.cons rfl (fun K hK => ?_) AllReadyH.nil
        try simp only [List.getElem_toArray, List.getElem_cons_zero, List.getElem_cons_succ]
        go_simp
        go_wp2_with fail
        refine hK.out _ _ ?_ (fun hHeld2 => ?_)
        · exact e1
        clear hK K
        try simp only [Act.put, List.setIfInBounds_toArray, List.set_cons_zero, List.set_cons_succ, List.getElem_toArray, List.getElem_cons_zero, List.getElem_cons_succ]
        refine wpAnyH_ready (rs := [9]) (by kernel_rfl) (by simp) ?_
        refine AllReadyH.cons rfl (fun K hK => ?_) AllReadyH.nil
        try simp only [List.getElem_toArray, List.getElem_cons_zero, List.getElem_cons_succ]
        go_simp
        refine (CS.out _ hd2).mono ?_
        rintro e w4 ⟨ao, co, rs, rfl, hmap, hN, hb4⟩
        have hb4' := bl_tr hd2 hb4
        have e2 := (tch_new hb4').cell hck (fun h => h)
        have zf := (HK.out.keep (tch_new hb4') (fun _ _ h => h)).free 0
        have z0 := (HK.out.keep (tch_new hb4') (fun _ _ h => h)).cs.1
        have e5 : (w4.setCell ⟨q, 0, none⟩ (.slice ao rs.length co)).cell? ⟨b, j, none⟩ = some (sv k) := (tch_set w4 ⟨q, 0, none⟩ (.slice ao rs.length co)).cell e2 hbq
        go_wp2_with fail
        refine hK.out _ _ ?_ (fun hHeld3 => ?_)
        · exact e2
        clear hK K
        try simp only [Act.put, List.setIfInBounds_toArray, List.set_cons_zero, List.set_cons_succ, List.getElem_toArray, List.getElem_cons_zero, List.getElem_cons_succ]
        refine wpAnyH_take (i := 10) (v := ?_) rfl (by kernel_rfl) (by kernel_rfl) (by kernel_rfl) (fun _ _ _ h => h) (Or.inl ⟨by rfl, ?_⟩) (by assumption) ?_
        rotate_left
        · intro wz hSw; (try dsimp only at hSw); (try simp only [List.getElem_toArray, List.getElem_cons_zero, List.getElem_cons_succ]); go_simp; first | done | with_reducible rfl
        try simp only [Act.put, List.setIfInBounds_toArray, List.set_cons_zero, List.set_cons_succ, List.getElem_toArray, List.getElem_cons_zero, List.getElem_cons_succ]
        refine wpAnyH_take (i := 11) (v := ?_) rfl (by kernel_rfl) (by kernel_rfl) (by kernel_rfl) (fun _ _ _ h => h) (Or.inl ⟨by rfl, ?_⟩) (by assumption) ?_
        rotate_left
        · intro wz hSw; (try dsimp only at hSw); (try simp only [List.getElem_toArray, List.getElem_cons_zero, List.getElem_cons_succ]); go_simp; first | done | with_reducible rfl
        try simp only [Act.put, List.setIfInBounds_toArray, List.set_cons_zero, List.set_cons_succ, List.getElem_toArray, List.getElem_cons_zero, List.getElem_cons_succ]
        refine wpAnyH_ready (rs := [12]) (by kernel_rfl) (by simp) ?_
        refine AllReadyH.cons rfl (fun K hK => ?_) AllReadyH.nil
        try simp only [List.getElem_toArray, List.getElem_cons_zero, List.getElem_cons_succ]
        go_simp
        go_wp2_with fail
        refine hK.out _ _ ?_ (fun hHeld4 => ?_)
        · exact e5
        clear hK K
        try simp only [Act.put, List.setIfInBounds_toArray, List.set_cons_zero, List.set_cons_succ, List.getElem_toArray, List.getElem_cons_zero, List.getElem_cons_succ]
        refine wpAnyH_done (by kernel_rfl) ?_ _
        have HR2 : Hid (RsTo w B G q size (dropP (ks.take (j + 1)) l) m (w4.setCell ⟨q, 0, none⟩ (.slice ao rs.length co))) := Lib.hid (by
          have h8 := HK.out.put HBr.out hb4' (Nat.le_refl _) (rs := rs) (a3 := ao) (c3 := co) ⟨hN.row, fun x hx => (hN.rows x hx).mono (fun k hk => .inl hk)⟩ (by rw [hmap]; exact srt_cut HK.out.srt.1) (fun x hx => by
            have h9 : x.1 ∈ rs.map (·.1) := List.mem_map.2 ⟨x, hx, rfl⟩
            rw [hmap] at h9
            exact ok_cut (fun e he => by obtain ⟨y, hy, rfl⟩ := List.mem_map.1 he; exact HK.out.ok.1 y hy) _ h9) (by rw [hmap]; exact Nat.le_trans (used_cut_le k _) HK.out.len.1)
          rw [hmap, HL.out, HM.out, ← HDT.out] at h8
          exact RsTo.trans HG2.out HTC.out h8)
        clear hmap hN hb4 hb4' e0 e1 e2 e5 z0 zf hd1 hd2 hck CS hHeld
        go_wp2
        go_roundw
        case rel => exact ⟨j + 1, t0 + 1, by omega, by go_num, by go_num, by omega, HT2, HR2⟩
        case measure => simp [intOf]; omega
    · have hjn : j = n := by omega
      subst hjn
      have hlast : dropP (ks.take j) l = dropP ks l := by rw [List.take_of_length_le (by rw [HP.out.len]; exact Nat.le_refl _)]
      rw [hlast] at HT HR
      have ht0 : t0 = l.length - (dropP ks l).length := by have := HT.out; omega
      subst ht0
      clear hlast
      go_wp2
      go_ret
      exact ⟨rfl, HR.out⟩
end Go.Proofs.Ytpbgccidhpfmgaa
