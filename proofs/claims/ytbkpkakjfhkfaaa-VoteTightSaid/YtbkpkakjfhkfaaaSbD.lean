/- The program's store: Put. Conditions: as it states. -/
import Derived.Test.YtbkpkakjfhkfaaaSbG
namespace Go.Proofs.Ytbkpkakjfhkfaaa
open Go Go.RowKit Go.Maps
set_option linter.unusedVariables false
set_option linter.unusedSimpArgs false

/-- What Put leaves. -/
theorem StK.put {w w3 : World} {B b : Nat} {F : Nat → Prop} {p : Nat} {size : Int} {c2 : Option Nat} {l m : List Pr} (h : StK w B F p size (usedP l) (some b) c2 l m) (hB : B ≤ w.heap.size) {k : Ky} {r : List Int} (hk : OkK k) (hf : fit r) (hz : ((usedP (cutP k l) + k.length + r.length : Nat) : Int) ≤ size)
    (hb : Below w.heap.size w w3) {ao : Option Addr} {n c : Nat} (ho : w3.ownsRow w.heap.size 5 1 (.slice ao n c) r.length (u8s r)) :
    ∃ w4, (Instr.mapUpdate tyM (.map (some b)) (sv k) (.slice ao n c)).run Try.prog w3 = .ok () w4 ∧ SAt w4 p size (some b) c2 (usedP l) ∧
      St (w4.setCell ⟨p, 3, none⟩ (.int .i64 (usedP (putP k r l) : Nat))) B (fun j => F j ∨ (Value.slice ao n c).ownBlock = some j) p size (putP k r l) m ∧ Tch F w (w4.setCell ⟨p, 3, none⟩ (.int .i64 (usedP (putP k r l) : Nat))) := by
  have hcur : MapS w F B b l := h.cur
  have hm3 : MapS w3 F B b l := hcur.tch (tch_new hb) (fun h => h) (fun _ h => h.elim)
  have hF : ∀ j, F j → (F j ∨ (Value.slice ao n c).ownBlock = some j) := fun j hj => .inl hj
  have hrow : RowF w3 (fun j => F j ∨ (Value.slice ao n c).ownBlock = some j) B (.slice ao n c) r := ⟨own_base ho hB, hf, fun g hg => .inr hg⟩
  obtain ⟨w4, hr, hm4, ht4, hs4⟩ := (hm3.mono hF).store h.srt.1 h.lens.1 (k := k) (by have := hk.2; unfold maxLen; omega) hrow
  have hne := (h.ne1 b rfl).1
  have hc3 := h.cells.tch (tch_new hb) (fun h => h)
  have hc4 := hc3.tch ht4 (fun e => hne e.symm)
  have hsyn3 : MapO w3 F B c2 m := h.syn.tch (tch_new hb) (fun _ _ h => h) (fun _ h => h.elim)
  have hsyn4 := (hsyn3.tch ht4 (fun b' e hb' => h.apart b rfl (by rw [e, hb'])) (fun j hj _ => by rw [hj]; exact hm3.noRow)).mono hF
  have hT := tch_set w4 ⟨p, 3, none⟩ (.int .i64 (usedP (putP k r l) : Nat))
  have hTT : Tch F w (w4.setCell ⟨p, 3, none⟩ (.int .i64 (usedP (putP k r l) : Nat))) := (((tch_new hb).mono (fun _ h => h.elim)).trans (ht4.mono (fun j hj => by rw [hj]; exact hcur.1))).trans (hT.mono (fun j hj => by rw [hj]; exact h.here))
  refine ⟨w4, hr, hc4, ⟨some b, c2, ⟨srt_put h.srt.1, h.srt.2⟩, ⟨ok_put h.ok.1 hk hf, h.ok.2⟩, h.sz, ⟨by rw [used_put]; exact hz, h.used.2⟩, .inl h.here, fun j hj => ?_, hc4.set3 _, ?_, ?_, h.nils, h.none_, h.apart⟩, hTT⟩
  · rcases hj with hj | hj
    · exact ⟨(h.blocks j hj).1, Nat.lt_of_lt_of_le (h.blocks j hj).2 hTT.size⟩
    · have := ho.lt j hj
      exact ⟨by omega, Nat.lt_of_lt_of_le this.2 (Nat.le_trans ht4.size hT.size)⟩
  · exact hm4.tch hT (fun e => hne e) (fun j hj _ => by rw [hj]; exact hc4.noRow)
  · exact hsyn4.tch hT (fun b' e hb' => (h.ne2 b' e).1 hb') (fun j hj _ => by rw [hj]; exact hc4.noRow)
theorem putN_bad {size : Int} {k : Ky} {r : List Int} {l : List Pr} (h : ¬ OkK k) : putN size k r l = 9 := if_neg h
theorem putN_full {size : Int} {k : Ky} {r : List Int} {l : List Pr} (h : OkK k) (h2 : size < (usedP (cutP k l) + k.length + r.length : Nat)) : putN size k r l = 5 := by unfold putN; rw [if_pos h, if_pos h2]
theorem putN_ok {size : Int} {k : Ky} {r : List Int} {l : List Pr} (h : OkK k) (h2 : ¬ size < (usedP (cutP k l) + k.length + r.length : Nat)) : putN size k r l = 0 := by unfold putN; rw [if_pos h, if_neg h2]
theorem putL_same {size : Int} {k : Ky} {r : List Int} {l : List Pr} (h : putN size k r l ≠ 0) : putL size k r l = l := if_neg h
theorem putL_put {size : Int} {k : Ky} {r : List Int} {l : List Pr} (h : putN size k r l = 0) : putL size k r l = putP k r l := if_pos h
set_option maxRecDepth 100000 in
set_option maxHeartbeats 2000000 in
theorem put_c (B : Nat) (F : Nat → Prop) (pv : Option Addr) (size : Int) (l m : List Pr) (k : Ky) (b n : Nat) (us : List Value) (ps : List (List Int)) (w : World) (h : Rcv w B F pv size l m) (hB : B ≤ w.heap.size) (hk : k.length ≤ maxLen) (hp : RsIn w b n us ps) (hn : n ≤ 1048576) (hs : ps.flatten.length ≤ 1152921504606846976) :
    Calls Try.prog 92 #[.pointer pv, sv k, .slice (some ⟨b, 0, none⟩) n n] w fun e w' => e = .returned (errF (putN size k ps.flatten l : Nat)) ∧ RTo w B F pv size (putL size k ps.flatten l) m w' := by
  by_cases hkk : OkK k
  · have hk1 := hkk.1
    have hk2 := hkk.2
    have h1 : ¬ ((k.length : Int) < 1) := by omega
    have h2 : ¬ ((64 : Int) < (k.length : Int)) := by omega
    have HKK := Lib.hid hkk
    have HO := Lib.hid (orE_t B F pv size l m w h hB)
    have HNL : Hid (pv = none → size = 0 ∧ l = [] ∧ m = []) := Lib.hid (fun e => by
      rcases h with h | ⟨p, e2, _⟩
      · exact ⟨h.2.1, h.2.2.1, h.2.2.2.1⟩
      · rw [e] at e2; cases e2)
    have HP := Lib.hid hp
    have hfit := Lib.hid hp.fit
    obtain ⟨r, hr⟩ : ∃ r, r = ps.flatten := ⟨_, rfl⟩
    rw [← hr] at hs hfit ⊢
    have HRR := Lib.hid hr
    clear h hp hr hkk
    go_enter Try.func92, Try.ntmps92
    go_wp2_with fail
    refine HO.out.mono ?_
    rintro e w1 ⟨G, p, rfl, hR⟩
    obtain ⟨c1, c2, hK⟩ := hR.1
    have HR := Lib.hid hR
    have HK := Lib.hid hK
    have hd0 : Below w1.heap.size w1 w1.drew := (Below.refl _ _).drew
    have hS0 : w1.drew.cell? ⟨p, 1, none⟩ = some (.map c1) ∧ w1.drew.cell? ⟨p, 3, none⟩ = some (.int .i64 (usedP l : Nat)) := ⟨hK.cells.cs.2.1, hK.cells.cs.2.2.2⟩
    have CS := Lib.hid (fun U (hU : Below w1.heap.size w1 U) => sizeAt_c B G c1 l k U (hK.cur.tch (tch_new hU) (fun _ _ h => h) (fun _ h => h.elim)) (by unfold maxLen; omega) (fun r hf => by have := hK.row hf; omega))
    have hBw := Lib.hid (Nat.le_trans hB hR.2.1.size)
    have hbR := hR.2.1
    have huc := used_cut (k := k) hK.srt.1
    have hul := hK.lens.2.2.1
    have HP1 := Lib.hid (HP.out.rows.len)
    obtain ⟨u, hu⟩ : ∃ u, u = usedP l := ⟨_, rfl⟩
    obtain ⟨z, hz⟩ : ∃ z, z = sizeAt k l := ⟨_, rfl⟩
    obtain ⟨q, hq⟩ : ∃ q, q = usedP (cutP k l) := ⟨_, rfl⟩
    obtain ⟨kl, hkl⟩ : ∃ kl, kl = k.length := ⟨_, rfl⟩
    rw [← hu] at hS0 hul huc
    rw [← hz] at CS huc
    rw [← hq] at huc
    have W1 : Hid (IntKind.i64.wrap ((u : Int) - (z : Int)) = (q : Int)) := Lib.hid (by rw [IntWalk.i64_in _ (by omega)]; omega)
    have W2 : Hid (IntKind.i64.wrap ((q : Int) + (k.length : Int)) = ((q + k.length : Nat) : Int)) := Lib.hid (by rw [IntWalk.i64_in _ (by omega)]; omega)
    have HQ := Lib.hid hq
    have HU := Lib.hid hu
    clear hK HO hR hB hq hu hz hkl
    go_wp2_with fail
    go_region_held3 (fun wx => wx.cell? ⟨p, 1, none⟩ = some (.map c1) ∧ wx.cell? ⟨p, 3, none⟩ = some (.int .i64 (u : Nat))) (first | (with_reducible exact hS0) | (with_reducible assumption) | fail)
      (first | (go_at_call 114; (with_reducible refine (CS.out _ hd0).mono ?_); rintro e w2 ⟨rfl, rfl⟩) | fail)
    rw [W1.out, W2.out]
    rename_i hHeld
    obtain ⟨w2, hw2⟩ : ∃ w2, w2 = w1.drew := ⟨_, rfl⟩
    rw [← hw2] at hd0 hS0 ⊢
    have HD := Lib.hid hd0
    have HP2 := Lib.hid (HP.out.below (bl_tr (HR.out.2.1.below (fun _ h => h.elim) (Nat.le_refl _)) HD.out))
    have HK2 := Lib.hid (HK.out.keep (tch_new HD.out) (fun _ _ h => h))
    have hb0 : q + k.length ≤ 1152921504606846976 := by omega
    clear hHeld hS0 hd0 CS huc hul W1 W2 hw2 hbR
    go_wp2
    go_loop [7, 9, 37] (fun s _ i => ∃ j t : Nat, j ≤ n ∧ i = .int .i64 j ∧ s = .int .i64 t ∧ Hid (t = q + k.length + (ps.take j).flatten.length)) (fun _ _ i => n - (intOf i).toNat)
    case atStart => exact ⟨0, q + k.length, by omega, rfl, rfl, Lib.hid rfl⟩
    case round =>
      obtain ⟨j, t, hj, rfl, rfl, HT⟩ := hrel
      by_cases hlj : j < n
      · have hjp : j < ps.length := by rw [HP2.out.len]; exact hlj
        have hc := HP2.out.here j hlj
        obtain ⟨aj, nj, cj, hej, hin⟩ := HP2.out.rows.at hjp
        rw [hej] at hc
        have hla := len_at hjp
        have hlen := hin.len
        have hT := HT.out
        have hb : t + nj ≤ 2305843009213693952 := by rw [hT, ← hlen]; have := HRR.out; rw [this] at hs; omega
        have HT2 : Hid (t + nj = q + k.length + (ps.take (j + 1)).flatten.length) := Lib.hid (by rw [hla.1, List.length_append, hlen, hT]; omega)
        clear hla hej hin hlen hjp hT
        go_wp2
        go_round
        case rel => exact ⟨j + 1, t + nj, by omega, by go_num, by go_num, HT2⟩
        case measure => simp [intOf]; omega
      · have hjn : j = n := by omega
        have hts : t = q + k.length + r.length := by rw [HT.out, HRR.out, hjn, List.take_of_length_le (by rw [HP2.out.len]; exact Nat.le_refl _)]
        have c0 := HK2.out.cells.cs.1
        by_cases hfull : size < (t : Int)
        · have HE : Hid (putN size k r l = 5) := Lib.hid (putN_full HKK.out (by rw [← HQ.out, ← hts]; exact hfull))
          have HF : Hid (RTo w B F pv size (putL size k r l) m w2) := Lib.hid (by
            rw [putL_same (by rw [HE.out]; decide)]
            exact HR.out.back ⟨c1, c2, HK2.out⟩ (fun j hj => .inl hj) ((tch_new HD.out).mono (fun _ h => h.elim)) HNL.out)
          clear hts
          go_wp2
          go_ret
          exact ⟨by rw [HE.out]; rfl, HF.out⟩
        · cases c1 with
          | none =>
            have h6 := HK2.out.none_ rfl
            omega
          | some b1 =>
            have hrl : r.length ≤ 67108864 := by have := HK2.out.sz; omega
            have HE : Hid (putN size k r l = 0) := Lib.hid (putN_ok HKK.out (by rw [← HQ.out, ← hts]; exact hfull))
            have PUT := Lib.hid (fun (w3 : World) (hb : Below w2.heap.size w2 w3) (ao : Option Addr) (c : Nat) ho => HK2.out.put (Nat.le_trans hBw.out HD.out.size) HKK.out hfit.out (by rw [← HQ.out, ← hts]; omega) (w3 := w3) hb (ao := ao) (n := r.length) (c := c) ho)
            have hu2 : usedP (putP k r l) = t := by rw [used_put, ← HQ.out, hts]
            rw [hu2] at PUT
            have CL := fun U => sclone_c k U (by omega)
            have CC := Lib.hid (fun U (hU : Below w2.heap.size w2 U) => concat_c b n us ps U (HP2.out.below hU) hn (by rw [← HRR.out]; omega))
            rw [← HRR.out] at CC
            have hd2 : Below w2.heap.size w2 w2.drew := (Below.refl _ _).drew
            have hS2 : w2.drew.cell? ⟨p, 1, none⟩ = some (.map (some b1)) := HK2.out.cells.cs.2.1
            have HK3 := Lib.hid (fun (w3 : World) (hb : Below w2.heap.size w2 w3) => (HK2.out.keep (tch_new hb) (fun _ _ h => h)).cells.cs.2.1)
            have htp : 0 < t := by omega
            clear hts hu2 hrl
            go_wp2_with fail
            go_region_held3 (fun wx => wx.cell? ⟨p, 1, none⟩ = some (.map (some b1))) (first | (with_reducible exact hS2) | (with_reducible assumption) | fail)
              (first
                | (go_at_call 118; (with_reducible refine (CL _).mono ?_); rintro e w3 ⟨rfl, hb3⟩; have hd3 := bl_tr hd2 hb3; have hS3 := HK3.out w3 hd3)
                | (go_at_call 82; (with_reducible refine (CC.out _ hd3).mono ?_); rintro e w4 ⟨⟨ao, c, rfl, ho⟩, hb4⟩; have hd4 := bl_tr hd3 hb4; have hS4 := HK3.out w4 hd4; obtain ⟨w5, hrun, hS5, hfin⟩ := PUT.out w4 hd4 ao c (own_base ho hd3.size); have hS6 := hS5.cs.2.1)
                | fail)
            have e3 := hS5.cs.2.2.2
            have e4 := hS5.free 3
            have HF : Hid (RTo w B F pv size (putL size k r l) m (w5.setCell ⟨p, 3, none⟩ (.int .i64 (t : Nat)))) := Lib.hid (by
              rw [putL_put HE.out]
              exact HR.out.back hfin.1 (fun j hj => hj.imp id (fun e => by have h1 := (ho.lt j e).1; have h2 := HD.out.size; have h3 := hd3.size; omega)) (((tch_new HD.out).mono (fun _ h => h.elim)).trans hfin.2) (fun e => absurd (HNL.out e).1 (by omega)))
            clear hrun hfin hS6 hS4 hS3 hS2 hd2 hd3 hd4 hS5 ho hb3 hb4 CC CL PUT HK3
            go_wp2
            go_ret
            exact ⟨by rw [HE.out]; rfl, HF.out⟩
  · have HE := Lib.hid (putN_bad (size := size) (r := ps.flatten) (l := l) hkk)
    have HS : Hid (RTo w B F pv size (putL size k ps.flatten l) m w) := Lib.hid (by rw [putL_same (by rw [HE.out]; decide)]; exact h.same (Tch.refl _ _))
    by_cases h1 : (k.length : Int) < 1
    · clear h hp hkk
      go_enter Try.func92, Try.ntmps92
      go_wp2
      go_ret
      exact ⟨by rw [HE.out]; rfl, HS.out⟩
    · have h2 : (64 : Int) < (k.length : Int) := by unfold OkK at hkk; omega
      clear h hp hkk
      go_enter Try.func92, Try.ntmps92
      go_wp2
      go_ret
      exact ⟨by rw [HE.out]; rfl, HS.out⟩
end Go.Proofs.Ytbkpkakjfhkfaaa
