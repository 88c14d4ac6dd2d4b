/- StablePlays' walk: it returns true. Conditions: none but the script's own. -/
import Derived.Test.YtpbgccidhpfmgaaSnQ
import Derived.Deep.CutRange
namespace Go.Proofs.Ytpbgccidhpfmgaa
open Go Go.RowKit Go.Maps
set_option linter.unusedVariables false
set_option linter.unusedSimpArgs false

theorem infoK : (Try.prog.info? tyK).map (fun i => (i.zero, i.size, i.bytes)) = some (some (.string ⟨#[]⟩), 1, 16) := by kernel_rfl
theorem own_first (w : World) (u : Value) : (w.alloc (.cells #[u] tyK)).ownsRow w.heap.size tyK 1 (.slice (some ⟨w.heap.size, 0, none⟩) 1 1) 1 [u] :=
  ⟨rfl, .inr ⟨w.heap.size, 1, #[u], rfl, Nat.le_refl _, (MapKept.heap_alloc w _).1, Nat.le_refl _, by decide, rfl, rfl⟩⟩
theorem MsIn.news {w : World} {a : Option Addr} {n c : Nat} {ks : List Ky} (h : MsIn w a n c ks) {ad : Addr} (e : a = some ad) : ∀ j u, (ks.map sv)[j]? = some u → w.cell? (ad.add j) = some u := by
  intro j u hu
  rw [List.getElem?_map] at hu
  have hj : j < ks.length := by
    rcases Nat.lt_or_ge j ks.length with h1 | h1
    · exact h1
    · rw [List.getElem?_eq_none h1] at hu; cases hu
  have hl := h.len
  rcases h.here with h0 | ⟨b, off, e2, hc⟩
  · omega
  · rw [e2] at e
    cases e
    rw [Go.WideShapes.add_plain, hc j (by omega)]
    rw [List.getElem?_eq_getElem hj] at hu
    rw [← hu, List.getD_eq_getElem?_getD, List.getElem?_eq_getElem hj]
    rfl
theorem KsIn.kpt {K : Nat → Prop} {w w' : World} {b n : Nat} {ks : List Ky} (h : KsIn w b n ks) (hk : Kpt K w w') (hb : K b) : KsIn w' b n ks :=
  ⟨h.len, fun j hj => hk.cell (h.here j hj) hb, h.big⟩
theorem keys_of {w : World} {B mn : Nat} {v : Value} {k : Ky} {ms : List Ky} (h : w.ownsRow B tyK 1 v (1 + mn) ([sv k] ++ ms.map sv)) (hl : ms.length = mn) (hk : k.length ≤ maxLen) (hms : ∀ x ∈ ms, x.length ≤ maxLen) :
    ∃ g cc, v = .slice (some ⟨g, 0, none⟩) (1 + mn) cc ∧ 1 + mn ≤ cc ∧ (B ≤ g ∧ g < w.heap.size) ∧ KsIn w g (1 + mn) (k :: ms) := by
  rcases h.2 with ⟨_, h0⟩ | ⟨g, cap, cur, hv, h1, h2, h3, h4⟩
  · omega
  · subst hv
    refine ⟨g, cap, rfl, h3, h.lt g rfl, by rw [List.length_cons, hl]; omega, fun j hj => ?_, fun x hx => ?_⟩
    · rw [h.cellAt j (by omega)]
      have e : [sv k] ++ ms.map sv = (k :: ms).map sv := rfl
      rw [e, List.getElem?_map, List.getD_eq_getElem?_getD, List.getElem?_eq_getElem (by rw [List.length_cons, hl]; omega)]
      rfl
    · rcases List.mem_cons.1 hx with rfl | hx
      · exact hk
      · exact hms x hx
theorem putN_or (size : Int) (k : Ky) (r : List Int) (l : List Pr) : putN size k r l = 0 ∨ putN size k r l = 5 ∨ putN size k r l = 9 := by
  unfold putN
  split
  · split
    · exact .inr (.inl rfl)
    · exact .inl rfl
  · exact .inr (.inr rfl)
theorem Marked.kpt {K : Nat → Prop} {w w' : World} {g n : Nat} {l : List Int} (h : Marked w g n l) (hk : Kpt K w w') (hg : K g) : Marked w' g n l :=
  ⟨fun j hj => hk.cell (h.1 j hj) hg, hk.cell h.2.1 hg, hk.cell h.2.2 hg⟩
theorem own_kpt {K : Nat → Prop} {w w' : World} {B g cap N : Nat} {l : List Int} (h : Own w B g cap N l) (hk : Kpt K w w') (hg : K g) : Own w' B g cap N l :=
  ⟨own_eq h.1 (fun g' e => by cases e; exact hk g hg), h.2⟩
set_option maxRecDepth 100000 in
set_option maxHeartbeats 8000000 in
theorem stablePlays_t (z : Int) (a0 : Option Addr) (n0 c0 : Nat) (os0 : List OpS) (w : World) (hz : -9223372036854775808 ≤ z ∧ z ≤ 9223372036854775807) (hI0 : SIn w a0 n0 c0 os0) (hn0 : n0 ≤ 1152921504606846976) :
    Calls Try.prog 5 #[.int .i64 z, .slice a0 n0 c0] w fun e w' => e = .returned (.bool true) ∧ Below w.heap.size w w' := by
  have CA := Lib.hid (alive_c w)
  have I0 := Lib.hid hI0
  have hr0 := hI0.room
  have en := nilNe
  have ee := nilEl
  have e4 := errEq 4 (by omega)
  clear hI0
  go_enter Try.func5, Try.ntmps5
  go_wp2_with fail
  refine CA.out.mono ?_
  rintro e w1 ⟨rfl, hb1⟩
  have HB1 := Lib.hid hb1
  have CN := Lib.hid (new_c z w1)
  clear hb1 CA
  go_wp2_with fail
  refine CN.out.mono ?_
  rintro e w2 hW
  by_cases hzz : ¬ OkZ z
  · rcases hW with ⟨⟨h, _⟩ | ⟨_, rfl⟩, hb⟩
    · exact absurd h hzz
    have HB2 := Lib.hid (bl_tr HB1.out hb)
    clear hb CN
    by_cases hz0 : z < 0
    · clear hz hzz
      go_wp2
      go_ret
      exact ⟨rfl, HB2.out⟩
    · have hz1 : 67108864 < z := by unfold OkZ at hzz; omega
      clear hz hzz
      go_wp2
      go_ret
      exact ⟨rfl, HB2.out⟩
  have hzz := Classical.not_not.1 hzz
  obtain ⟨p, rfl, hO, _⟩ := SOn.made (w0 := w) (K := fun _ => False) hzz HB1.out (fun _ h => h.elim) hW
  have hz0 : ¬ z < 0 := by unfold OkZ at hzz; omega
  have hz1 : ¬ 67108864 < z := by unfold OkZ at hzz; omega
  have HZ := Lib.hid hzz
  have HO2 := Lib.hid hO
  have HB2 := Lib.hid hO.bel
  have CL := Lib.hid (longS_t a0 n0 c0 os0 w2 (I0.out.below hO.bel) hn0)
  clear hW hO CN hz hzz hn0
  go_wp2_with fail
  refine CL.out.mono ?_
  rintro e w3 ⟨z1, rfl, hb, hs0⟩
  have HB3 := Lib.hid (bl_tr HB2.out hb)
  have HO3 := Lib.hid (HO2.out.new hb).1
  have HS0 := Lib.hid hs0
  clear hb CL hs0 HO2
  cases z1 with
  | true =>
    go_wp2
    go_ret
    exact ⟨rfl, HB3.out⟩
  | false =>
  have hm0 := (HS0.out rfl).1
  have HSM := Lib.hid (HS0.out rfl).2
  clear HS0
  obtain ⟨X, hX⟩ : ∃ X, X = w3.alloc (rsO z (.slice none 0 0) (.slice none 0 0)) := ⟨_, rfl⟩
  have hPq := Pq.made HO3.out HZ.out
  rw [← hX] at hPq
  obtain ⟨q, hq⟩ : ∃ q, q = w3.heap.size := ⟨_, rfl⟩
  rw [← hq] at hPq
  have HPQ := Lib.hid hPq
  have HX := Lib.hid (show X = w3.alloc (.cells #[.slice none 0 0, .slice none 0 0, .int .i64 z] tyR) from hX)
  have HQ := Lib.hid hq
  clear hX hPq hq HO3
  go_upto_region 9 with fail
  rw [← HX.out, ← HQ.out]
  clear HX HQ
  go_wp2
  go_loopw [9, 10, 11, 12, 13, 14, 15, 16, 17, 59] (fun _ _ _ _ _ _ _ _ _ i wr => ∃ (j : Nat) (l m : List Pr), j ≤ n0 ∧ i = .int .i64 j ∧ Hid (Pq w wr p q z l m l m (fun _ => False))) (fun _ _ _ _ _ _ _ _ _ i _ => n0 - (intOf i).toNat)
  case atStart => exact ⟨0, [], [], by omega, rfl, HPQ⟩
  case round =>
    obtain ⟨j, l, m, hj, rfl, HQ⟩ := hrel
    clear HPQ
    by_cases hlj : j < n0
    · have hIr := I0.out.below HQ.out.bel
      obtain ⟨o, ho⟩ : ∃ o, o = os0.getD j opS := ⟨_, rfl⟩
      obtain ⟨b, off, eb, e0, e1, e2, e3, e4c⟩ := hIr.at hlj ho
      subst eb
      have hO := hIr.ops j hlj
      rw [← ho] at hO
      have hsm := HSM.out j hlj
      rw [← ho] at hsm
      obtain ⟨X, hX⟩ : ∃ X, X = wr.alloc o.obj := ⟨_, rfl⟩
      have hox : BxS X wr.heap.size o := by rw [hX]; exact BxS.new wr o
      have hbX : Below wr.heap.size wr X := by rw [hX]; exact bl_al (Below.refl _ _) _
      have hQX := (HQ.out.grow hbX).less (X2 := fun k => k = wr.heap.size) (fun k hk => .inr ⟨by omega, by rw [hk]; exact hox.lt⟩)
      obtain ⟨qb, hqb⟩ : ∃ qb, qb = wr.heap.size := ⟨_, rfl⟩
      rw [← hqb] at hox hQX
      obtain ⟨x0, x1, x2, x3, x4⟩ := hox.cs
      have HROW := Lib.hid (hO.row.below hbX)
      have HMORE := Lib.hid (hO.more.below hbX)
      have HRW : Hid (∀ W, Below w.heap.size w W → In W o.ra o.rn o.rc o.r) := Lib.hid (fun W hb => by have h7 := (I0.out.below hb).ops j hlj; rw [← ho] at h7; exact h7.row)
      have HKY := Lib.hid hO.key
      have HNUM := Lib.hid hO.nums
      have HQX := Lib.hid hQX
      have HX := Lib.hid (show X = wr.alloc (.cells #[.int .i64 o.kind, sv o.k, .slice o.ma o.mn o.mc, .slice o.ra o.rn o.rc, .int .i64 o.cut] tyO) from hX)
      have HQB := Lib.hid hqb
      have HBX := Lib.hid hox
      have ilj : (j : Int) < (n0 : Int) := by omega
      have j0 : (0 : Int) ≤ (j : Int) := by omega
      have ilc : (n0 : Int) ≤ (c0 : Int) := by omega
      clear hIr ho hX hox hbX hQX hqb hO HQ
      obtain ⟨kind, k, ma, mn, mc, ms, ra, rn, rc, r, cut⟩ := o
      simp only at e0 e1 e2 e3 e4c x0 x1 x2 x3 x4 hsm HROW HMORE HKY HNUM HX HRW
      go_upto_region 12 with fail
      rw [← HX.out, ← HQB.out]
      clear HX HQB e0 e1 e2 e3 e4c
      by_cases hk0 : kind = 0
      · subst hk0
        have CC := Lib.hid (copy_any r ra rn rc X HROW.out (by omega))
        go_wp2_with fail
        refine CC.out.mono ?_
        rintro e w5 ⟨g, rfl, hg, hb5⟩
        have hbx5 := HBX.out.tch (tch_new hb5) (fun h => h)
        obtain ⟨_, y1, _, y3, y4⟩ := hbx5.cs
        have hgl := hg.1.lt g rfl
        have hQ5 := (HQX.out.grow hb5).less (X2 := fun j => j = qb ∨ j = g) (fun j hj => by rcases hj with rfl | rfl; exact .inl rfl; exact .inr hgl)
        have HGL : Hid (w.heap.size ≤ g) := Lib.hid (Nat.le_trans HQX.out.bel.size hgl.1)
        have HROW5 := Lib.hid (HROW.out.below hb5)
        have HLEN := Lib.hid HROW.out.len
        have HMK := Lib.hid (hg.marked HLEN.out)
        have HG5 := Lib.hid hg
        have HB5 := Lib.hid hbx5
        have HQ5 := Lib.hid hQ5
        clear CC x0 x1 x2 x3 x4 hbx5 hgl hQ5 hg hb5 HQX HBX HROW HMORE
        go_upto_region 20 with fail
        obtain ⟨kk, hkk⟩ : ∃ kk : Nat, min (max cut 0) (rn : Int) = (kk : Int) := ⟨(min (max cut 0) (rn : Int)).toNat, (Int.toNat_of_nonneg (by omega)).symm⟩
        have hkn : kk ≤ rn := by omega
        rw [hkk]
        have HIN := Lib.hid (own_marks HG5.out HLEN.out HROW5.out.fit)
        have hdr := in_drop HIN.out kk hkn
        rw [Go.WideShapes.add_plain, Nat.zero_add] at hdr
        have HPT := Lib.hid (HQ5.out.put2d k HKY.out (HIN.out.take kk hkn) hdr (by omega) (by omega))
        have HTD := Lib.hid (List.take_append_drop kk r)
        rw [HTD.out] at HPT
        have hpn : putN z k r l = 0 ∨ putN z k r l = 5 ∨ putN z k r l = 9 := putN_or z k r l
        obtain ⟨pn, hpne⟩ : ∃ pn : Nat, pn = putN z k r l := ⟨_, rfl⟩
        rw [← hpne] at HPT hpn
        have CNU := Lib.hid (fun W => num13_t (pn : Int) (by omega) W)
        have CRP : Hid (∀ W, Pq w W p q z (putL z k r l) m l m (fun j => j = qb ∨ j = g) → In W ra rn rc r → Calls Try.prog 36 #[.pointer (some ⟨q, 0, none⟩), sv k, .slice ra rn rc] W fun e w' => e = .returned (.int .i64 (pn : Nat)) ∧ Pq w w' p q z (putL z k r l) m (putL z k r l) m (fun j => j = qb ∨ j = g) ∧ Kpt (fun j => j = qb ∨ j = g) W w') := Lib.hid (fun W hq hi => by
          have := hq.rput k HKY.out hi (by omega)
          rw [← hpne] at this
          exact this)
        have CKT := Lib.hid (fun W (hm : Marked W g rn r) (hi : In W ra rn rc r) => kept_any r ra rn rc g W hi hm (by omega))
        clear hpne hkk HIN HTD hdr
        have k0 : (0 : Int) ≤ (kk : Int) := by omega
        have hck : ¬ (rn + 2 = kk) := by omega
        have hkc : (kk : Int) ≤ ((rn + 2 : Nat) : Int) := by omega
        have hkc2 : (kk : Int) ≤ (rn : Int) + 2 := by omega
        have hkn' : (kk : Int) ≤ (rn : Int) := by omega
        have hS5 : w5.drew.cell? ⟨qb, 1, none⟩ = some (sv k) ∧ w5.drew.cell? ⟨qb, 3, none⟩ = some (.slice ra rn rc) := ⟨y1, y3⟩
        have hSA : ∀ o : Obj, (w5.alloc o).drew.cell? ⟨qb, 1, none⟩ = some (sv k) ∧ (w5.alloc o).drew.cell? ⟨qb, 3, none⟩ = some (.slice ra rn rc) := fun o => ⟨cell_later (bl_al (Below.refl _ _) o).drew y1, cell_later (bl_al (Below.refl _ _) o).drew y3⟩
        clear y1 y3 y4
        go_region_held3 (fun wx => wx.cell? ⟨qb, 1, none⟩ = some (sv k) ∧ wx.cell? ⟨qb, 3, none⟩ = some (.slice ra rn rc)) (first | (with_reducible exact hS5) | (with_reducible assumption) | (with_reducible exact hSA _) | fail)
          (first
            | (go_at_call 35; (with_reducible refine HPT.out.mono ?_); rintro e w6 ⟨rfl, hq6, hk6⟩; have hb6 := HB5.out.kpt hk6 (.inl rfl); have hS6 := (show w6.cell? ⟨qb, 1, none⟩ = some (sv k) ∧ w6.cell? ⟨qb, 3, none⟩ = some (.slice ra rn rc) from ⟨hb6.cs.2.1, hb6.cs.2.2.2.1⟩))
            | (go_at_call 16; (with_reducible refine (CNU.out _).mono ?_); rintro e w7 ⟨rfl, rfl⟩)
            | (go_at_call 36; (with_reducible refine (CRP.out w6 hq6 (HRW.out w6 hq6.bel)).mono ?_); rintro e w8 ⟨rfl, hq8, hk8⟩; have hb8 := hb6.kpt hk8 (.inl rfl); have hS8 := (show w8.cell? ⟨qb, 1, none⟩ = some (sv k) ∧ w8.cell? ⟨qb, 3, none⟩ = some (.slice ra rn rc) from ⟨hb8.cs.2.1, hb8.cs.2.2.2.1⟩))
            | (go_at_call 37; (with_reducible refine (CKT.out w8 ((HMK.out.kpt hk6 (.inr rfl)).kpt hk8 (.inr rfl)) (HRW.out w8 hq8.bel)).mono ?_); rintro e w9 ⟨rfl, hb9⟩; have hS9 := (show w9.cell? ⟨qb, 1, none⟩ = some (sv k) ∧ w9.cell? ⟨qb, 3, none⟩ = some (.slice ra rn rc) from ⟨cell_later hb9 hS8.1, cell_later hb9 hS8.2⟩))
            | fail)
        have HG9 := Lib.hid ((own_kpt (own_kpt HG5.out hk6 (.inr rfl)) hk8 (.inr rfl)).below hb9)
        have hq9 := (hq8.new hb9).1
        have HQ9' := Lib.hid hq9
        clear hq6 hk6 hb6 hS6 hq8 hk8 hb8 hS8 hb9 hS9 hS5 hSA hq9 HPT CRP CNU CKT HG5 HMK
        have CO := Lib.hid (over_any X.heap.size g (rn + 2) rn (rn + 2) _ w9 HG9.out (by omega) (by omega) (rn + 2))
        go_wp2_with fail
        refine CO.out.mono ?_
        rintro e w10 ⟨rfl, hgr⟩
        have HQ9 := Lib.hid ((HQ9'.out.write (tch_grown hgr) (fun j hj => by cases hj; exact ⟨.inr rfl, HGL.out⟩)).less (X2 := fun _ => False) (fun _ h => h.elim))
        clear hgr CO HQ9' HG9
        obtain ⟨av, cv, ps, K9, G9, hc9, hm9, hP9, hO9⟩ := HQ9.out.view
        rw [← hm9] at hO9
        have CE := Lib.hid (same_t hO9 hP9 rfl)
        clear hm9 hP9 hO9
        go_wp2_with fail
        refine CE.out.mono ?_
        rintro e w20 ⟨rfl, ht⟩
        have HQ20 := Lib.hid (HQ9.out.new (non_below ht)).1
        clear ht CE HQ9 hc9
        go_wp2
        go_roundw
        case rel => exact ⟨j + 1, _, _, by omega, by go_num, HQ20⟩
        case measure => simp [intOf]; omega
      by_cases hk1 : kind = 1
      · subst hk1
        obtain ⟨i0, hi0, hy0, hy1, hy2⟩ := info_parts infoK
        have hal : Below X.heap.size X (X.alloc (.cells #[sv k] tyK)) := bl_al (Below.refl _ _) _
        have HOWN : Hid ((X.alloc (.cells #[sv k] tyK)).ownsRow X.heap.size tyK 1 (.slice (some ⟨X.heap.size, 0, none⟩) 1 1) 1 [sv k]) := Lib.hid (own_first X (sv k))
        have x2' : (X.alloc (.cells #[sv k] 9)).cell? ⟨qb, 2, none⟩ = some (.slice ma mn mc) := cell_later hal x2
        have HM := Lib.hid (HMORE.out.below hal)
        have HMN := Lib.hid (fun ad (e : ma = some ad) => HM.out.news e)
        have HML := Lib.hid HM.out.len
        have HBA := Lib.hid hal
        have HBS := Lib.hid hal.size
        clear hal HROW HNUM HRW
        go_wp2_with (at_builtin; refine append_any rfl _ _ 73 rfl X.heap.size tyK i0 (.string ⟨#[]⟩) 1 16 Try.underlying73 hi0 hy0 hy1 hy2 rfl (by decide) _ 1 [sv k] rfl HOWN.out ma mn mc (ms.map sv) rfl HM.out.zero ?c1 HMN.out ?c2 ?c3 ?c4 HBS.out ?_)
        case c1 => rw [List.length_map, HML.out, Nat.mul_one]
        case c2 => intro u hu; obtain ⟨x, _, rfl⟩ := List.mem_map.1 hu; rfl
        case c3 => unfold maxLen; omega
        case c4 => omega
        intro v w5 hown hg
        obtain ⟨gk, cc, rfl, hcc, hgk, hKS⟩ := keys_of hown HML.out HKY.out HM.out.big
        have hb5 : Below X.heap.size X w5 := HBA.out.grown hg HBA.out.size (fun j hj => by cases hj; exact Nat.le_refl _)
        have hQ5 := (HQX.out.grow hb5).less (X2 := fun j => j = gk) (fun j hj => by subst hj; exact .inr hgk)
        have hn1 : 1 + mn ≤ 4611686018427387904 := by omega
        have CY := Lib.hid (hQ5.drop gk (1 + mn) cc (k :: ms) hKS hn1 hcc rfl)
        have HKS := Lib.hid hKS
        have HCC := Lib.hid hcc
        clear hown hg hKS hb5 hQ5 HOWN HM HMN HML HBA HBS HQX x0 x1 x2 x2' x3 x4 HBX HMORE hgk
        go_wp2_with fail
        refine CY.out.mono ?_
        rintro e w6 ⟨rfl, hQ6, hk6⟩
        have CY2 := Lib.hid (hQ6.rdrop gk (1 + mn) cc (k :: ms) (HKS.out.kpt hk6 rfl) hn1 HCC.out rfl)
        clear hQ6 hk6 CY HKS
        go_wp2_with fail
        refine CY2.out.mono ?_
        rintro e w7 ⟨rfl, hQ7, hk7⟩
        have HQ9 := Lib.hid (hQ7.less (X2 := fun _ => False) (fun _ h => h.elim))
        clear hQ7 hk7 CY2
        obtain ⟨av, cv, ps, K9, G9, hc9, hm9, hP9, hO9⟩ := HQ9.out.view
        rw [← hm9] at hO9
        have CE := Lib.hid (same_t hO9 hP9 rfl)
        clear hm9 hP9 hO9
        go_wp2_with fail
        refine CE.out.mono ?_
        rintro e w20 ⟨rfl, ht⟩
        have HQ20 := Lib.hid (HQ9.out.new (non_below ht)).1
        clear ht CE HQ9 hc9
        go_wp2
        go_roundw
        case rel => exact ⟨j + 1, _, _, by omega, by go_num, HQ20⟩
        case measure => simp [intOf]; omega
      by_cases hk2 : kind = 2
      · subst hk2
        have CY := Lib.hid HQX.out.sync
        clear HQX x1 x2 x3 x4 HROW HMORE HKY HNUM
        go_wp2_with fail
        refine CY.out.mono ?_
        rintro e w5 ⟨rfl, hQ5, hk5⟩
        have CY2 := Lib.hid hQ5.rsync
        clear hQ5 hk5 CY HBX x0
        go_wp2_with fail
        refine CY2.out.mono ?_
        rintro e w6 ⟨rfl, hQ6, hk6⟩
        have HQ9 := Lib.hid (hQ6.less (X2 := fun _ => False) (fun _ h => h.elim))
        clear hQ6 hk6 CY2
        obtain ⟨av, cv, ps, K9, G9, hc9, hm9, hP9, hO9⟩ := HQ9.out.view
        rw [← hm9] at hO9
        have CE := Lib.hid (same_t hO9 hP9 rfl)
        clear hm9 hP9 hO9
        go_wp2_with fail
        refine CE.out.mono ?_
        rintro e w20 ⟨rfl, ht⟩
        have HQ20 := Lib.hid (HQ9.out.new (non_below ht)).1
        clear ht CE HQ9 hc9
        go_wp2
        go_roundw
        case rel => exact ⟨j + 1, _, _, by omega, by go_num, HQ20⟩
        case measure => simp [intOf]; omega
      by_cases hk3 : kind = 3
      · subst hk3
        have CY := Lib.hid HQX.out.crash
        clear HQX x1 x2 x3 x4 HROW HMORE HKY HNUM
        go_wp2_with fail
        refine CY.out.mono ?_
        rintro e w5 ⟨rfl, hQ5, hk5⟩
        have CY2 := Lib.hid hQ5.rcrash
        clear hQ5 hk5 CY HBX x0
        go_wp2_with fail
        refine CY2.out.mono ?_
        rintro e w6 ⟨rfl, hQ6, hk6⟩
        have HQ9 := Lib.hid (hQ6.less (X2 := fun _ => False) (fun _ h => h.elim))
        clear hQ6 hk6 CY2
        obtain ⟨av, cv, ps, K9, G9, hc9, hm9, hP9, hO9⟩ := HQ9.out.view
        rw [← hm9] at hO9
        have CE := Lib.hid (same_t hO9 hP9 rfl)
        clear hm9 hP9 hO9
        go_wp2_with fail
        refine CE.out.mono ?_
        rintro e w20 ⟨rfl, ht⟩
        have HQ20 := Lib.hid (HQ9.out.new (non_below ht)).1
        clear ht CE HQ9 hc9
        go_wp2
        go_roundw
        case rel => exact ⟨j + 1, _, _, by omega, by go_num, HQ20⟩
        case measure => simp [intOf]; omega
      · have CY := Lib.hid (HQX.out.get k HKY.out)
        have hgn : ∀ o, GotN o = 0 ∨ GotN o = 4 ∨ GotN o = 5 ∨ GotN o = 6 ∨ GotN o = 9 := fun o => by unfold GotN; split <;> omega
        have HGN := Lib.hid hgn
        clear x2 x3 x4 HROW HMORE HNUM hgn
        go_wp2_with fail
        refine CY.out.mono ?_
        rintro e w5 ⟨⟨b5, n5, c5, rfl, hI5⟩, hQ5, hk5⟩
        obtain ⟨_, y1, _⟩ := (HBX.out.kpt hk5 rfl).cs
        have HI5 := Lib.hid hI5
        have CY2 := Lib.hid (hQ5.rget k)
        have HQ9 := Lib.hid (hQ5.less (X2 := fun _ => False) (fun _ h => h.elim))
        clear hQ5 hk5 CY HBX hI5 x0 x1 HQX
        go_wp2_with fail
        refine CY2.out.mono ?_
        rintro e w6 ⟨⟨b6, n6, c6, rfl, hI6⟩, rfl⟩
        have s5 := str_of HI5.out.here HI5.out.len
        have s6 := str_of hI6.here hI6.len
        have CN5 := Lib.hid (num13_t _ (HGN.out (findP k l)) w5)
        clear hI6 HI5 CY2 y1 HKY
        go_wp2_with fail
        refine CN5.out.mono ?_
        rintro e w7 ⟨rfl, rfl⟩
        clear CN5 s5 s6
        obtain ⟨av, cv, ps, K9, G9, hc9, hm9, hP9, hO9⟩ := HQ9.out.view
        rw [← hm9] at hO9
        have CE := Lib.hid (same_t hO9 hP9 rfl)
        clear hm9 hP9 hO9
        go_wp2_with fail
        refine CE.out.mono ?_
        rintro e w20 ⟨rfl, ht⟩
        have HQ20 := Lib.hid (HQ9.out.new (non_below ht)).1
        clear ht CE HQ9 hc9
        go_wp2
        go_roundw
        case rel => exact ⟨j + 1, _, _, by omega, by go_num, HQ20⟩
        case measure => simp [intOf]; omega
    · have ilj : ¬ ((j : Int) < (n0 : Int)) := by omega
      have HBF := Lib.hid HQ.out.bel
      clear HQ
      go_wp2
      go_ret
      exact ⟨rfl, HBF.out⟩
end Go.Proofs.Ytpbgccidhpfmgaa
