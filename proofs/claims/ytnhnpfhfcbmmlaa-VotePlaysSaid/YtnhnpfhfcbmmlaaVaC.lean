/- saysGood and Check of a command. Conditions: the command's ends came in. -/
import Derived.Test.YtnhnpfhfcbmmlaaVaB
namespace Go.Proofs.Ytnhnpfhfcbmmlaa
open Go Go.RowKit
set_option linter.unusedVariables false
set_option linter.unusedSimpArgs false

theorem CAt.lit {w : World} {b : Nat} {x : Cm} {v : Value} (h : CAt w b 0 x v) : w.cell? ⟨b, 0, none⟩ = some (.int .i64 x.node) ∧ w.cell? ⟨b, 1, none⟩ = some (.int .i64 x.boot) ∧ w.cell? ⟨b, 2, none⟩ = some (.int .i64 x.seq) ∧ w.cell? ⟨b, 3, none⟩ = some (.int .i64 x.time) ∧ w.cell? ⟨b, 4, none⟩ = some (.int .i64 x.kind) ∧ w.cell? ⟨b, 5, none⟩ = some (.int .u32 x.vip) ∧ w.cell? ⟨b, 6, none⟩ = some (.int .i64 x.proto) ∧ w.cell? ⟨b, 7, none⟩ = some (.int .i64 x.port) ∧ w.cell? ⟨b, 8, none⟩ = some v ∧ w.cell? ⟨b, 9, none⟩ = some (.int .u32 x.dip) ∧ w.cell? ⟨b, 10, none⟩ = some (.int .u32 x.cvip) ∧ w.cell? ⟨b, 11, none⟩ = some (.bool x.up) := by
  have e : ∀ i, 0 + i = i := Nat.zero_add
  have h1 := h.c1; have h2 := h.c2; have h3 := h.c3; have h4 := h.c4; have h5 := h.c5; have h6 := h.c6; have h7 := h.c7; have h8 := h.c8; have h9 := h.c9; have h10 := h.c10; have h11 := h.c11
  rw [e] at h1 h2 h3 h4 h5 h6 h7 h8 h9 h10 h11
  exact ⟨h.c0, h1, h2, h3, h4, h5, h6, h7, h8, h9, h10, h11⟩
theorem says_split {x : Cm} : Says x ↔ (x.kind = 1 ∧ SvcOk x ∧ x.dip = 0 ∧ x.cvip = 0 ∧ x.up = false) ∨ (x.kind = 2 ∧ NoneS x ∧ IsDip x.dip ∧ (x.up = true ∧ IsVp x.cvip ∨ x.up = false ∧ x.cvip = 0)) ∨ (x.kind = 3 ∧ NoneS x ∧ IsDip x.dip ∧ x.cvip = 0) ∨ (x.kind = 4 ∧ NoneS x ∧ IsDip x.dip ∧ x.cvip = 0 ∧ x.up = false) := Iff.rfl
set_option maxRecDepth 100000 in
set_option maxHeartbeats 4000000 in
theorem says_c (x : Cm) (a : Option Addr) (n c : Nat) (w : World) (hI : InE w a n c x.es) (hT : TyC x) (hn : n ≤ 4611686018427387904) :
    Calls Try.prog 64 #[x.val (.slice a n c)] w fun e w' => e = .returned (.bool (decide (Says x))) ∧ Below w.heap.size w w' := by
  obtain ⟨z, hz⟩ : ∃ z, z = decide (Says x) := ⟨_, rfl⟩
  rw [← hz]
  obtain ⟨bd, hbd⟩ : ∃ bd, bd = decide (IsDip x.dip) := ⟨_, rfl⟩
  obtain ⟨ns, hns⟩ : ∃ ns, ns = decide (NoneS x) := ⟨_, rfl⟩
  obtain ⟨bs, hbs⟩ : ∃ bs, bs = decide (SvcOk x) := ⟨_, rfl⟩
  obtain ⟨bv, hbv⟩ : ∃ bv, bv = decide (IsVp x.cvip) := ⟨_, rfl⟩
  have CD := Lib.hid (fun W => home_any x.dip hT.dip W)
  rw [← hbd] at CD
  have CN := Lib.hid (fun (W : World) (hb : Below w.heap.size w W) => sameS_c x.vip x.proto x.port 0 0 0 x.es [] a none n c 0 0 W (hI.below hb) (inE_nil W) hn ns (by rw [hns, decide_eq_true_iff]; rfl))
  have CS := Lib.hid (fun (W : World) (hb : Below w.heap.size w W) => service_c x.vip x.proto x.port x.es a n c W (hI.below hb) hT.vip hn)
  have CV := Lib.hid (fun W => vip_c x.cvip hT.cvip W)
  rw [← hbv] at CV
  have eS : decide (IsVp x.vip ∧ (x.proto = 6 ∨ x.proto = 17) ∧ (1 ≤ x.port ∧ x.port ≤ 1023) ∧ OkE x.es) = bs := by rw [hbs]; rfl
  rw [eS] at CS
  have HZ := Lib.hid hz
  have HD : Hid (bd = true ↔ IsDip x.dip) := Lib.hid (by rw [hbd]; exact decide_eq_true_iff)
  have HN : Hid (ns = true ↔ NoneS x) := Lib.hid (by rw [hns]; exact decide_eq_true_iff)
  have HS : Hid (bs = true ↔ SvcOk x) := Lib.hid (by rw [hbs]; exact decide_eq_true_iff)
  have HV : Hid (bv = true ↔ IsVp x.cvip) := Lib.hid (by rw [hbv]; exact decide_eq_true_iff)
  obtain ⟨W, hW⟩ : ∃ W, W = w.alloc (x.obj (.slice a n c)) := ⟨_, rfl⟩
  have hA := cAt_new w x (.slice a n c)
  rw [← hW] at hA
  have HBW : Hid (Below w.heap.size w W) := Lib.hid (by rw [hW]; exact bl_al (Below.refl _ _) _)
  obtain ⟨q, hq⟩ : ∃ q, q = w.heap.size := ⟨_, rfl⟩
  rw [← hq] at hA
  have HW := Lib.hid (And.intro hW hq)
  have HA := Lib.hid hA
  have FN : ∀ (w' : World), ¬ Says x → Below w.heap.size w w' → (Ending.returned (.bool false) = Ending.returned (.bool z) ∧ Below w.heap.size w w') := fun w' h hb => ⟨by rw [HZ.out, decide_eq_false h], hb⟩
  have FY : ∀ (w' : World), Says x → Below w.heap.size w w' → (Ending.returned (.bool true) = Ending.returned (.bool z) ∧ Below w.heap.size w w') := fun w' h hb => ⟨by rw [HZ.out, decide_eq_true h], hb⟩
  have FN := Lib.hid FN
  have FY := Lib.hid FY
  obtain ⟨k0, k1, k2, k3, k4, k5, k6, k7, k8, k9, k10, k11⟩ := hA.lit
  clear hA hW hq hbd hns hbs hbv hz hI eS
  go_enter Try.func64, Try.ntmps64
  go_upto_region 1 with fail
  rw [show w.alloc (.cells #[.int .i64 x.node, .int .i64 x.boot, .int .i64 x.seq, .int .i64 x.time, .int .i64 x.kind, .int .u32 x.vip, .int .i64 x.proto, .int .i64 x.port, .slice a n c, .int .u32 x.dip, .int .u32 x.cvip, .bool x.up] tyC) = W from HW.out.1.symm, ← HW.out.2]
  go_wp2_with fail
  refine (CD.out _).mono ?_
  rintro e w1 ⟨⟨h0, v0, rfl⟩, hb⟩
  have HB1 := Lib.hid (bl_tr HBW.out hb)
  have HA1 := Lib.hid (HA.out.below hb)
  clear hb k0 k1 k2 k3 k4 k5 k6 k7 k8 k9 k10 k11
  obtain ⟨k0, k1, k2, k3, k4, k5, k6, k7, k8, k9, k10, k11⟩ := HA1.out.lit
  go_wp2_with fail
  refine (CN.out w1 HB1.out).mono ?_
  rintro e w2 ⟨rfl, hb⟩
  have HB2 := Lib.hid (bl_tr HB1.out hb)
  have HA2 := Lib.hid (HA1.out.below hb)
  clear hb k0 k1 k2 k3 k4 k5 k6 k7 k8 k9 k10 k11
  obtain ⟨k0, k1, k2, k3, k4, k5, k6, k7, k8, k9, k10, k11⟩ := HA2.out.lit
  clear CD CN HA HA1 HBW
  have HX : Hid (x.kind = 1 ∨ x.kind = 2 ∨ x.kind = 3 ∨ x.kind = 4 ∨ (x.kind ≠ 1 ∧ x.kind ≠ 2 ∧ x.kind ≠ 3 ∧ x.kind ≠ 4)) := Lib.hid (by omega)
  obtain ⟨kn, hkn⟩ : ∃ kn, kn = x.kind := ⟨_, rfl⟩
  have HKN := Lib.hid hkn
  rw [← hkn] at k4
  rcases HX.out with hk | hk | hk | hk | ⟨hk1, hk2, hk3, hk4⟩
  · have HK := Lib.hid hk
    obtain rfl : kn = 1 := by omega
    clear hk hkn
    go_wp2_with fail
    refine (CS.out w2 HB2.out).mono ?_
    rintro e w3 ⟨rfl, hb⟩
    have HB3 := Lib.hid (bl_tr HB2.out hb)
    have HA3 := Lib.hid (HA2.out.below hb)
    clear hb k0 k1 k2 k3 k4 k5 k6 k7 k8 k9 k10 k11
    obtain ⟨k0, k1, k2, k3, k4, k5, k6, k7, k8, k9, k10, k11⟩ := HA3.out.lit
    clear CS CV
    cases bs with
    | false =>
      have N : Hid (¬ Says x) := Lib.hid (fun h => by have := HK.out; rcases h with h | h | h | h <;> first | (have := HS.out.2 h.2.1; cases this) | (exfalso; omega))
      go_wp2
      go_ret
      exact FN.out _ N.out HB3.out
    | true =>
      by_cases hd : x.dip = 0
      · by_cases hv : x.cvip = 0
        · cases hu : x.up with
          | true =>
            have N : Hid (¬ Says x) := Lib.hid (fun h => by have := HK.out; rcases h with h | h | h | h <;> first | (have := h.2.2.2.2; rw [hu] at this; cases this) | (exfalso; omega))
            rw [hd] at k9
            rw [hv] at k10
            rw [hu] at k11
            clear hd hv hu
            go_wp2
            go_ret
            exact FN.out _ N.out HB3.out
          | false =>
            have N : Hid (Says x) := Lib.hid (.inl ⟨HK.out, HS.out.1 (by simp), hd, hv, hu⟩)
            rw [hd] at k9
            rw [hv] at k10
            rw [hu] at k11
            clear hd hv hu
            go_wp2
            go_ret
            exact FY.out _ N.out HB3.out
        · have N : Hid (¬ Says x) := Lib.hid (fun h => by have := HK.out; rcases h with h | h | h | h <;> first | exact hv h.2.2.2.1 | (exfalso; omega))
          have g : (x.cvip == 0) = false := by simp [hv]
          rw [hd] at k9
          clear hd hv
          go_wp2
          go_ret
          exact FN.out _ N.out HB3.out
      · have N : Hid (¬ Says x) := Lib.hid (fun h => by have := HK.out; rcases h with h | h | h | h <;> first | exact hd h.2.2.1 | (exfalso; omega))
        have g : (x.dip == 0) = false := by simp [hd]
        clear hd
        go_wp2
        go_ret
        exact FN.out _ N.out HB3.out
  · have HK := Lib.hid hk
    obtain rfl : kn = 2 := by omega
    clear hk hkn CS
    cases bd with
    | false =>
      have N : Hid (¬ Says x) := Lib.hid (fun h => by have := HK.out; rcases h with h | h | h | h <;> first | (have := HD.out.2 h.2.2.1; cases this) | (exfalso; omega))
      go_wp2
      go_ret
      exact FN.out _ N.out HB2.out
    | true =>
      cases ns with
      | false =>
        have N : Hid (¬ Says x) := Lib.hid (fun h => by have := HK.out; rcases h with h | h | h | h <;> first | (have := HN.out.2 h.2.1; cases this) | (exfalso; omega))
        go_wp2
        go_ret
        exact FN.out _ N.out HB2.out
      | true =>
        cases hu : x.up with
        | true =>
          rw [hu] at k11
          go_wp2_with fail
          refine (CV.out w2).mono ?_
          rintro e w3 ⟨rfl, hb⟩
          have HB3 := Lib.hid (bl_tr HB2.out hb)
          have HA3 := Lib.hid (HA2.out.below hb)
          have HU := Lib.hid hu
          clear hb k0 k1 k2 k3 k4 k5 k6 k7 k8 k9 k10 k11 hu
          obtain ⟨k0, k1, k2, k3, k4, k5, k6, k7, k8, k9, k10, k11⟩ := HA3.out.lit
          rw [HU.out] at k11
          cases bv with
          | true =>
            have N : Hid (Says x) := Lib.hid (.inr (.inl ⟨HK.out, HN.out.1 (by simp), HD.out.1 (by simp), .inl ⟨HU.out, HV.out.1 (by simp)⟩⟩))
            go_wp2
            go_ret
            exact FY.out _ N.out HB3.out
          | false =>
            have N : Hid (¬ Says x) := Lib.hid (fun h => by
              have hK := HK.out
              have hU := HU.out
              rcases h with h | h | h | h
              · exfalso; omega
              · rcases h.2.2.2 with h2 | h2
                · have := HV.out.2 h2.2; cases this
                · rw [hU] at h2; cases h2.1
              · exfalso; omega
              · exfalso; omega)
            go_wp2
            go_ret
            exact FN.out _ N.out HB3.out
        | false =>
          have HU := Lib.hid hu
          rw [hu] at k11
          by_cases hv : x.cvip = 0
          · have N : Hid (Says x) := Lib.hid (.inr (.inl ⟨HK.out, HN.out.1 (by simp), HD.out.1 (by simp), .inr ⟨hu, hv⟩⟩))
            rw [hv] at k10
            clear hv hu
            go_wp2
            go_ret
            exact FY.out _ N.out HB2.out
          · have N : Hid (¬ Says x) := Lib.hid (fun h => by
              have hK := HK.out
              have hU := HU.out
              rcases h with h | h | h | h
              · exfalso; omega
              · rcases h.2.2.2 with h2 | h2
                · rw [hU] at h2; cases h2.1
                · exact hv h2.2
              · exfalso; omega
              · exfalso; omega)
            have g : (x.cvip == 0) = false := by simp [hv]
            clear hv hu
            go_wp2
            go_ret
            exact FN.out _ N.out HB2.out
  · have HK := Lib.hid hk
    obtain rfl : kn = 3 := by omega
    clear hk hkn CS
    cases bd with
    | false =>
      have N : Hid (¬ Says x) := Lib.hid (fun h => by have := HK.out; rcases h with h | h | h | h <;> first | (have := HD.out.2 h.2.2.1; cases this) | (exfalso; omega))
      go_wp2
      go_ret
      exact FN.out _ N.out HB2.out
    | true =>
      cases ns with
      | false =>
        have N : Hid (¬ Says x) := Lib.hid (fun h => by have := HK.out; rcases h with h | h | h | h <;> first | (have := HN.out.2 h.2.1; cases this) | (exfalso; omega))
        go_wp2
        go_ret
        exact FN.out _ N.out HB2.out
      | true =>
        clear CV
        by_cases hv : x.cvip = 0
        · have N : Hid (Says x) := Lib.hid (.inr (.inr (.inl ⟨HK.out, HN.out.1 (by simp), HD.out.1 (by simp), hv⟩)))
          rw [hv] at k10
          clear hv
          go_wp2
          go_ret
          exact FY.out _ N.out HB2.out
        · have N : Hid (¬ Says x) := Lib.hid (fun h => by have := HK.out; rcases h with h | h | h | h <;> first | exact hv h.2.2.2 | exact hv h.2.2.2.1 | (exfalso; omega))
          have g : (x.cvip == 0) = false := by simp [hv]
          clear hv
          go_wp2
          go_ret
          exact FN.out _ N.out HB2.out
  · have HK := Lib.hid hk
    obtain rfl : kn = 4 := by omega
    clear hk hkn CS
    cases bd with
    | false =>
      have N : Hid (¬ Says x) := Lib.hid (fun h => by have := HK.out; rcases h with h | h | h | h <;> first | (have := HD.out.2 h.2.2.1; cases this) | (exfalso; omega))
      go_wp2
      go_ret
      exact FN.out _ N.out HB2.out
    | true =>
      cases ns with
      | false =>
        have N : Hid (¬ Says x) := Lib.hid (fun h => by have := HK.out; rcases h with h | h | h | h <;> first | (have := HN.out.2 h.2.1; cases this) | (exfalso; omega))
        go_wp2
        go_ret
        exact FN.out _ N.out HB2.out
      | true =>
        clear CV
        by_cases hv : x.cvip = 0
        · cases hu : x.up with
          | false =>
            have N : Hid (Says x) := Lib.hid (.inr (.inr (.inr ⟨HK.out, HN.out.1 (by simp), HD.out.1 (by simp), hv, hu⟩)))
            rw [hv] at k10
            rw [hu] at k11
            clear hv hu
            go_wp2
            go_ret
            exact FY.out _ N.out HB2.out
          | true =>
            have N : Hid (¬ Says x) := Lib.hid (fun h => by have := HK.out; rcases h with h | h | h | h <;> first | (exfalso; omega) | (have h2 := h.2.2.2.2; rw [hu] at h2; cases h2))
            rw [hv] at k10
            rw [hu] at k11
            clear hv hu
            go_wp2
            go_ret
            exact FN.out _ N.out HB2.out
        · have N : Hid (¬ Says x) := Lib.hid (fun h => by have := HK.out; rcases h with h | h | h | h <;> first | exact hv h.2.2.2.1 | (exfalso; omega))
          have g : (x.cvip == 0) = false := by simp [hv]
          clear hv
          go_wp2
          go_ret
          exact FN.out _ N.out HB2.out
  · have N : Hid (¬ Says x) := Lib.hid (fun h => by rcases h with h | h | h | h <;> (exfalso; omega))
    have g1 : (kn == 1) = false := by simp; omega
    have g2 : (kn == 2) = false := by simp; omega
    have g3 : (kn == 3) = false := by simp; omega
    have g4 : (kn == 4) = false := by simp; omega
    clear hk1 hk2 hk3 hk4 hkn HX CS CV
    go_wp2
    go_ret
    exact FN.out _ N.out HB2.out
set_option maxRecDepth 100000 in
set_option maxHeartbeats 4000000 in
theorem check_c (x : Cm) (a : Option Addr) (n c : Nat) (w : World) (hI : InE w a n c x.es) (hT : TyC x) (hn : n ≤ 4611686018427387904) :
    Calls Try.prog 22 #[x.val (.slice a n c)] w fun e w' => e = .returned (errF (if GoodC x then 0 else 9)) ∧ Below w.heap.size w w' := by
  obtain ⟨z, hz⟩ : ∃ z : Int, z = if GoodC x then 0 else 9 := ⟨_, rfl⟩
  rw [← hz]
  obtain ⟨b0, hb0⟩ : ∃ b, b = decide (IsMgr x.node) := ⟨_, rfl⟩
  obtain ⟨b1, hb1⟩ : ∃ b, b = decide (IsTm x.boot) := ⟨_, rfl⟩
  obtain ⟨b2, hb2⟩ : ∃ b, b = decide (IsTm x.seq) := ⟨_, rfl⟩
  obtain ⟨b3, hb3⟩ : ∃ b, b = decide (IsTm x.time) := ⟨_, rfl⟩
  obtain ⟨b4, hb4⟩ : ∃ b, b = decide (Says x) := ⟨_, rfl⟩
  have C0 := Lib.hid (fun W => mgr_c x.node hT.node W)
  have C1 := Lib.hid (fun W => time_c x.boot W)
  have C2 := Lib.hid (fun W => time_c x.seq W)
  have C3 := Lib.hid (fun W => time_c x.time W)
  have C4 := Lib.hid (fun (W : World) (hb : Below w.heap.size w W) => says_c x a n c W (hI.below hb) hT hn)
  rw [← hb0] at C0
  rw [← hb1] at C1
  rw [← hb2] at C2
  rw [← hb3] at C3
  rw [← hb4] at C4
  have HZ := Lib.hid hz
  have HG : Hid (GoodC x ↔ (b0 = true ∧ b1 = true ∧ b2 = true ∧ b3 = true ∧ b4 = true)) := Lib.hid (by
    rw [hb0, hb1, hb2, hb3, hb4]
    simp only [decide_eq_true_iff]
    rfl)
  obtain ⟨W, hW⟩ : ∃ W, W = w.alloc (x.obj (.slice a n c)) := ⟨_, rfl⟩
  have hA := cAt_new w x (.slice a n c)
  rw [← hW] at hA
  have HBW : Hid (Below w.heap.size w W) := Lib.hid (by rw [hW]; exact bl_al (Below.refl _ _) _)
  obtain ⟨q, hq⟩ : ∃ q, q = w.heap.size := ⟨_, rfl⟩
  rw [← hq] at hA
  have HW := Lib.hid (And.intro hW hq)
  have FN : ∀ (w' : World), ¬ (b0 = true ∧ b1 = true ∧ b2 = true ∧ b3 = true ∧ b4 = true) → Below w.heap.size w w' → (Ending.returned (errnoF 9) = Ending.returned (errF z) ∧ Below w.heap.size w w') := fun w' h hb => ⟨by rw [HZ.out, if_neg (fun g => h (HG.out.1 g))]; rfl, hb⟩
  have FN := Lib.hid FN
  obtain ⟨k0, k1, k2, k3, k4, k5, k6, k7, k8, k9, k10, k11⟩ := hA.lit
  clear hA hW hq hb0 hb1 hb2 hb3 hb4 hz hI
  go_enter Try.func22, Try.ntmps22
  go_upto_region 1 with fail
  rw [show w.alloc (.cells #[.int .i64 x.node, .int .i64 x.boot, .int .i64 x.seq, .int .i64 x.time, .int .i64 x.kind, .int .u32 x.vip, .int .i64 x.proto, .int .i64 x.port, .slice a n c, .int .u32 x.dip, .int .u32 x.cvip, .bool x.up] tyC) = W from HW.out.1.symm, ← HW.out.2]
  go_wp2_with fail
  refine (C0.out _).mono ?_
  rintro e w1 ⟨rfl, rfl⟩
  cases b0 with
  | false =>
    have N := Lib.hid (show ¬ (false = true ∧ b1 = true ∧ b2 = true ∧ b3 = true ∧ b4 = true) from fun h => by cases h.1)
    go_wp2
    go_ret
    exact FN.out _ N.out HBW.out
  | true =>
    go_wp2_with fail
    refine (C1.out _).mono ?_
    rintro e w1 ⟨rfl, rfl⟩
    cases b1 with
    | false =>
      have N := Lib.hid (show ¬ (true = true ∧ false = true ∧ b2 = true ∧ b3 = true ∧ b4 = true) from fun h => by cases h.2.1)
      go_wp2
      go_ret
      exact FN.out _ N.out HBW.out
    | true =>
      go_wp2_with fail
      refine (C2.out _).mono ?_
      rintro e w1 ⟨rfl, rfl⟩
      cases b2 with
      | false =>
        have N := Lib.hid (show ¬ (true = true ∧ true = true ∧ false = true ∧ b3 = true ∧ b4 = true) from fun h => by cases h.2.2.1)
        go_wp2
        go_ret
        exact FN.out _ N.out HBW.out
      | true =>
        go_wp2_with fail
        refine (C3.out _).mono ?_
        rintro e w1 ⟨rfl, rfl⟩
        cases b3 with
        | false =>
          have N := Lib.hid (show ¬ (true = true ∧ true = true ∧ true = true ∧ false = true ∧ b4 = true) from fun h => by cases h.2.2.2.1)
          go_wp2
          go_ret
          exact FN.out _ N.out HBW.out
        | true =>
          go_wp2_with fail
          refine (C4.out W HBW.out).mono ?_
          rintro e w2 ⟨rfl, hb⟩
          have HB2 := Lib.hid (bl_tr HBW.out hb)
          clear hb
          cases b4 with
          | false =>
            have N := Lib.hid (show ¬ (true = true ∧ true = true ∧ true = true ∧ true = true ∧ false = true) from fun h => by cases h.2.2.2.2)
            go_wp2
            go_ret
            exact FN.out _ N.out HB2.out
          | true =>
            go_wp2
            go_ret
            exact ⟨by rw [HZ.out, if_pos (HG.out.2 (by simp))]; rfl, HB2.out⟩
end Go.Proofs.Ytnhnpfhfcbmmlaa
