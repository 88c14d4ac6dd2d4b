/- Contract of packet's read: whole headers of UDP, and of no known protocol. -/
import Derived.Test.YtfbmeoiaedlgoaaRdC
namespace Go.Proofs.Ytfbmeoiaedlgoaa
open Go Go.RowKit
set_option linter.unusedVariables false
set_option linter.unusedSimpArgs false

set_option maxRecDepth 100000 in
set_option maxHeartbeats 4000000 in
theorem read_udp (l : List Int) (b off n c : Nat) (w : World) (hI : In w (some ⟨b, off, none⟩) n c l) (hn : n ≤ 4611686018427387904) (hk : l.getD 9 0 = 17) (hs : 20 + 8 ≤ n) :
    Calls Try.prog 36 #[.slice (some ⟨b, off, none⟩) n c] w fun e w' => ∃ res, e = .returned res ∧ ReadRes l w' res ∧ Below w.heap.size w w' := by
  have hcap := hI.room
  have HI := Lib.hid hI
  obtain ⟨p, hp⟩ : ∃ p, p = ipk l := ⟨_, rfl⟩
  have hp9 : p.proto = l.getD 9 0 := by rw [hp]; rfl
  rw [← hp9] at hk
  have HP := Lib.hid hp
  have HL := Lib.hid (fun w => headLen_is p.proto 8 (.inl ⟨by omega, rfl⟩) w)
  have q6 : (p.proto == 6) = false := by simp [hk]
  have h20 : 20 ≤ n := by omega
  have h20i : (20 : Int) ≤ (n : Int) := by omega
  have h20c : (20 : Int) ≤ (c : Int) := by omega
  have d20 : ¬ c = 20 := by omega
  obtain ⟨m, hm⟩ : ∃ m, m = n - 20 := ⟨_, rfl⟩
  obtain ⟨cr, hcr⟩ : ∃ cr, cr = c - 20 := ⟨_, rfl⟩
  obtain ⟨o, ho⟩ : ∃ o, o = off + 20 := ⟨_, rfl⟩
  have hsub : (n : Int) - 20 = (m : Int) := by omega
  have hsub2 : (c : Int) - 20 = (cr : Int) := by omega
  have hmk : 8 ≤ m := by omega
  have hcm : m ≤ cr := by omega
  have hlt : ¬ ((m : Int) < 8) := by omega
  have HM := Lib.hid hm
  have HCR := Lib.hid hcr
  have HOF := Lib.hid ho
  have HK := Lib.hid hk
  obtain ⟨R, hR⟩ : ∃ R, w.alloc (.cells zeroCs 49) = R := ⟨_, rfl⟩
  have hB : Below w.heap.size w R := by rw [← hR]; exact bl_al (Below.refl _ _) _
  have hz : R.heap[w.heap.size]? = some (.cells zeroCs 49 (0, 0)) := by rw [← hR]; exact heap_alloc_new _ _
  have HR := Lib.hid hR
  have HB := Lib.hid hB
  have HZ := Lib.hid hz
  clear hI hk hR hB hz hp hp9
  go_enter Try.func36, Try.ntmps36
  go_wp2_with fail
  rw [HR.out]
  refine (readIP_pk l b off n c _ (HI.out.below HB.out) h20 hn p HP.out).mono ?_
  rintro e w1 ⟨rfl, hb⟩
  have HB1 := Lib.hid (bl_tr HB.out hb)
  have HZ1 : Hid (w1.heap[w.heap.size]? = some (.cells zeroCs 49 (0, 0))) := Lib.hid ((hb.block _ (lt_of_block HZ.out)).trans HZ.out)
  clear hb HB HZ HR
  go_wp2_with fail
  have HX : Hid (Rd w w1.heap.size p none 0 0 (w1.alloc (p.obj none 0 0))) := Lib.hid ⟨heap_alloc_new _ _, by rw [heap_alloc_old _ _ (lt_of_block HZ1.out)]; exact HZ1.out, lt_of_block HZ1.out, HB1.out.alloc HB1.out.size _⟩
  refine (HL.out _).mono ?_
  rintro e _ ⟨rfl, rfl⟩
  obtain ⟨q, hq⟩ : ∃ q, q = w1.heap.size := ⟨_, rfl⟩
  obtain ⟨X, hX⟩ : ∃ X, X = w1.alloc (p.obj none 0 0) := ⟨_, rfl⟩
  rw [← hX, ← hq] at HX
  rw [← hX, ← hq, ← hm, ← hcr, ← ho]
  have HIX := Lib.hid (HI.out.below HX.out.below)
  clear hX hq HZ1 HB1 hm hcr ho h20c d20
  obtain ⟨x0, x1, x2, x3, x4, x5, x6, x7, x8, x9, x10, x11, x12⟩ := HX.out.pk
  have xf := HX.out.free
  have N20 := Lib.hid (fun (c2 : Nat) => number2 (w := X.drew) (c := c) HIX.out.here HIX.out.len HIX.out.fit 20 c2 o (by omega) HOF.out)
  have N22 := Lib.hid (fun (c2 : Nat) => number2 (w := X.drew) (c := c) HIX.out.here HIX.out.len HIX.out.fit 22 c2 (o + 2) (by omega) (by have := HOF.out; omega))
  have j2 : (2 : Int) ≤ (cr : Int) := by omega
  have j4 : (4 : Int) ≤ (cr : Int) := by omega
  have d0 : ¬ cr = 0 := by omega
  have d2 : ¬ cr = 2 := by omega
  obtain ⟨y20, hy20⟩ : ∃ y, y = n2 l 20 := ⟨_, rfl⟩
  obtain ⟨y22, hy22⟩ : ∃ y, y = n2 l 22 := ⟨_, rfl⟩
  rw [← hy20] at N20
  rw [← hy22] at N22
  have HY20 := Lib.hid hy20
  have HY22 := Lib.hid hy22
  clear hy20 hy22
  go_wp2_with fail
  go_region_with (first | (go_at_call 51; with_reducible refine (N20.out _).mono ?_; rintro e w' ⟨rfl, rfl⟩) | (go_at_call 51; with_reducible refine (N22.out _).mono ?_; rintro e w' ⟨rfl, rfl⟩))
  obtain ⟨p1, hp1⟩ : ∃ p1 : Pk, p1 = { p with sp := y20, dp := y22 } := ⟨_, rfl⟩
  have HX1 : Hid (Rd w q p1 none 0 0 ((X.setCell ⟨q, 5, none⟩ (.int .i64 y20)).setCell ⟨q, 7, none⟩ (.int .i64 y22)).drew) := Lib.hid (by
    rw [hp1]
    exact ((HX.out.set 5 (.int .i64 y20) (p' := { p with sp := y20 }) (a' := none) (n' := 0) (c' := 0) rfl).set 7 (.int .i64 y22) rfl).drew)
  obtain ⟨X1, hX1⟩ : ∃ X1, X1 = ((X.setCell ⟨q, 5, none⟩ (.int .i64 y20)).setCell ⟨q, 7, none⟩ (.int .i64 y22)).drew := ⟨_, rfl⟩
  rw [← hX1] at HX1
  rw [← hX1]
  have HIX1 := Lib.hid (HI.out.below HX1.out.below)
  have q61 : (p1.proto == 6) = false := by rw [hp1]; exact q6
  have HP1 := Lib.hid hp1
  have HL1 : Hid (∀ w, Calls Try.prog 50 #[.int .i64 p1.proto] w fun e w' => e = .returned (.int .i64 8) ∧ w = w') := Lib.hid (by rw [hp1]; exact HL.out)
  clear hX1 hp1 q6 HL HX HIX xf x0 x1 x2 x3 x4 x5 x6 x7 x8 x9 x10 x11 x12 N20 N22 j2 j4 d0 d2
  obtain ⟨x0, x1, x2, x3, x4, x5, x6, x7, x8, x9, x10, x11, x12⟩ := HX1.out.pk
  have xf := HX1.out.free
  all_goals
    obtain ⟨pz, hpz⟩ : ∃ pz : Pk, pz = p1 := ⟨_, rfl⟩
    have HXz : Hid (Rd w q pz none 0 0 X1) := Lib.hid (by rw [hpz]; exact HX1.out)
    obtain ⟨Xz, hXz⟩ : ∃ Xz, Xz = X1 := ⟨_, rfl⟩
    rw [← hXz] at HXz
    have HLz : Hid (∀ w, Calls Try.prog 50 #[.int .i64 pz.proto] w fun e w' => e = .returned (.int .i64 8) ∧ w = w') := Lib.hid (by rw [hpz]; exact HL1.out)
    have HDz : Hid ({ pz with data := l.drop (20 + 8) } = dec l) := Lib.hid (by
      have h6 := HK.out
      rw [HP.out] at h6
      have h6 : l.getD 9 0 = 17 := h6
      rw [hpz, HP1.out, HP.out, HY20.out, HY22.out]
      unfold dec ipk
      rw [if_neg (by omega), if_neg (by omega), if_neg (by omega), if_neg (by omega), if_pos (by omega)])
    have HIXz := HIX1
    have q6z : (pz.proto == 6) = false := by rw [hpz]; exact q61
    rw [← hXz]
    clear hXz hpz HL1 HX1 HIX1 q61
    clear xf x0 x1 x2 x3 x4 x5 x6 x7 x8 x9 x10 x11 x12
    obtain ⟨x0, x1, x2, x3, x4, x5, x6, x7, x8, x9, x10, x11, x12⟩ := HXz.out.pk
    have xf := HXz.out.free
    have jK : (8 : Int) ≤ (m : Int) := by omega
    have jc : (8 : Int) ≤ (cr : Int) := by omega
    have jc2 : (m : Int) ≤ (cr : Int) := by omega
    obtain ⟨ad, had⟩ : ∃ ad : Addr, (if cr = 8 then some (⟨b, o, none⟩ : Addr) else some ⟨b, o + 8, none⟩) = some ad := by
      by_cases h : cr = 8
      · exact ⟨⟨b, o, none⟩, by rw [if_pos h]⟩
      · exact ⟨⟨b, o + 8, none⟩, by rw [if_neg h]⟩
    have hIn : ∀ W : World, In W (some ⟨b, off, none⟩) n c l → In W (some ad) (m - 8) (cr - 8) (l.drop (20 + 8)) := by
      intro W hW
      have h1 := HM.out
      have h2 := HCR.out
      have h3 := HOF.out
      have hl := hW.len
      refine ⟨by rw [List.length_drop]; omega, by omega, (fun e => by cases e), ?_, fun x hx => hW.fit x (List.mem_of_mem_drop hx)⟩
      by_cases h : cr = 8
      · have h0 : l.drop (20 + 8) = [] := List.drop_eq_nil_of_le (by omega)
        rw [h0, show m - 8 = 0 by omega]
        exact At.nil _ _ _
      · rw [if_neg h] at had
        cases had
        have := hW.here.sub hW.len (20 + 8) n (by omega) (Nat.le_refl _) (m - 8) (cr - 8) (o + 8) (by omega) (by omega)
        rw [List.take_of_length_le (by rw [List.length_drop]; omega)] at this
        exact this
    have HIN := Lib.hid hIn
    clear hIn
    go_wp2_with fail
    refine (HLz.out _).mono ?_
    rintro e _ ⟨rfl, rfl⟩
    go_wp2_with fail
    obtain ⟨D, hD⟩ : ∃ D : Pk, D = { pz with data := l.drop (20 + 8) } := ⟨_, rfl⟩
    have HDl : Hid (D = dec l) := Lib.hid (by rw [hD]; exact HDz.out)
    have HXD : Hid (Rd w q D (some ad) (m - 8) (cr - 8) (Xz.setCell ⟨q, 12, none⟩ (.slice (some ad) (m - 8) (cr - 8)))) := Lib.hid (by
      rw [hD]
      exact HXz.out.set 12 _ rfl)
    have hval : ∀ a n c, pz.val a n c = D.val a n c := by intro a n c; rw [hD]
    have hval2 := hval (some ad) (m - 8) (cr - 8)
    have hdat : D.data = l.drop (20 + 8) := by rw [hD]
    obtain ⟨X4, hX4⟩ : ∃ X4, X4 = Xz.setCell ⟨q, 12, none⟩ (.slice (some ad) (m - 8) (cr - 8)) := ⟨_, rfl⟩
    rw [← hX4] at HXD
    rw [← hX4]
    have HI4 := Lib.hid (HI.out.below HXD.out.below)
    have HN4 := Lib.hid (HIN.out X4 HI4.out)
    rw [← hdat] at HN4
    have hlD : D.data.length = m - 8 := HN4.out.len
    have HDAT := Lib.hid hdat
    unfold Pk.val Pk.cs at hval2
    rw [hval2]
    clear hD hX4 hval hval2 hdat HXz HIXz HDz HLz xf x0 x1 x2 x3 x4 x5 x6 x7 x8 x9 x10 x11 x12 jK jc jc2 had
    by_cases hok : Ok D
    · have hty : Typed D := by rw [HDl.out]; exact dec_typed HI4.out.fit
      have hbl := bts_len D
      have hfb := fit_bts hty.data
      refine (build_ok D (some ad) (m - 8) (cr - 8) hok hty X4 HN4.out).mono ?_
      rintro e X5 ⟨g, cap, rfl, hown, hb5⟩
      have HX5 := Lib.hid (HXD.out.later hb5)
      have HI5 := Lib.hid (HI.out.below HX5.out.below)
      have HN5 := Lib.hid (HN4.out.below hb5)
      have HA5 := Lib.hid hown.at
      have HBL := Lib.hid hbl
      have HFB := Lib.hid hfb
      obtain ⟨N, hN⟩ : ∃ N, N = 20 + segLen D := ⟨_, rfl⟩
      rw [← hN] at HA5 HBL
      rw [← hN]
      clear hown hb5 hbl hfb hN HXD HI4
      obtain ⟨x0, x1, x2, x3, x4, x5, x6, x7, x8, x9, x10, x11, x12⟩ := HX5.out.pk
      obtain ⟨z0, z1, z2, z3, z4, z5, z6, z7, z8, z9, z10, z11, z12⟩ := HX5.out.zk
      have zf := HX5.out.zfree
      have CE := Lib.hid (equal_any (bts D) l _ _ _ _ _ _ X5 HA5.out HI5.out.here HBL.out HI5.out.len HFB.out HI5.out.fit)
      by_cases hbt : bts D = l
      · have HIS : Hid (Is l) := Lib.hid ⟨by rw [← HDl.out]; exact hok, by rw [← HDl.out]; exact hbt⟩
        have hs : same (bts D) l = true := decide_eq_true hbt
        rw [hs] at CE
        clear hbt hs hok
        go_wp2_with (go_at_call 35; refine CE.out.mono ?_; rintro e _ ⟨rfl, rfl⟩)
        refine bodyPost_ret (v := .tuple #[D.val (some ad) (m - 8) (cr - 8), .bool true]) (by simp [results, Try.results36, go_sem, z0, z1, z2, z3, z4, z5, z6, z7, z8, z9, z10, z11, z12]) rfl ⟨_, rfl, .inr ⟨HIS.out, ad, m - 8, cr - 8, by rw [HDl.out], ?_⟩, ?_⟩
        · have key : ∀ W' : World, Below w.heap.size w W' → In W' (some ad) (m - 8) (cr - 8) (dec l).data := fun W' h => by
            rw [← HDl.out, HDAT.out]
            exact HIN.out W' (HI.out.below h)
          refine key _ ?_
          iterate 13 (refine Below.setCell ?_ (by first | exact Nat.le_refl _ | simp) _)
          exact HX5.out.below
        · iterate 13 (refine Below.setCell ?_ (by first | exact Nat.le_refl _ | simp) _)
          exact HX5.out.below
      · have HIS : Hid (¬ Is l) := Lib.hid (fun h => hbt (by rw [HDl.out]; exact h.2))
        have hs : same (bts D) l = false := decide_eq_false hbt
        rw [hs] at CE
        clear hbt hs hok
        go_wp2_with (go_at_call 35; refine CE.out.mono ?_; rintro e _ ⟨rfl, rfl⟩)
        refine bodyPost_ret (v := .tuple #[zeroV, .bool false]) (by simp [results, Try.results36, go_sem, z0, z1, z2, z3, z4, z5, z6, z7, z8, z9, z10, z11, z12]) rfl ⟨_, rfl, .inl ⟨HIS.out, rfl⟩, ?_⟩
        iterate 13 (refine Below.setCell ?_ (by first | exact Nat.le_refl _ | simp) _)
        exact HX5.out.below
    · have HIS : Hid (¬ Is l) := Lib.hid (fun h => hok (by rw [HDl.out]; exact h.1))
      refine (build_no D (some ad) (m - 8) (cr - 8) hlD (by omega) hok X4).mono ?_
      rintro e X5 ⟨rfl, hb5⟩
      have HX5 := Lib.hid (HXD.out.later hb5)
      obtain ⟨z0, z1, z2, z3, z4, z5, z6, z7, z8, z9, z10, z11, z12⟩ := HX5.out.zk
      have zf := HX5.out.zfree
      clear hb5 HXD hok
      go_wp2
      refine bodyPost_ret (v := .tuple #[zeroV, .bool false]) (by simp [results, Try.results36, go_sem, z0, z1, z2, z3, z4, z5, z6, z7, z8, z9, z10, z11, z12]) rfl ⟨_, rfl, .inl ⟨HIS.out, rfl⟩, ?_⟩
      iterate 13 (refine Below.setCell ?_ (by first | exact Nat.le_refl _ | simp) _)
      exact HX5.out.below
set_option maxRecDepth 100000 in
set_option maxHeartbeats 4000000 in
theorem read_other (l : List Int) (b off n c : Nat) (w : World) (hI : In w (some ⟨b, off, none⟩) n c l) (hn : n ≤ 4611686018427387904) (hk : l.getD 9 0 ≠ 6 ∧ l.getD 9 0 ≠ 17) (hs : 20 + 20 ≤ n) :
    Calls Try.prog 36 #[.slice (some ⟨b, off, none⟩) n c] w fun e w' => ∃ res, e = .returned res ∧ ReadRes l w' res ∧ Below w.heap.size w w' := by
  have hcap := hI.room
  have HI := Lib.hid hI
  obtain ⟨p, hp⟩ : ∃ p, p = ipk l := ⟨_, rfl⟩
  have hp9 : p.proto = l.getD 9 0 := by rw [hp]; rfl
  rw [← hp9] at hk
  have HP := Lib.hid hp
  have HL := Lib.hid (fun w => headLen_is p.proto 20 (.inr ⟨by omega, rfl⟩) w)
  have q6 : (p.proto == 6) = false := by simp [hk.1]
  have h20 : 20 ≤ n := by omega
  have h20i : (20 : Int) ≤ (n : Int) := by omega
  have h20c : (20 : Int) ≤ (c : Int) := by omega
  have d20 : ¬ c = 20 := by omega
  obtain ⟨m, hm⟩ : ∃ m, m = n - 20 := ⟨_, rfl⟩
  obtain ⟨cr, hcr⟩ : ∃ cr, cr = c - 20 := ⟨_, rfl⟩
  obtain ⟨o, ho⟩ : ∃ o, o = off + 20 := ⟨_, rfl⟩
  have hsub : (n : Int) - 20 = (m : Int) := by omega
  have hsub2 : (c : Int) - 20 = (cr : Int) := by omega
  have hmk : 20 ≤ m := by omega
  have hcm : m ≤ cr := by omega
  have hlt : ¬ ((m : Int) < 20) := by omega
  have HM := Lib.hid hm
  have HCR := Lib.hid hcr
  have HOF := Lib.hid ho
  have HK := Lib.hid hk
  obtain ⟨R, hR⟩ : ∃ R, w.alloc (.cells zeroCs 49) = R := ⟨_, rfl⟩
  have hB : Below w.heap.size w R := by rw [← hR]; exact bl_al (Below.refl _ _) _
  have hz : R.heap[w.heap.size]? = some (.cells zeroCs 49 (0, 0)) := by rw [← hR]; exact heap_alloc_new _ _
  have HR := Lib.hid hR
  have HB := Lib.hid hB
  have HZ := Lib.hid hz
  clear hI hk hR hB hz hp hp9
  go_enter Try.func36, Try.ntmps36
  go_wp2_with fail
  rw [HR.out]
  refine (readIP_pk l b off n c _ (HI.out.below HB.out) h20 hn p HP.out).mono ?_
  rintro e w1 ⟨rfl, hb⟩
  have HB1 := Lib.hid (bl_tr HB.out hb)
  have HZ1 : Hid (w1.heap[w.heap.size]? = some (.cells zeroCs 49 (0, 0))) := Lib.hid ((hb.block _ (lt_of_block HZ.out)).trans HZ.out)
  clear hb HB HZ HR
  go_wp2_with fail
  have HX : Hid (Rd w w1.heap.size p none 0 0 (w1.alloc (p.obj none 0 0))) := Lib.hid ⟨heap_alloc_new _ _, by rw [heap_alloc_old _ _ (lt_of_block HZ1.out)]; exact HZ1.out, lt_of_block HZ1.out, HB1.out.alloc HB1.out.size _⟩
  refine (HL.out _).mono ?_
  rintro e _ ⟨rfl, rfl⟩
  obtain ⟨q, hq⟩ : ∃ q, q = w1.heap.size := ⟨_, rfl⟩
  obtain ⟨X, hX⟩ : ∃ X, X = w1.alloc (p.obj none 0 0) := ⟨_, rfl⟩
  rw [← hX, ← hq] at HX
  rw [← hX, ← hq, ← hm, ← hcr, ← ho]
  have HIX := Lib.hid (HI.out.below HX.out.below)
  clear hX hq HZ1 HB1 hm hcr ho h20c d20
  obtain ⟨x0, x1, x2, x3, x4, x5, x6, x7, x8, x9, x10, x11, x12⟩ := HX.out.pk
  have xf := HX.out.free
  have N20 := Lib.hid (fun (c2 : Nat) => number2 (w := X.drew) (c := c) HIX.out.here HIX.out.len HIX.out.fit 20 c2 o (by omega) HOF.out)
  have N22 := Lib.hid (fun (c2 : Nat) => number2 (w := X.drew) (c := c) HIX.out.here HIX.out.len HIX.out.fit 22 c2 (o + 2) (by omega) (by have := HOF.out; omega))
  have j2 : (2 : Int) ≤ (cr : Int) := by omega
  have j4 : (4 : Int) ≤ (cr : Int) := by omega
  have d0 : ¬ cr = 0 := by omega
  have d2 : ¬ cr = 2 := by omega
  obtain ⟨y20, hy20⟩ : ∃ y, y = n2 l 20 := ⟨_, rfl⟩
  obtain ⟨y22, hy22⟩ : ∃ y, y = n2 l 22 := ⟨_, rfl⟩
  rw [← hy20] at N20
  rw [← hy22] at N22
  have HY20 := Lib.hid hy20
  have HY22 := Lib.hid hy22
  clear hy20 hy22
  go_wp2_with fail
  go_region_with (first | (go_at_call 51; with_reducible refine (N20.out _).mono ?_; rintro e w' ⟨rfl, rfl⟩) | (go_at_call 51; with_reducible refine (N22.out _).mono ?_; rintro e w' ⟨rfl, rfl⟩))
  obtain ⟨p1, hp1⟩ : ∃ p1 : Pk, p1 = { p with sp := y20, dp := y22 } := ⟨_, rfl⟩
  have HX1 : Hid (Rd w q p1 none 0 0 ((X.setCell ⟨q, 5, none⟩ (.int .i64 y20)).setCell ⟨q, 7, none⟩ (.int .i64 y22)).drew) := Lib.hid (by
    rw [hp1]
    exact ((HX.out.set 5 (.int .i64 y20) (p' := { p with sp := y20 }) (a' := none) (n' := 0) (c' := 0) rfl).set 7 (.int .i64 y22) rfl).drew)
  obtain ⟨X1, hX1⟩ : ∃ X1, X1 = ((X.setCell ⟨q, 5, none⟩ (.int .i64 y20)).setCell ⟨q, 7, none⟩ (.int .i64 y22)).drew := ⟨_, rfl⟩
  rw [← hX1] at HX1
  rw [← hX1]
  have HIX1 := Lib.hid (HI.out.below HX1.out.below)
  have q61 : (p1.proto == 6) = false := by rw [hp1]; exact q6
  have HP1 := Lib.hid hp1
  have HL1 : Hid (∀ w, Calls Try.prog 50 #[.int .i64 p1.proto] w fun e w' => e = .returned (.int .i64 20) ∧ w = w') := Lib.hid (by rw [hp1]; exact HL.out)
  clear hX1 hp1 q6 HL HX HIX xf x0 x1 x2 x3 x4 x5 x6 x7 x8 x9 x10 x11 x12 N20 N22 j2 j4 d0 d2
  obtain ⟨x0, x1, x2, x3, x4, x5, x6, x7, x8, x9, x10, x11, x12⟩ := HX1.out.pk
  have xf := HX1.out.free
  all_goals
    obtain ⟨pz, hpz⟩ : ∃ pz : Pk, pz = p1 := ⟨_, rfl⟩
    have HXz : Hid (Rd w q pz none 0 0 X1) := Lib.hid (by rw [hpz]; exact HX1.out)
    obtain ⟨Xz, hXz⟩ : ∃ Xz, Xz = X1 := ⟨_, rfl⟩
    rw [← hXz] at HXz
    have HLz : Hid (∀ w, Calls Try.prog 50 #[.int .i64 pz.proto] w fun e w' => e = .returned (.int .i64 20) ∧ w = w') := Lib.hid (by rw [hpz]; exact HL1.out)
    have HDz : Hid ({ pz with data := l.drop (20 + 20) } = dec l) := Lib.hid (by
      have h6 := HK.out
      rw [HP.out] at h6
      have h6 : l.getD 9 0 ≠ 6 ∧ l.getD 9 0 ≠ 17 := h6
      rw [hpz, HP1.out, HP.out, HY20.out, HY22.out]
      unfold dec ipk
      rw [if_neg (by omega), if_neg (by omega), if_neg (by omega), if_neg (by omega), if_neg (by omega)])
    have HIXz := HIX1
    have q6z : (pz.proto == 6) = false := by rw [hpz]; exact q61
    rw [← hXz]
    clear hXz hpz HL1 HX1 HIX1 q61
    clear xf x0 x1 x2 x3 x4 x5 x6 x7 x8 x9 x10 x11 x12
    obtain ⟨x0, x1, x2, x3, x4, x5, x6, x7, x8, x9, x10, x11, x12⟩ := HXz.out.pk
    have xf := HXz.out.free
    have jK : (20 : Int) ≤ (m : Int) := by omega
    have jc : (20 : Int) ≤ (cr : Int) := by omega
    have jc2 : (m : Int) ≤ (cr : Int) := by omega
    obtain ⟨ad, had⟩ : ∃ ad : Addr, (if cr = 20 then some (⟨b, o, none⟩ : Addr) else some ⟨b, o + 20, none⟩) = some ad := by
      by_cases h : cr = 20
      · exact ⟨⟨b, o, none⟩, by rw [if_pos h]⟩
      · exact ⟨⟨b, o + 20, none⟩, by rw [if_neg h]⟩
    have hIn : ∀ W : World, In W (some ⟨b, off, none⟩) n c l → In W (some ad) (m - 20) (cr - 20) (l.drop (20 + 20)) := by
      intro W hW
      have h1 := HM.out
      have h2 := HCR.out
      have h3 := HOF.out
      have hl := hW.len
      refine ⟨by rw [List.length_drop]; omega, by omega, (fun e => by cases e), ?_, fun x hx => hW.fit x (List.mem_of_mem_drop hx)⟩
      by_cases h : cr = 20
      · have h0 : l.drop (20 + 20) = [] := List.drop_eq_nil_of_le (by omega)
        rw [h0, show m - 20 = 0 by omega]
        exact At.nil _ _ _
      · rw [if_neg h] at had
        cases had
        have := hW.here.sub hW.len (20 + 20) n (by omega) (Nat.le_refl _) (m - 20) (cr - 20) (o + 20) (by omega) (by omega)
        rw [List.take_of_length_le (by rw [List.length_drop]; omega)] at this
        exact this
    have HIN := Lib.hid hIn
    clear hIn
    go_wp2_with fail
    refine (HLz.out _).mono ?_
    rintro e _ ⟨rfl, rfl⟩
    go_wp2_with fail
    obtain ⟨D, hD⟩ : ∃ D : Pk, D = { pz with data := l.drop (20 + 20) } := ⟨_, rfl⟩
    have HDl : Hid (D = dec l) := Lib.hid (by rw [hD]; exact HDz.out)
    have HXD : Hid (Rd w q D (some ad) (m - 20) (cr - 20) (Xz.setCell ⟨q, 12, none⟩ (.slice (some ad) (m - 20) (cr - 20)))) := Lib.hid (by
      rw [hD]
      exact HXz.out.set 12 _ rfl)
    have hval : ∀ a n c, pz.val a n c = D.val a n c := by intro a n c; rw [hD]
    have hval2 := hval (some ad) (m - 20) (cr - 20)
    have hdat : D.data = l.drop (20 + 20) := by rw [hD]
    obtain ⟨X4, hX4⟩ : ∃ X4, X4 = Xz.setCell ⟨q, 12, none⟩ (.slice (some ad) (m - 20) (cr - 20)) := ⟨_, rfl⟩
    rw [← hX4] at HXD
    rw [← hX4]
    have HI4 := Lib.hid (HI.out.below HXD.out.below)
    have HN4 := Lib.hid (HIN.out X4 HI4.out)
    rw [← hdat] at HN4
    have hlD : D.data.length = m - 20 := HN4.out.len
    have HDAT := Lib.hid hdat
    unfold Pk.val Pk.cs at hval2
    rw [hval2]
    clear hD hX4 hval hval2 hdat HXz HIXz HDz HLz xf x0 x1 x2 x3 x4 x5 x6 x7 x8 x9 x10 x11 x12 jK jc jc2 had
    by_cases hok : Ok D
    · have hty : Typed D := by rw [HDl.out]; exact dec_typed HI4.out.fit
      have hbl := bts_len D
      have hfb := fit_bts hty.data
      refine (build_ok D (some ad) (m - 20) (cr - 20) hok hty X4 HN4.out).mono ?_
      rintro e X5 ⟨g, cap, rfl, hown, hb5⟩
      have HX5 := Lib.hid (HXD.out.later hb5)
      have HI5 := Lib.hid (HI.out.below HX5.out.below)
      have HN5 := Lib.hid (HN4.out.below hb5)
      have HA5 := Lib.hid hown.at
      have HBL := Lib.hid hbl
      have HFB := Lib.hid hfb
      obtain ⟨N, hN⟩ : ∃ N, N = 20 + segLen D := ⟨_, rfl⟩
      rw [← hN] at HA5 HBL
      rw [← hN]
      clear hown hb5 hbl hfb hN HXD HI4
      obtain ⟨x0, x1, x2, x3, x4, x5, x6, x7, x8, x9, x10, x11, x12⟩ := HX5.out.pk
      obtain ⟨z0, z1, z2, z3, z4, z5, z6, z7, z8, z9, z10, z11, z12⟩ := HX5.out.zk
      have zf := HX5.out.zfree
      have CE := Lib.hid (equal_any (bts D) l _ _ _ _ _ _ X5 HA5.out HI5.out.here HBL.out HI5.out.len HFB.out HI5.out.fit)
      by_cases hbt : bts D = l
      · have HIS : Hid (Is l) := Lib.hid ⟨by rw [← HDl.out]; exact hok, by rw [← HDl.out]; exact hbt⟩
        have hs : same (bts D) l = true := decide_eq_true hbt
        rw [hs] at CE
        clear hbt hs hok
        go_wp2_with (go_at_call 35; refine CE.out.mono ?_; rintro e _ ⟨rfl, rfl⟩)
        refine bodyPost_ret (v := .tuple #[D.val (some ad) (m - 20) (cr - 20), .bool true]) (by simp [results, Try.results36, go_sem, z0, z1, z2, z3, z4, z5, z6, z7, z8, z9, z10, z11, z12]) rfl ⟨_, rfl, .inr ⟨HIS.out, ad, m - 20, cr - 20, by rw [HDl.out], ?_⟩, ?_⟩
        · have key : ∀ W' : World, Below w.heap.size w W' → In W' (some ad) (m - 20) (cr - 20) (dec l).data := fun W' h => by
            rw [← HDl.out, HDAT.out]
            exact HIN.out W' (HI.out.below h)
          refine key _ ?_
          iterate 13 (refine Below.setCell ?_ (by first | exact Nat.le_refl _ | simp) _)
          exact HX5.out.below
        · iterate 13 (refine Below.setCell ?_ (by first | exact Nat.le_refl _ | simp) _)
          exact HX5.out.below
      · have HIS : Hid (¬ Is l) := Lib.hid (fun h => hbt (by rw [HDl.out]; exact h.2))
        have hs : same (bts D) l = false := decide_eq_false hbt
        rw [hs] at CE
        clear hbt hs hok
        go_wp2_with (go_at_call 35; refine CE.out.mono ?_; rintro e _ ⟨rfl, rfl⟩)
        refine bodyPost_ret (v := .tuple #[zeroV, .bool false]) (by simp [results, Try.results36, go_sem, z0, z1, z2, z3, z4, z5, z6, z7, z8, z9, z10, z11, z12]) rfl ⟨_, rfl, .inl ⟨HIS.out, rfl⟩, ?_⟩
        iterate 13 (refine Below.setCell ?_ (by first | exact Nat.le_refl _ | simp) _)
        exact HX5.out.below
    · have HIS : Hid (¬ Is l) := Lib.hid (fun h => hok (by rw [HDl.out]; exact h.1))
      refine (build_no D (some ad) (m - 20) (cr - 20) hlD (by omega) hok X4).mono ?_
      rintro e X5 ⟨rfl, hb5⟩
      have HX5 := Lib.hid (HXD.out.later hb5)
      obtain ⟨z0, z1, z2, z3, z4, z5, z6, z7, z8, z9, z10, z11, z12⟩ := HX5.out.zk
      have zf := HX5.out.zfree
      clear hb5 HXD hok
      go_wp2
      refine bodyPost_ret (v := .tuple #[zeroV, .bool false]) (by simp [results, Try.results36, go_sem, z0, z1, z2, z3, z4, z5, z6, z7, z8, z9, z10, z11, z12]) rfl ⟨_, rfl, .inl ⟨HIS.out, rfl⟩, ?_⟩
      iterate 13 (refine Below.setCell ?_ (by first | exact Nat.le_refl _ | simp) _)
      exact HX5.out.below
theorem read_any (l : List Int) (a : Option Addr) (n c : Nat) (w : World) (hI : In w a n c l) (hn : n ≤ 4611686018427387904) :
    Calls Try.prog 36 #[.slice a n c] w fun e w' => ∃ res, e = .returned res ∧ ReadRes l w' res ∧ Below w.heap.size w w' := by
  have hno : ∀ K, 8 ≤ K → (l.getD 9 0 = 17 → K = 8) → (l.getD 9 0 = 6 → K = 20) → n < 20 + K → ¬ Is l := by
    intro K h8 h17 h6 hs hi
    obtain ⟨h1, e⟩ := hi
    have h2 := bts_len (dec l)
    rw [e, hI.len] at h2
    have h3 : (dec l).proto = l.getD 9 0 := rfl
    have h4 := h1.proto
    rw [h3] at h4
    unfold segLen at h2
    rw [h3] at h2
    rcases h4 with h4 | h4
    · rw [if_neg (by omega)] at h2
      have := h6 h4
      omega
    · rw [if_pos h4] at h2
      have := h17 h4
      omega
  have none_of : ¬ Is l → (Calls Try.prog 36 #[.slice a n c] w fun e w' => e = .returned (.tuple #[zeroV, .bool false]) ∧ Below w.heap.size w w') → Calls Try.prog 36 #[.slice a n c] w fun e w' => ∃ res, e = .returned res ∧ ReadRes l w' res ∧ Below w.heap.size w w' :=
    fun h C => C.mono fun e w' ⟨h1, h2⟩ => ⟨_, h1, .inl ⟨h, rfl⟩, h2⟩
  by_cases h20 : n < 20
  · exact none_of (hno (if l.getD 9 0 = 17 then 8 else 20) (by split <;> omega) (fun h => if_pos h) (fun h => if_neg (by omega)) (by omega)) (read_short a n c h20 w)
  · obtain ⟨a', c', e, hA⟩ := hI.here
    simp only [Value.slice.injEq] at e
    obtain ⟨rfl, _, rfl⟩ := e
    rcases hA with h0 | ⟨b, off, rfl, _⟩
    · have := hI.len
      rw [h0] at this
      simp at this
      omega
    · by_cases h17 : l.getD 9 0 = 17
      · by_cases hs : n < 20 + 8
        · exact none_of (hno 8 (by omega) (fun _ => rfl) (fun h => by omega) hs) (read_low l b off n c 8 w hI (by omega) hn (.inl ⟨h17, rfl⟩) hs)
        · exact read_udp l b off n c w hI hn h17 (by omega)
      · by_cases hs : n < 20 + 20
        · exact none_of (hno 20 (by omega) (fun h => absurd h h17) (fun _ => rfl) hs) (read_low l b off n c 20 w hI (by omega) hn (.inr ⟨h17, rfl⟩) hs)
        · by_cases h6 : l.getD 9 0 = 6
          · exact read_tcp l b off n c w hI hn h6 (by omega)
          · exact read_other l b off n c w hI hn ⟨h6, h17⟩ (by omega)
end Go.Proofs.Ytfbmeoiaedlgoaa
