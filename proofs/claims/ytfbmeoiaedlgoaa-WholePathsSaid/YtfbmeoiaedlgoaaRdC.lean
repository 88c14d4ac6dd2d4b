/- Contract of packet's read: whole headers. -/
import Derived.Test.YtfbmeoiaedlgoaaRdB
import Derived.Deep.CutRange
namespace Go.Proofs.Ytfbmeoiaedlgoaa
open Go Go.RowKit
set_option linter.unusedVariables false
set_option linter.unusedSimpArgs false

/-- What read answers. -/
def ReadRes (l : List Int) (w' : World) (res : Value) : Prop :=
  (¬ Is l ∧ res = .tuple #[zeroV, .bool false]) ∨ (Is l ∧ ∃ ad k cp, res = .tuple #[(dec l).val (some ad) k cp, .bool true] ∧ In w' (some ad) k cp (dec l).data)
theorem in_cell {w : World} {b off n c : Nat} {l : List Int} (h : In w (some ⟨b, off, none⟩) n c l) (j : Nat) (hj : j < n) : w.cell? ⟨b, off + j, none⟩ = some (.int .u8 (l.getD j 0)) := by
  obtain ⟨a', cap', e, hA⟩ := h.here
  simp only [Value.slice.injEq] at e
  obtain ⟨rfl, _, rfl⟩ := e
  rcases hA with h0 | ⟨b', off', e, hc⟩
  · have := h.len
    rw [h0] at this
    simp at this
    omega
  · cases e
    exact hc j (by rw [h.len]; exact hj)

set_option maxRecDepth 100000 in
set_option maxHeartbeats 4000000 in
theorem read_tcp (l : List Int) (b off n c : Nat) (w : World) (hI : In w (some ⟨b, off, none⟩) n c l) (hn : n ≤ 4611686018427387904) (hk : l.getD 9 0 = 6) (hs : 20 + 20 ≤ n) :
    Calls Try.prog 36 #[.slice (some ⟨b, off, none⟩) n c] w fun e w' => ∃ res, e = .returned res ∧ ReadRes l w' res ∧ Below w.heap.size w w' := by
  have hcap := hI.room
  have HI := Lib.hid hI
  obtain ⟨p, hp⟩ : ∃ p, p = ipk l := ⟨_, rfl⟩
  have hp9 : p.proto = l.getD 9 0 := by rw [hp]; rfl
  rw [← hp9] at hk
  have HP := Lib.hid hp
  have HL := Lib.hid (fun w => headLen_is p.proto 20 (.inr ⟨by omega, rfl⟩) w)
  have q6 : (p.proto == 6) = true := by simp [hk]
  have h20 : 20 ≤ n := by omega
  have h20i : (20 : Int) ≤ (n : Int) := by omega
  have h20c : (20 : Int) ≤ (c : Int) := by omega
  have d20 : ¬ c = 20 := by omega
  obtain ⟨m, hm⟩ : ∃ m, m = n - 20 := ⟨_, rfl⟩
  obtain ⟨cr, hcr⟩ : ∃ cr, cr = c - 20 := ⟨_, rfl⟩
  obtain ⟨o, ho⟩ : ∃ o, o = off + 20 := ⟨_, rfl⟩
  have hsub : (n : Int) - 20 = (m : Int) := by omega
  have hsub2 : (c : Int) - 20 = (cr : Int) := by omega
  have hmk : 20 ≤ m := by omega
  have hcm : m ≤ cr := by omega
  have hlt : ¬ ((m : Int) < 20) := by omega
  have HM := Lib.hid hm
  have HCR := Lib.hid hcr
  have HOF := Lib.hid ho
  have HK := Lib.hid hk
  obtain ⟨R, hR⟩ : ∃ R, w.alloc (.cells zeroCs 49) = R := ⟨_, rfl⟩
  have hB : Below w.heap.size w R := by rw [← hR]; exact bl_al (Below.refl _ _) _
  have hz : R.heap[w.heap.size]? = some (.cells zeroCs 49 (0, 0)) := by rw [← hR]; exact heap_alloc_new _ _
  have HR := Lib.hid hR
  have HB := Lib.hid hB
  have HZ := Lib.hid hz
  clear hI hk hR hB hz hp hp9
  go_enter Try.func36, Try.ntmps36
  go_wp2_with fail
  rw [HR.out]
  refine (readIP_pk l b off n c _ (HI.out.below HB.out) h20 hn p HP.out).mono ?_
  rintro e w1 ⟨rfl, hb⟩
  have HB1 := Lib.hid (bl_tr HB.out hb)
  have HZ1 : Hid (w1.heap[w.heap.size]? = some (.cells zeroCs 49 (0, 0))) := Lib.hid ((hb.block _ (lt_of_block HZ.out)).trans HZ.out)
  clear hb HB HZ HR
  go_wp2_with fail
  have HX : Hid (Rd w w1.heap.size p none 0 0 (w1.alloc (p.obj none 0 0))) := Lib.hid ⟨heap_alloc_new _ _, by rw [heap_alloc_old _ _ (lt_of_block HZ1.out)]; exact HZ1.out, lt_of_block HZ1.out, HB1.out.alloc HB1.out.size _⟩
  refine (HL.out _).mono ?_
  rintro e _ ⟨rfl, rfl⟩
  obtain ⟨q, hq⟩ : ∃ q, q = w1.heap.size := ⟨_, rfl⟩
  obtain ⟨X, hX⟩ : ∃ X, X = w1.alloc (p.obj none 0 0) := ⟨_, rfl⟩
  rw [← hX, ← hq] at HX
  rw [← hX, ← hq, ← hm, ← hcr, ← ho]
  have HIX := Lib.hid (HI.out.below HX.out.below)
  clear hX hq HZ1 HB1 hm hcr ho h20c d20
  obtain ⟨x0, x1, x2, x3, x4, x5, x6, x7, x8, x9, x10, x11, x12⟩ := HX.out.pk
  have xf := HX.out.free
  have N20 := Lib.hid (fun (c2 : Nat) => number2 (w := X.drew) (c := c) HIX.out.here HIX.out.len HIX.out.fit 20 c2 o (by omega) HOF.out)
  have N22 := Lib.hid (fun (c2 : Nat) => number2 (w := X.drew) (c := c) HIX.out.here HIX.out.len HIX.out.fit 22 c2 (o + 2) (by omega) (by have := HOF.out; omega))
  have j2 : (2 : Int) ≤ (cr : Int) := by omega
  have j4 : (4 : Int) ≤ (cr : Int) := by omega
  have d0 : ¬ cr = 0 := by omega
  have d2 : ¬ cr = 2 := by omega
  obtain ⟨y20, hy20⟩ : ∃ y, y = n2 l 20 := ⟨_, rfl⟩
  obtain ⟨y22, hy22⟩ : ∃ y, y = n2 l 22 := ⟨_, rfl⟩
  rw [← hy20] at N20
  rw [← hy22] at N22
  have HY20 := Lib.hid hy20
  have HY22 := Lib.hid hy22
  clear hy20 hy22
  go_wp2_with fail
  go_region_with (first | (go_at_call 51; with_reducible refine (N20.out _).mono ?_; rintro e w' ⟨rfl, rfl⟩) | (go_at_call 51; with_reducible refine (N22.out _).mono ?_; rintro e w' ⟨rfl, rfl⟩))
  obtain ⟨p1, hp1⟩ : ∃ p1 : Pk, p1 = { p with sp := y20, dp := y22 } := ⟨_, rfl⟩
  have HX1 : Hid (Rd w q p1 none 0 0 ((X.setCell ⟨q, 5, none⟩ (.int .i64 y20)).setCell ⟨q, 7, none⟩ (.int .i64 y22)).drew) := Lib.hid (by
    rw [hp1]
    exact ((HX.out.set 5 (.int .i64 y20) (p' := { p with sp := y20 }) (a' := none) (n' := 0) (c' := 0) rfl).set 7 (.int .i64 y22) rfl).drew)
  obtain ⟨X1, hX1⟩ : ∃ X1, X1 = ((X.setCell ⟨q, 5, none⟩ (.int .i64 y20)).setCell ⟨q, 7, none⟩ (.int .i64 y22)).drew := ⟨_, rfl⟩
  rw [← hX1] at HX1
  rw [← hX1]
  have HIX1 := Lib.hid (HI.out.below HX1.out.below)
  have q61 : (p1.proto == 6) = true := by rw [hp1]; exact q6
  have HP1 := Lib.hid hp1
  have HL1 : Hid (∀ w, Calls Try.prog 50 #[.int .i64 p1.proto] w fun e w' => e = .returned (.int .i64 20) ∧ w = w') := Lib.hid (by rw [hp1]; exact HL.out)
  clear hX1 hp1 q6 HL HX HIX xf x0 x1 x2 x3 x4 x5 x6 x7 x8 x9 x10 x11 x12 N20 N22 j2 j4 d0 d2
  obtain ⟨x0, x1, x2, x3, x4, x5, x6, x7, x8, x9, x10, x11, x12⟩ := HX1.out.pk
  have xf := HX1.out.free
  have N24 := Lib.hid (fun (c2 : Nat) => number4 (w := X1.drew) (c := c) HIX1.out.here HIX1.out.len HIX1.out.fit 24 c2 (o + 4) (by omega) (by have := HOF.out; omega))
  have N28 := Lib.hid (fun (c2 : Nat) => number4 (w := X1.drew) (c := c) HIX1.out.here HIX1.out.len HIX1.out.fit 28 c2 (o + 8) (by omega) (by have := HOF.out; omega))
  have j8 : (8 : Int) ≤ (cr : Int) := by omega
  have j12 : (12 : Int) ≤ (cr : Int) := by omega
  have d4 : ¬ cr = 4 := by omega
  have d8 : ¬ cr = 8 := by omega
  have y24f := n4_fit HIX1.out.fit 24
  have y28f := n4_fit HIX1.out.fit 28
  obtain ⟨y24, hy24⟩ : ∃ y, y = n4 l 24 := ⟨_, rfl⟩
  obtain ⟨y28, hy28⟩ : ∃ y, y = n4 l 28 := ⟨_, rfl⟩
  rw [← hy24] at N24 y24f
  rw [← hy28] at N28 y28f
  have HY24 := Lib.hid hy24
  have HY28 := Lib.hid hy28
  have k24 : IntKind.u32.wrap y24 = y24 := by rw [IntKind.wrap_u32']; omega
  have k28 : IntKind.u32.wrap y28 = y28 := by rw [IntKind.wrap_u32']; omega
  clear hy24 hy28 y24f y28f
  go_wp2_with fail
  go_region_with (first | (go_at_call 51; with_reducible refine (N24.out _).mono ?_; rintro e w' ⟨rfl, rfl⟩) | (go_at_call 51; with_reducible refine (N28.out _).mono ?_; rintro e w' ⟨rfl, rfl⟩))
  obtain ⟨p2, hp2⟩ : ∃ p2 : Pk, p2 = { p1 with seq := y24, ack := y28 } := ⟨_, rfl⟩
  have HX2 : Hid (Rd w q p2 none 0 0 ((X1.setCell ⟨q, 8, none⟩ (.int .u32 y24)).setCell ⟨q, 9, none⟩ (.int .u32 y28)).drew) := Lib.hid (by
    rw [hp2]
    exact ((HX1.out.set 8 (.int .u32 y24) (p' := { p1 with seq := y24 }) (a' := none) (n' := 0) (c' := 0) rfl).set 9 (.int .u32 y28) rfl).drew)
  obtain ⟨X2, hX2⟩ : ∃ X2, X2 = ((X1.setCell ⟨q, 8, none⟩ (.int .u32 y24)).setCell ⟨q, 9, none⟩ (.int .u32 y28)).drew := ⟨_, rfl⟩
  rw [← hX2] at HX2
  rw [← hX2]
  have HIX2 := Lib.hid (HI.out.below HX2.out.below)
  have HP2 := Lib.hid hp2
  have HL2 : Hid (∀ w, Calls Try.prog 50 #[.int .i64 p2.proto] w fun e w' => e = .returned (.int .i64 20) ∧ w = w') := Lib.hid (by rw [hp2]; exact HL1.out)
  clear hX2 hp2 HL1 HX1 HIX1 xf x0 x1 x2 x3 x4 x5 x6 x7 x8 x9 x10 x11 x12 N24 N28 j8 j12 d4 d8 k24 k28 q61
  obtain ⟨x0, x1, x2, x3, x4, x5, x6, x7, x8, x9, x10, x11, x12⟩ := HX2.out.pk
  have xf := HX2.out.free
  have N34 := Lib.hid (fun (c2 : Nat) => number2 (w := X2.drew) (c := c) HIX2.out.here HIX2.out.len HIX2.out.fit 34 c2 (o + 14) (by omega) (by have := HOF.out; omega))
  have i13 : (13 : Int) < (m : Int) := by omega
  have j16 : (16 : Int) ≤ (cr : Int) := by omega
  have d14 : ¬ cr = 14 := by omega
  have y33f := getD_fit HIX2.out.fit 33
  have hc33 : X2.cell? ⟨b, o + 13, none⟩ = some (.int .u8 (l.getD 33 0)) := by
    have := in_cell HIX2.out 33 (by omega)
    rw [show o + 13 = off + 33 by have := HOF.out; omega]
    exact this
  obtain ⟨y33, hy33⟩ : ∃ y, y = l.getD 33 0 := ⟨_, rfl⟩
  obtain ⟨y34, hy34⟩ : ∃ y, y = n2 l 34 := ⟨_, rfl⟩
  rw [← hy33] at hc33 y33f
  rw [← hy34] at N34
  have HY33 := Lib.hid hy33
  have HY34 := Lib.hid hy34
  have k33 : IntKind.i64.wrap y33 = y33 := IntWalk.i64_in _ (by omega)
  clear hy33 hy34 y33f
  go_wp2_with fail
  go_region_with (first | (go_at_call 51; with_reducible refine (N34.out _).mono ?_; rintro e w' ⟨rfl, rfl⟩))
  all_goals
    obtain ⟨pz, hpz⟩ : ∃ pz : Pk, pz = { p2 with flags := y33, win := y34 } := ⟨_, rfl⟩
    have HXz : Hid (Rd w q pz none 0 0 ((X2.setCell ⟨q, 10, none⟩ (.int .i64 y33)).setCell ⟨q, 11, none⟩ (.int .i64 y34)).drew) := Lib.hid (by
      rw [hpz]
      exact ((HX2.out.set 10 (.int .i64 y33) (p' := { p2 with flags := y33 }) (a' := none) (n' := 0) (c' := 0) rfl).set 11 (.int .i64 y34) rfl).drew)
    obtain ⟨Xz, hXz⟩ : ∃ Xz, Xz = ((X2.setCell ⟨q, 10, none⟩ (.int .i64 y33)).setCell ⟨q, 11, none⟩ (.int .i64 y34)).drew := ⟨_, rfl⟩
    rw [← hXz] at HXz
    rw [← hXz]
    have HLz : Hid (∀ w, Calls Try.prog 50 #[.int .i64 pz.proto] w fun e w' => e = .returned (.int .i64 20) ∧ w = w') := Lib.hid (by rw [hpz]; exact HL2.out)
    have HDz : Hid ({ pz with data := l.drop (20 + 20) } = dec l) := Lib.hid (by
      have h6 := HK.out
      rw [HP.out] at h6
      have h6 : l.getD 9 0 = 6 := h6
      rw [hpz, HP2.out, HP1.out, HP.out, HY20.out, HY22.out, HY24.out, HY28.out, HY33.out, HY34.out]
      unfold dec ipk
      rw [if_pos h6, if_pos h6, if_pos h6, if_pos h6, if_neg (by omega)])
    have HIXz := HIX2
    clear hXz hpz HL2 HX2 HIX2 N34 hc33 i13 j16 d14 k33
    clear xf x0 x1 x2 x3 x4 x5 x6 x7 x8 x9 x10 x11 x12
    obtain ⟨x0, x1, x2, x3, x4, x5, x6, x7, x8, x9, x10, x11, x12⟩ := HXz.out.pk
    have xf := HXz.out.free
    have jK : (20 : Int) ≤ (m : Int) := by omega
    have jc : (20 : Int) ≤ (cr : Int) := by omega
    have jc2 : (m : Int) ≤ (cr : Int) := by omega
    obtain ⟨ad, had⟩ : ∃ ad : Addr, (if cr = 20 then some (⟨b, o, none⟩ : Addr) else some ⟨b, o + 20, none⟩) = some ad := by
      by_cases h : cr = 20
      · exact ⟨⟨b, o, none⟩, by rw [if_pos h]⟩
      · exact ⟨⟨b, o + 20, none⟩, by rw [if_neg h]⟩
    have hIn : ∀ W : World, In W (some ⟨b, off, none⟩) n c l → In W (some ad) (m - 20) (cr - 20) (l.drop (20 + 20)) := by
      intro W hW
      have h1 := HM.out
      have h2 := HCR.out
      have h3 := HOF.out
      have hl := hW.len
      refine ⟨by rw [List.length_drop]; omega, by omega, (fun e => by cases e), ?_, fun x hx => hW.fit x (List.mem_of_mem_drop hx)⟩
      by_cases h : cr = 20
      · have h0 : l.drop (20 + 20) = [] := List.drop_eq_nil_of_le (by omega)
        rw [h0, show m - 20 = 0 by omega]
        exact At.nil _ _ _
      · rw [if_neg h] at had
        cases had
        have := hW.here.sub hW.len (20 + 20) n (by omega) (Nat.le_refl _) (m - 20) (cr - 20) (o + 20) (by omega) (by omega)
        rw [List.take_of_length_le (by rw [List.length_drop]; omega)] at this
        exact this
    have HIN := Lib.hid hIn
    clear hIn
    go_wp2_with fail
    refine (HLz.out _).mono ?_
    rintro e _ ⟨rfl, rfl⟩
    go_wp2_with fail
    obtain ⟨D, hD⟩ : ∃ D : Pk, D = { pz with data := l.drop (20 + 20) } := ⟨_, rfl⟩
    have HDl : Hid (D = dec l) := Lib.hid (by rw [hD]; exact HDz.out)
    have HXD : Hid (Rd w q D (some ad) (m - 20) (cr - 20) (Xz.setCell ⟨q, 12, none⟩ (.slice (some ad) (m - 20) (cr - 20)))) := Lib.hid (by
      rw [hD]
      exact HXz.out.set 12 _ rfl)
    have hval : ∀ a n c, pz.val a n c = D.val a n c := by intro a n c; rw [hD]
    have hval2 := hval (some ad) (m - 20) (cr - 20)
    have hdat : D.data = l.drop (20 + 20) := by rw [hD]
    obtain ⟨X4, hX4⟩ : ∃ X4, X4 = Xz.setCell ⟨q, 12, none⟩ (.slice (some ad) (m - 20) (cr - 20)) := ⟨_, rfl⟩
    rw [← hX4] at HXD
    rw [← hX4]
    have HI4 := Lib.hid (HI.out.below HXD.out.below)
    have HN4 := Lib.hid (HIN.out X4 HI4.out)
    rw [← hdat] at HN4
    have hlD : D.data.length = m - 20 := HN4.out.len
    have HDAT := Lib.hid hdat
    unfold Pk.val Pk.cs at hval2
    rw [hval2]
    clear hD hX4 hval hval2 hdat HXz HIXz HDz HLz xf x0 x1 x2 x3 x4 x5 x6 x7 x8 x9 x10 x11 x12 jK jc jc2 had
    by_cases hok : Ok D
    · have hty : Typed D := by rw [HDl.out]; exact dec_typed HI4.out.fit
      have hbl := bts_len D
      have hfb := fit_bts hty.data
      refine (build_ok D (some ad) (m - 20) (cr - 20) hok hty X4 HN4.out).mono ?_
      rintro e X5 ⟨g, cap, rfl, hown, hb5⟩
      have HX5 := Lib.hid (HXD.out.later hb5)
      have HI5 := Lib.hid (HI.out.below HX5.out.below)
      have HN5 := Lib.hid (HN4.out.below hb5)
      have HA5 := Lib.hid hown.at
      have HBL := Lib.hid hbl
      have HFB := Lib.hid hfb
      obtain ⟨N, hN⟩ : ∃ N, N = 20 + segLen D := ⟨_, rfl⟩
      rw [← hN] at HA5 HBL
      rw [← hN]
      clear hown hb5 hbl hfb hN HXD HI4
      obtain ⟨x0, x1, x2, x3, x4, x5, x6, x7, x8, x9, x10, x11, x12⟩ := HX5.out.pk
      obtain ⟨z0, z1, z2, z3, z4, z5, z6, z7, z8, z9, z10, z11, z12⟩ := HX5.out.zk
      have zf := HX5.out.zfree
      have CE := Lib.hid (equal_any (bts D) l _ _ _ _ _ _ X5 HA5.out HI5.out.here HBL.out HI5.out.len HFB.out HI5.out.fit)
      by_cases hbt : bts D = l
      · have HIS : Hid (Is l) := Lib.hid ⟨by rw [← HDl.out]; exact hok, by rw [← HDl.out]; exact hbt⟩
        have hs : same (bts D) l = true := decide_eq_true hbt
        rw [hs] at CE
        clear hbt hs hok
        go_wp2_with (go_at_call 35; refine CE.out.mono ?_; rintro e _ ⟨rfl, rfl⟩)
        refine bodyPost_ret (v := .tuple #[D.val (some ad) (m - 20) (cr - 20), .bool true]) (by simp [results, Try.results36, go_sem, z0, z1, z2, z3, z4, z5, z6, z7, z8, z9, z10, z11, z12]) rfl ⟨_, rfl, .inr ⟨HIS.out, ad, m - 20, cr - 20, by rw [HDl.out], ?_⟩, ?_⟩
        · have key : ∀ W' : World, Below w.heap.size w W' → In W' (some ad) (m - 20) (cr - 20) (dec l).data := fun W' h => by
            rw [← HDl.out, HDAT.out]
            exact HIN.out W' (HI.out.below h)
          refine key _ ?_
          iterate 13 (refine Below.setCell ?_ (by first | exact Nat.le_refl _ | simp) _)
          exact HX5.out.below
        · iterate 13 (refine Below.setCell ?_ (by first | exact Nat.le_refl _ | simp) _)
          exact HX5.out.below
      · have HIS : Hid (¬ Is l) := Lib.hid (fun h => hbt (by rw [HDl.out]; exact h.2))
        have hs : same (bts D) l = false := decide_eq_false hbt
        rw [hs] at CE
        clear hbt hs hok
        go_wp2_with (go_at_call 35; refine CE.out.mono ?_; rintro e _ ⟨rfl, rfl⟩)
        refine bodyPost_ret (v := .tuple #[zeroV, .bool false]) (by simp [results, Try.results36, go_sem, z0, z1, z2, z3, z4, z5, z6, z7, z8, z9, z10, z11, z12]) rfl ⟨_, rfl, .inl ⟨HIS.out, rfl⟩, ?_⟩
        iterate 13 (refine Below.setCell ?_ (by first | exact Nat.le_refl _ | simp) _)
        exact HX5.out.below
    · have HIS : Hid (¬ Is l) := Lib.hid (fun h => hok (by rw [HDl.out]; exact h.1))
      refine (build_no D (some ad) (m - 20) (cr - 20) hlD (by omega) hok X4).mono ?_
      rintro e X5 ⟨rfl, hb5⟩
      have HX5 := Lib.hid (HXD.out.later hb5)
      obtain ⟨z0, z1, z2, z3, z4, z5, z6, z7, z8, z9, z10, z11, z12⟩ := HX5.out.zk
      have zf := HX5.out.zfree
      clear hb5 HXD hok
      go_wp2
      refine bodyPost_ret (v := .tuple #[zeroV, .bool false]) (by simp [results, Try.results36, go_sem, z0, z1, z2, z3, z4, z5, z6, z7, z8, z9, z10, z11, z12]) rfl ⟨_, rfl, .inl ⟨HIS.out, rfl⟩, ?_⟩
      iterate 13 (refine Below.setCell ?_ (by first | exact Nat.le_refl _ | simp) _)
      exact HX5.out.below
end Go.Proofs.Ytfbmeoiaedlgoaa
