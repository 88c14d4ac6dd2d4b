/- The document's Read. Conditions: those stated. -/
import Derived.Test.YtndgdijiecgagaaVvA
import Derived.Test.YtndgdijiecgagaaVvK
import Derived.Test.YtndgdijiecgagaaQStC
import Derived.Deep.CutRange
import Derived.Deep.RegionHeld3
import Derived.BigRegion
import Derived.Test.YtndgdijiecgagaaNumA
namespace Go.Proofs.Ytndgdijiecgagaa
open Go Go.RowKit
set_option linter.unusedVariables false
set_option linter.unusedSimpArgs false

structure GotRR (w : World) (b : List Int) (e : Ending) (w' : World) : Prop where
  yes : IsLog b → ∃ ao c vs, e = .returned (.tuple #[.slice ao (decL b).length c, .int .i64 0]) ∧ OwC w' w.heap.size (decL b) ao c vs
  no : ¬ IsLog b → e = .returned (.tuple #[.slice none 0 0, .int .i64 3])
  bel : Below w.heap.size w w'
theorem own_base_C {w : World} {B B' c : Nat} {ls : List Cm} {ao : Option Addr} {vs : List Value} (h : OwC w B ls ao c vs) (hb : B' ≤ B) : OwC w B' ls ao c vs := h.base hb
/-- The command as it stands while it is read: its first numbers, its ends so far. -/
def hC (l : List Int) (a : Nat) : Cm := ⟨l.getD a 0, l.getD (a + 1) 0, l.getD (a + 2) 0, l.getD (a + 3) 0, l.getD (a + 4) 0, 0, 0, 0, [], 0, 0, false⟩
set_option maxRecDepth 100000 in
set_option maxHeartbeats 16000000 in
theorem readR_c (b : List Int) (a : Option Addr) (n c : Nat) (w : World) (hI : In w a n c b) (hn : n ≤ 65536) :
    Calls Try.prog 27 #[.slice a n c] w (GotRR w b) := by
  obtain ⟨i0, hi0, hz0, hz1, hz2⟩ := info_parts infoC
  obtain ⟨j0, hj0, hy0, hy1, hy2⟩ := info_parts infoE
  have CI := Lib.hid (intsR_c b a n c w hI (by omega))
  have HI := Lib.hid hI
  have HF := Lib.hid hI.fit
  have HLN := Lib.hid hI.len
  clear hI
  go_enter Try.func27, Try.ntmps27
  go_wp2_with fail
  refine CI.out.mono ?_
  rintro e w1 ⟨⟨al, cl, rfl, hO⟩, hb1⟩
  have HB1 := Lib.hid hb1
  obtain ⟨L, hL⟩ : ∃ L, L = intsL b := ⟨_, rfl⟩
  obtain ⟨M, hM⟩ : ∃ M, M = b.length / 8 := ⟨_, rfl⟩
  rw [← hL, ← hM] at hO
  rw [← hM]
  have hM8 : M ≤ 8192 := by rw [hM, HLN.out]; omega
  have HLL : Hid (L.length = M) := Lib.hid (by rw [hL, intsL_len, hM])
  have HTL : Hid (∀ x ∈ L, i64c x) := Lib.hid (by rw [hL]; exact intsL_ty HF.out)
  have HLI : Hid (InI w1 al M cl L) := Lib.hid (own_inI hO HLL.out (fun x hx => by have := HTL.out x hx; unfold i64c at this; omega))
  have HL := Lib.hid hL
  have R0 : Hid (RdI b L [] 1) := Lib.hid (rdI_nil b L)
  have S0 : Hid (OwC w1 w1.heap.size [] none 0 [] ∧ Below w1.heap.size w1 w1) := Lib.hid ⟨owC_nil _ _, Below.refl _ _⟩
  have hcl : M ≤ cl := HLI.out.room
  clear hb1 hO hL hM CI
  go_wp2
  go_loopw [6, 7, 8, 9, 10] (fun lv av _ _ _ wr => ∃ (m A : Nat) (lg : List Cm) (ao : Option Addr) (cc : Nat) (vs : List Value), m ≤ 257 ∧ 1 ≤ A ∧ A ≤ M + 1 ∧ lv = .slice ao m cc ∧ av = .int .i64 A ∧ Hid (lg.length = m) ∧ Hid (RdI b L lg A) ∧ Hid (OwC wr w1.heap.size lg ao cc vs ∧ Below w1.heap.size w1 wr)) (fun _ av _ _ _ _ => M + 13 - (intOf av).toNat)
  case atStart => exact ⟨0, 1, [], none, 0, [], by omega, by omega, by omega, rfl, rfl, Lib.hid rfl, R0, S0⟩
  case round =>
    obtain ⟨m, A, lg, ao, cc, vs, hm257, hA1, hAM, rfl, rfl, HLG, HR, HS⟩ := hrel
    obtain ⟨w3, rfl⟩ : ∃ v, v = wr := ⟨_, rfl⟩
    clear R0 S0
    obtain ⟨z0, hz0e⟩ : ∃ z, z = L.getD 0 0 := ⟨_, rfl⟩
    obtain ⟨D, hD⟩ : ∃ D, D = decide (0 < M ∧ (m : Int) < z0 ∧ m ≤ 256) := ⟨_, rfl⟩
    have HZ0 := Lib.hid hz0e
    have HD := Lib.hid hD
    clear hz0e hD
    go_upto_region 5 with fail
    go_cut [30] from 15 to 30 (fun v wx => v = .bool D ∧ w3 = wx)
    case first =>
      by_cases hM0 : 0 < M
      · have g0 : (0 : Int) < (M : Int) := by omega
        have g1 : (0 : Int) ≤ (cl : Int) := by omega
        obtain ⟨bl, ol, rfl⟩ := in_blockI HLI.out hM0
        have hc0 := in_cellI (HLI.out.below HS.out.2) 0 hM0
        rw [Nat.add_zero, ← HZ0.out] at hc0
        by_cases h1 : (m : Int) < z0
        · by_cases h2 : (m : Int) ≤ 256
          · go_wp2
            go_meet
            exact ⟨by rw [HD.out, decide_eq_true ⟨hM0, h1, by omega⟩], rfl⟩
          · go_wp2
            go_meet
            exact ⟨by rw [HD.out, decide_eq_false (by omega)], rfl⟩
        · go_wp2
          go_meet
          exact ⟨by rw [HD.out, decide_eq_false (by omega)], rfl⟩
      · have g0 : ¬ (0 : Int) < (M : Int) := by omega
        go_wp2
        go_meet
        exact ⟨by rw [HD.out, decide_eq_false (by omega)], rfl⟩
    case rest =>
      obtain ⟨rfl, rfl⟩ := hcut
      by_cases hcond : 0 < M ∧ (m : Int) < z0 ∧ m ≤ 256
      · rw [HD.out, decide_eq_true hcond]
        obtain ⟨hM0, hmz, hm256⟩ := hcond
        have HC : Hid ((lg.length : Int) < (intsL b).getD 0 0 ∧ lg.length ≤ 256) := Lib.hid ⟨by rw [HLG.out, ← HL.out, ← HZ0.out]; exact hmz, by rw [HLG.out]; exact hm256⟩
        obtain ⟨bl, ol, rfl⟩ := in_blockI HLI.out hM0
        have HCE := Lib.hid (fun (j : Nat) (hj : j < M) (wx : World) (hx : Below w1.heap.size w1 wx) => in_cellI (HLI.out.below hx) j hj)
        obtain ⟨z, hz⟩ : ∃ z, z = L.getD (A + 8) 0 := ⟨_, rfl⟩
        have HZ := Lib.hid hz
        obtain ⟨D2, hD2⟩ : ∃ D, D = decide (M < A + 9 ∨ z < 0 ∨ 64 < z ∨ (M : Int) < (A : Int) + 12 + 3 * z) := ⟨_, rfl⟩
        have HD2 := Lib.hid hD2
        have hzt : -9223372036854775808 ≤ z ∧ z ≤ 9223372036854775807 := by have := getD_ty HTL.out (A + 8); rw [← HZ.out] at this; exact this
        clear hz hD2 hmz HZ0 HD
        go_upto_region 6 with fail
        go_cut [65] from 31 to 65 (fun v wx => v = .bool D2 ∧ w3 = wx)
        case first =>
          by_cases t1 : M < A + 9
          · have g0 : (M : Int) < (A : Int) + 9 := by omega
            go_wp2
            go_meet
            exact ⟨by rw [HD2.out, decide_eq_true (.inl t1)], rfl⟩
          · have g0 : ¬ (M : Int) < (A : Int) + 9 := by omega
            have g1 : (A : Int) + 8 < (M : Int) := by omega
            have g2 : (0 : Int) ≤ (A : Int) + 8 := by omega
            have g3 : (A : Int) + 8 ≤ (cl : Int) := by omega
            have hc8 := HCE.out (A + 8) (by omega) w3 HS.out.2
            rw [← HZ.out] at hc8
            by_cases t2 : z < 0
            · go_wp2
              go_meet
              exact ⟨by rw [HD2.out, decide_eq_true (.inr (.inl t2))], rfl⟩
            · by_cases t3 : 64 < z
              · go_wp2
                go_meet
                exact ⟨by rw [HD2.out, decide_eq_true (.inr (.inr (.inl t3)))], rfl⟩
              · by_cases t4 : (M : Int) < (A : Int) + 12 + 3 * z
                · go_wp2
                  go_meet
                  exact ⟨by rw [HD2.out, decide_eq_true (.inr (.inr (.inr t4)))], rfl⟩
                · go_wp2
                  go_meet
                  exact ⟨by rw [HD2.out, decide_eq_false (by omega)], rfl⟩
        case rest =>
          obtain ⟨rfl, rfl⟩ := hcut
          by_cases hbad : M < A + 9 ∨ z < 0 ∨ 64 < z ∨ (M : Int) < (A : Int) + 12 + 3 * z
          · rw [HD2.out, decide_eq_true hbad]
            have HNO : Hid (¬ IsLog b) := Lib.hid (RdI.out (by have := HR.out; rwa [HL.out] at this) HF.out HC.out.1 (by rw [← HL.out, HLL.out, ← HZ.out]; exact hbad))
            have HBF := Lib.hid (HB1.out.trans (HS.out.2.mono HB1.out.size))
            clear hbad
            go_wp2
            go_ret2
            exact ⟨fun h => absurd h HNO.out, fun _ => rfl, HBF.out⟩
          · rw [HD2.out, decide_eq_false hbad]
            obtain ⟨k, hk⟩ : ∃ k : Nat, z = k := ⟨z.toNat, by omega⟩
            subst hk
            have hk64 : k ≤ 64 := by omega
            have hAk : A + 12 + 3 * k ≤ M := by omega
            clear hbad hzt
            have c0 := HCE.out A (by omega) w3 HS.out.2
            have c1 := HCE.out (A + 1) (by omega) w3 HS.out.2
            have c2 := HCE.out (A + 2) (by omega) w3 HS.out.2
            have c3 := HCE.out (A + 3) (by omega) w3 HS.out.2
            have c4 := HCE.out (A + 4) (by omega) w3 HS.out.2
            obtain ⟨y0, hy0e⟩ : ∃ y, y = L.getD A 0 := ⟨_, rfl⟩
            obtain ⟨y1, hy1e⟩ : ∃ y, y = L.getD (A + 1) 0 := ⟨_, rfl⟩
            obtain ⟨y2, hy2e⟩ : ∃ y, y = L.getD (A + 2) 0 := ⟨_, rfl⟩
            obtain ⟨y3, hy3e⟩ : ∃ y, y = L.getD (A + 3) 0 := ⟨_, rfl⟩
            obtain ⟨y4, hy4e⟩ : ∃ y, y = L.getD (A + 4) 0 := ⟨_, rfl⟩
            rw [← hy0e] at c0
            rw [← hy1e] at c1
            rw [← hy2e] at c2
            rw [← hy3e] at c3
            rw [← hy4e] at c4
            have HY := Lib.hid (And.intro hy0e (And.intro hy1e (And.intro hy2e (And.intro hy3e hy4e))))
            clear hy0e hy1e hy2e hy3e hy4e
            have hS0 : w3.drew.cell? ⟨bl, ol + A, none⟩ = some (.int .i64 y0) ∧ w3.drew.cell? ⟨bl, ol + (A + 1), none⟩ = some (.int .i64 y1) ∧ w3.drew.cell? ⟨bl, ol + (A + 2), none⟩ = some (.int .i64 y2) ∧ w3.drew.cell? ⟨bl, ol + (A + 3), none⟩ = some (.int .i64 y3) ∧ w3.drew.cell? ⟨bl, ol + (A + 4), none⟩ = some (.int .i64 y4) := ⟨c0, c1, c2, c3, c4⟩
            have hS2 := fun (o : Obj) => (show (w3.alloc o).drew.cell? ⟨bl, ol + A, none⟩ = some (.int .i64 y0) ∧ (w3.alloc o).drew.cell? ⟨bl, ol + (A + 1), none⟩ = some (.int .i64 y1) ∧ (w3.alloc o).drew.cell? ⟨bl, ol + (A + 2), none⟩ = some (.int .i64 y2) ∧ (w3.alloc o).drew.cell? ⟨bl, ol + (A + 3), none⟩ = some (.int .i64 y3) ∧ (w3.alloc o).drew.cell? ⟨bl, ol + (A + 4), none⟩ = some (.int .i64 y4) from ⟨cell_later (bl_al (Below.refl w3.heap.size w3) o).drew c0, cell_later (bl_al (Below.refl w3.heap.size w3) o).drew c1, cell_later (bl_al (Below.refl w3.heap.size w3) o).drew c2, cell_later (bl_al (Below.refl w3.heap.size w3) o).drew c3, cell_later (bl_al (Below.refl w3.heap.size w3) o).drew c4⟩)
            have g1 : (A : Int) < (M : Int) := by omega
            have g2 : (A : Int) + 1 < (M : Int) := by omega
            have g3 : (A : Int) + 2 < (M : Int) := by omega
            have g4 : (A : Int) + 3 < (M : Int) := by omega
            have g5 : (A : Int) + 4 < (M : Int) := by omega
            have g6 : (A : Int) + 4 ≤ (cl : Int) := by omega
            have g7 : (A : Int) ≤ (cl : Int) := by omega
            have g8 : (A : Int) + 1 ≤ (cl : Int) := by omega
            have g9 : (A : Int) + 2 ≤ (cl : Int) := by omega
            have g10 : (A : Int) + 3 ≤ (cl : Int) := by omega
            have v1 : ∀ [Inhabited Nat], IntKind.i64.wrap ((A : Int) + 1) = (A : Int) + 1 := by intro _; exact IntWalk.i64_in _ (by omega)
            have p1 : (0 : Int) ≤ (A : Int) + 1 := by omega
            have v2 : ∀ [Inhabited Nat], IntKind.i64.wrap ((A : Int) + 2) = (A : Int) + 2 := by intro _; exact IntWalk.i64_in _ (by omega)
            have p2 : (0 : Int) ≤ (A : Int) + 2 := by omega
            have v3 : ∀ [Inhabited Nat], IntKind.i64.wrap ((A : Int) + 3) = (A : Int) + 3 := by intro _; exact IntWalk.i64_in _ (by omega)
            have p3 : (0 : Int) ≤ (A : Int) + 3 := by omega
            have v4 : ∀ [Inhabited Nat], IntKind.i64.wrap ((A : Int) + 4) = (A : Int) + 4 := by intro _; exact IntWalk.i64_in _ (by omega)
            have p4 : (0 : Int) ≤ (A : Int) + 4 := by omega
            have t1 : ((A : Int) + 1).toNat = A + 1 := by omega
            have t2 : ((A : Int) + 2).toNat = A + 2 := by omega
            have t3 : ((A : Int) + 3).toNat = A + 3 := by omega
            have t4 : ((A : Int) + 4).toNat = A + 4 := by omega
            go_upto_region 8 with fail
            go_region_held3 (fun wx => wx.cell? ⟨bl, ol + A, none⟩ = some (.int .i64 y0) ∧ wx.cell? ⟨bl, ol + (A + 1), none⟩ = some (.int .i64 y1) ∧ wx.cell? ⟨bl, ol + (A + 2), none⟩ = some (.int .i64 y2) ∧ wx.cell? ⟨bl, ol + (A + 3), none⟩ = some (.int .i64 y3) ∧ wx.cell? ⟨bl, ol + (A + 4), none⟩ = some (.int .i64 y4)) (first | (with_reducible exact hS0) | (with_reducible assumption) | (with_reducible exact hS2 _) | fail) (fail)
            all_goals
              clear hS0 hS2 c0 c1 c2 c3 c4
              obtain ⟨w4, hw4⟩ : ∃ W, W = (w3.alloc (.cells #[.int .i64 y0, .int .i64 y1, .int .i64 y2, .int .i64 y3, .int .i64 y4, .int .u32 0, .int .i64 0, .int .i64 0, .slice none 0 0, .int .u32 0, .int .u32 0, .bool false] tyC)).drew := ⟨_, rfl⟩
              rw [← hw4]
              obtain ⟨x0, hx0⟩ : ∃ x : Cm, x = ⟨y0, y1, y2, y3, y4, 0, 0, 0, [], 0, 0, false⟩ := ⟨_, rfl⟩
              have hA0 : BxC w4 w3.heap.size x0 (.slice none 0 0) := by rw [hw4, hx0]; exact bxC_new w3 ⟨y0, y1, y2, y3, y4, 0, 0, 0, [], 0, 0, false⟩ (.slice none 0 0)
              have hb34 : Below w3.heap.size w3 w4 := by rw [hw4]; exact (bl_al (Below.refl _ _) _).drew
              obtain ⟨p, hp⟩ : ∃ p, p = w3.heap.size := ⟨_, rfl⟩
              rw [← hp] at hA0 ⊢
              have HP : Hid (w1.heap.size ≤ p) := Lib.hid (by rw [hp]; exact HS.out.2.size)
              have HX0 := Lib.hid hx0
              have HO4 := Lib.hid (HS.out.1.later hb34)
              have HB4 := Lib.hid (HS.out.2.trans (hb34.mono HS.out.2.size))
              have HS3 : Hid (OwC w3 w1.heap.size lg ao cc vs ∧ Below w3.heap.size w3 w4 ∧ p = w3.heap.size) := Lib.hid ⟨HS.out.1, hb34, hp⟩
              have HA4 := Lib.hid hA0
              clear hw4 hx0 hA0 hb34 hp HS
              -- the service
              have c5 := HCE.out (A + 5) (by omega) w4 HB4.out
              have c6 := HCE.out (A + 6) (by omega) w4 HB4.out
              have c7 := HCE.out (A + 7) (by omega) w4 HB4.out
              obtain ⟨y5, hy5e⟩ : ∃ y, y = L.getD (A + 5) 0 := ⟨_, rfl⟩
              obtain ⟨y6, hy6e⟩ : ∃ y, y = L.getD (A + 6) 0 := ⟨_, rfl⟩
              obtain ⟨y7, hy7e⟩ : ∃ y, y = L.getD (A + 7) 0 := ⟨_, rfl⟩
              rw [← hy5e] at c5
              rw [← hy6e] at c6
              rw [← hy7e] at c7
              have HY5 := Lib.hid (And.intro hy5e (And.intro hy6e hy7e))
              clear hy5e hy6e hy7e
              have hS0 : w4.drew.cell? ⟨bl, ol + (A + 5), none⟩ = some (.int .i64 y5) ∧ w4.drew.cell? ⟨bl, ol + (A + 6), none⟩ = some (.int .i64 y6) ∧ w4.drew.cell? ⟨bl, ol + (A + 7), none⟩ = some (.int .i64 y7) := ⟨c5, c6, c7⟩
              have v5 : ∀ [Inhabited Nat], IntKind.i64.wrap ((A : Int) + 5) = (A : Int) + 5 := by intro _; exact IntWalk.i64_in _ (by omega)
              have p5 : (0 : Int) ≤ (A : Int) + 5 := by omega
              have t5 : ((A : Int) + 5).toNat = A + 5 := by omega
              have q5 : (A : Int) + 5 < (M : Int) := by omega
              have r5 : (A : Int) + 5 ≤ (cl : Int) := by omega
              have v6 : ∀ [Inhabited Nat], IntKind.i64.wrap ((A : Int) + 6) = (A : Int) + 6 := by intro _; exact IntWalk.i64_in _ (by omega)
              have p6 : (0 : Int) ≤ (A : Int) + 6 := by omega
              have t6 : ((A : Int) + 6).toNat = A + 6 := by omega
              have q6 : (A : Int) + 6 < (M : Int) := by omega
              have r6 : (A : Int) + 6 ≤ (cl : Int) := by omega
              have v7 : ∀ [Inhabited Nat], IntKind.i64.wrap ((A : Int) + 7) = (A : Int) + 7 := by intro _; exact IntWalk.i64_in _ (by omega)
              have p7 : (0 : Int) ≤ (A : Int) + 7 := by omega
              have t7 : ((A : Int) + 7).toNat = A + 7 := by omega
              have q7 : (A : Int) + 7 < (M : Int) := by omega
              have r7 : (A : Int) + 7 ≤ (cl : Int) := by omega
              obtain ⟨V5, hV5⟩ : ∃ v, v = w32 y5 := ⟨_, rfl⟩
              have HV5 := Lib.hid hV5
              have v50 : ∀ [Inhabited Nat], IntKind.u32.wrap y5 = V5 := by intro _; rw [hV5, IntKind.wrap_u32]; rfl
              obtain ⟨w5, hw5⟩ : ∃ W, W = (((w4.setCell ⟨p, 5, none⟩ (.int .u32 V5)).setCell ⟨p, 6, none⟩ (.int .i64 y6)).setCell ⟨p, 7, none⟩ (.int .i64 y7)).setCell ⟨p, 8, none⟩ (.slice none 0 0) := ⟨_, rfl⟩
              have hT5 : Tch (· = p) w4 w5 := by rw [hw5]; exact tch_one (tch_one (tch_one (tch_set w4 ⟨p, 5, none⟩ _) (fun _ h => h) 6 _) (fun _ h => h) 7 _) (fun _ h => h) 8 _
              have hb5 : Below w1.heap.size w1 w5.drew := (HB4.out.trans (hT5.below (fun k hk => by rw [hk]; exact HP.out) HB4.out.size)).drew
              have hA5 := HA4.out.svc V5 y6 y7 (.slice none 0 0)
              rw [← hw5] at hA5
              have hS2 : w5.drew.cell? ⟨bl, ol + (A + 5), none⟩ = some (.int .i64 y5) ∧ w5.drew.cell? ⟨bl, ol + (A + 6), none⟩ = some (.int .i64 y6) ∧ w5.drew.cell? ⟨bl, ol + (A + 7), none⟩ = some (.int .i64 y7) :=
                ⟨by have := HCE.out (A + 5) (by omega) _ hb5; rwa [← HY5.out.1] at this, by have := HCE.out (A + 6) (by omega) _ hb5; rwa [← HY5.out.2.1] at this, by have := HCE.out (A + 7) (by omega) _ hb5; rwa [← HY5.out.2.2] at this⟩
              rw [hw5] at hS2
              have HW5 := Lib.hid hw5
              have HT5 := Lib.hid hT5
              have HB5 := Lib.hid hb5
              have HA5 := Lib.hid hA5
              clear hV5 hw5 hT5 hb5 hA5
              obtain ⟨k0, k1, k2, k3, k4, k5, k6, k7, k8, k9, k10, k11⟩ := HA4.out.at.lit
              have hfr := HA4.out.free
              go_upto_region 9 with fail
              go_region_held3 (fun wx => wx.cell? ⟨bl, ol + (A + 5), none⟩ = some (.int .i64 y5) ∧ wx.cell? ⟨bl, ol + (A + 6), none⟩ = some (.int .i64 y6) ∧ wx.cell? ⟨bl, ol + (A + 7), none⟩ = some (.int .i64 y7)) (first | (with_reducible exact hS0) | (with_reducible exact hS2) | (with_reducible assumption) | fail) (fail)
              all_goals
                rw [← HW5.out]
                obtain ⟨w6, hw6⟩ : ∃ W, W = w5.drew := ⟨_, rfl⟩
                rw [← hw6]
                obtain ⟨x1, hx1⟩ : ∃ x : Cm, x = { x0 with vip := V5, proto := y6, port := y7 } := ⟨_, rfl⟩
                have hE0 : BxC w6 p x1 (.slice none 0 0) ∧ w6.ownsRow p tyE 3 (.slice none 0 0) 0 (cellsE (pEs L (A + 9) 0)) ∧ Below w4.heap.size w4 w4 := ⟨by rw [hw6, hx1]; exact HA5.out, ⟨rfl, .inl ⟨rfl, rfl⟩⟩, Below.refl _ _⟩
                have HE0 : Hid (BxC w6 p x1 (.slice none 0 0) ∧ w6.ownsRow p tyE 3 (.slice none 0 0) 0 (cellsE (pEs L (A + 9) 0)) ∧ Tch (p ≤ ·) w4 w6) := Lib.hid ⟨hE0.1, hE0.2.1, by rw [hw6]; exact (HT5.out.mono (fun k hk => by rw [hk]; exact Nat.le_refl _)).trans ((tch_new (Below.refl w5.heap.size w5).drew).mono (fun _ h => h.elim))⟩
                have HX1 := Lib.hid hx1
                have HP4 : Hid (p < w4.heap.size) := Lib.hid HA4.out.lt
                have c8 := HCE.out (A + 8) (by omega) w6 (by rw [hw6]; exact HB5.out)
                rw [← HZ.out] at c8
                have vA8 : ∀ [Inhabited Nat], IntKind.i64.wrap ((A : Int) + 8) = (A : Int) + 8 := by intro _; exact IntWalk.i64_in _ (by omega)
                have pA8 : (0 : Int) ≤ (A : Int) + 8 := by omega
                have tA8 : ((A : Int) + 8).toNat = A + 8 := by omega
                have qA8 : (A : Int) + 8 < (M : Int) := by omega
                have rA8 : (A : Int) + 8 ≤ (cl : Int) := by omega
                have hA12 : (A : Int) + 9 ≤ 20000 := by omega
                clear hS0 hS2 c5 c6 c7 k0 k1 k2 k3 k4 k5 k6 k7 k8 k9 k10 k11 hfr hE0 hx1 hw6 v50 v5 p5 t5 q5 r5 v6 p6 t6 q6 r6 v7 p7 t7 q7 r7
                go_upto_region 12 with fail
                clear c8 vA8 pA8 tA8 qA8 rA8
                go_wp2
                obtain ⟨Z, hZ9⟩ : ∃ Z : Nat, Z = A + 9 := ⟨_, rfl⟩
                have HZ9 := Lib.hid hZ9
                have eZ : (A : Int) + 9 = (Z : Int) := by omega
                have hZM : Z + 3 + 3 * k ≤ M := by omega
                have hZM2 : Z ≤ 20000 := by omega
                rw [← HZ9.out] at HE0
                first | rw [eZ] | skip
                clear hZ9 eZ hA12
                go_loopw [7, 10] (fun av kv wr => ∃ (t A2 : Nat) (a2 : Option Addr) (c2 : Nat), t ≤ k ∧ A2 = Z + 3 * t ∧ av = .int .i64 A2 ∧ kv = .int .i64 t ∧ Hid (BxC wr p x1 (.slice a2 t c2) ∧ wr.ownsRow p tyE 3 (.slice a2 t c2) t (cellsE (pEs L Z t)) ∧ Tch (p ≤ ·) w4 wr)) (fun _ kv _ => k - (intOf kv).toNat)
                case atStart => exact ⟨0, Z, none, 0, by omega, by omega, rfl, rfl, HE0⟩
                case round =>
                  obtain ⟨t, A2, a2, c2, ht, hA2, rfl, rfl, HE⟩ := hrel
                  obtain ⟨w7, rfl⟩ : ∃ v, v = wr := ⟨_, rfl⟩
                  clear HE0
                  have HB7 : Hid (Below w1.heap.size w1 w7) := Lib.hid (HB4.out.trans (HE.out.2.2.below (fun k hk => Nat.le_trans HP.out hk) HB4.out.size))
                  by_cases hlt : t < k
                  · have tt : (t : Int) < (k : Int) := by omega
                    have qA20 : (A2 : Int) < (M : Int) := by omega
                    have rA20 : (A2 : Int) ≤ (cl : Int) := by omega
                    have pA20 : (0 : Int) ≤ (A2 : Int) := by omega
                    have vA21 : ∀ [Inhabited Nat], IntKind.i64.wrap ((A2 : Int) + 1) = (A2 : Int) + 1 := by intro _; exact IntWalk.i64_in _ (by omega)
                    have pA21 : (0 : Int) ≤ (A2 : Int) + 1 := by omega
                    have tA21 : ((A2 : Int) + 1).toNat = A2 + 1 := by omega
                    have qA21 : (A2 : Int) + 1 < (M : Int) := by omega
                    have rA21 : (A2 : Int) + 1 ≤ (cl : Int) := by omega
                    have vA22 : ∀ [Inhabited Nat], IntKind.i64.wrap ((A2 : Int) + 2) = (A2 : Int) + 2 := by intro _; exact IntWalk.i64_in _ (by omega)
                    have pA22 : (0 : Int) ≤ (A2 : Int) + 2 := by omega
                    have tA22 : ((A2 : Int) + 2).toNat = A2 + 2 := by omega
                    have qA22 : (A2 : Int) + 2 < (M : Int) := by omega
                    have rA22 : (A2 : Int) + 2 ≤ (cl : Int) := by omega
                    have c0 := HCE.out A2 (by omega) w7 HB7.out
                    have c1 := HCE.out (A2 + 1) (by omega) w7 HB7.out
                    have c3 := HCE.out (A2 + 2) (by omega) w7 HB7.out
                    obtain ⟨u0, hu0⟩ : ∃ y, y = L.getD A2 0 := ⟨_, rfl⟩
                    obtain ⟨u1, hu1⟩ : ∃ y, y = L.getD (A2 + 1) 0 := ⟨_, rfl⟩
                    obtain ⟨u2, hu2⟩ : ∃ y, y = L.getD (A2 + 2) 0 := ⟨_, rfl⟩
                    rw [← hu0] at c0
                    rw [← hu1] at c1
                    rw [← hu2] at c3
                    obtain ⟨V, hV⟩ : ∃ v, v = w32 u0 := ⟨_, rfl⟩
                    have vV : ∀ [Inhabited Nat], IntKind.u32.wrap u0 = V := by intro _; rw [hV, IntKind.wrap_u32]; rfl
                    have HM1 : Hid (pEs L Z (t + 1) = pEs L Z t ++ [⟨V, u1, u2⟩]) := Lib.hid (by rw [pEs_more, ← hA2]; unfold pE; rw [← hu0, ← hu1, ← hu2, ← hV])
                    have HA2 := Lib.hid hA2
                    have hA2b : A2 ≤ 20000 := by omega
                    have hbx := HE.out.1
                    have e0 := hbx.at.lit.2.2.2.2.2.2.2.2.1
                    have ef := hbx.free 8
                    have hba := bl_al (Below.refl w7.heap.size w7) (.cells #[.int .u32 V, .int .i64 u1, .int .i64 u2] tyE)
                    have HQA := Lib.hid (hbx.later hba)
                    have ea := HQA.out.at.lit.2.2.2.2.2.2.2.2.1
                    have HOO := Lib.hid (owns_bel HE.out.2.1 hba)
                    have HNN := Lib.hid (en_new w7 ⟨V, u1, u2⟩)
                    have hne2 : tyE ≠ tyC := by decide
                    have HNP : Hid (¬ some p = (Value.slice a2 t c2).ownBlock) := Lib.hid (fun e => own_ne_box HOO.out HQA.out hne2 p e.symm rfl)
                    have hps : p ≤ (w7.alloc (.cells #[.int .u32 V, .int .i64 u1, .int .i64 u2] tyE)).heap.size := by have := HQA.out.lt; omega
                    have ht64 : t ≤ 64 := by omega
                    have hba9 := hba
                    clear hV hA2 hbx hba hne2
                    have eS0 : w7.drew.cell? ⟨bl, ol + A2, none⟩ = some (.int .i64 u0) ∧ w7.drew.cell? ⟨bl, ol + (A2 + 1), none⟩ = some (.int .i64 u1) ∧ w7.drew.cell? ⟨bl, ol + (A2 + 2), none⟩ = some (.int .i64 u2) := ⟨c0, c1, c3⟩
                    have eS1 : (w7.alloc (.cells #[.int .u32 V, .int .i64 u1, .int .i64 u2] tyE)).cell? ⟨bl, ol + A2, none⟩ = some (.int .i64 u0) ∧ (w7.alloc (.cells #[.int .u32 V, .int .i64 u1, .int .i64 u2] tyE)).cell? ⟨bl, ol + (A2 + 1), none⟩ = some (.int .i64 u1) ∧ (w7.alloc (.cells #[.int .u32 V, .int .i64 u1, .int .i64 u2] tyE)).cell? ⟨bl, ol + (A2 + 2), none⟩ = some (.int .i64 u2) := ⟨cell_later hba9 c0, cell_later hba9 c1, cell_later hba9 c3⟩
                    have hS2 : ∀ w8, Tch (fun k => some k = (Value.slice a2 t c2).ownBlock) (w7.alloc (.cells #[.int .u32 V, .int .i64 u1, .int .i64 u2] tyE)) w8 → (w8.cell? ⟨bl, ol + A2, none⟩ = some (.int .i64 u0) ∧ w8.cell? ⟨bl, ol + (A2 + 1), none⟩ = some (.int .i64 u1) ∧ w8.cell? ⟨bl, ol + (A2 + 2), none⟩ = some (.int .i64 u2)) := fun w8 h => by
                      have hb8 := HB7.out.trans ((hba9.mono HB7.out.size).trans (h.below (fun k hk => Nat.le_trans HP.out (HOO.out.lt k hk.symm).1) (Nat.le_trans HB7.out.size hba9.size)))
                      exact ⟨by have := HCE.out A2 (by omega) w8 hb8; rwa [← hu0] at this, by have := HCE.out (A2 + 1) (by omega) w8 hb8; rwa [← hu1] at this, by have := HCE.out (A2 + 2) (by omega) w8 hb8; rwa [← hu2] at this⟩
                    have hS3 : ∀ w8, Tch (fun k => some k = (Value.slice a2 t c2).ownBlock) (w7.alloc (.cells #[.int .u32 V, .int .i64 u1, .int .i64 u2] tyE)) w8 → ∀ v, ((w8.setCell ⟨p, 8, none⟩ v).cell? ⟨bl, ol + A2, none⟩ = some (.int .i64 u0) ∧ (w8.setCell ⟨p, 8, none⟩ v).cell? ⟨bl, ol + (A2 + 1), none⟩ = some (.int .i64 u1) ∧ (w8.setCell ⟨p, 8, none⟩ v).cell? ⟨bl, ol + (A2 + 2), none⟩ = some (.int .i64 u2)) := fun w8 h v => by
                      have hb8 := (HB7.out.trans ((hba9.mono HB7.out.size).trans (h.below (fun k hk => Nat.le_trans HP.out (HOO.out.lt k hk.symm).1) (Nat.le_trans HB7.out.size hba9.size)))).trans ((tch_set w8 ⟨p, 8, none⟩ v).below (fun k hk => by rw [hk]; exact HP.out) (Nat.le_trans (Nat.le_trans HB7.out.size hba9.size) h.size))
                      exact ⟨by have := HCE.out A2 (by omega) _ hb8; rwa [← hu0] at this, by have := HCE.out (A2 + 1) (by omega) _ hb8; rwa [← hu1] at this, by have := HCE.out (A2 + 2) (by omega) _ hb8; rwa [← hu2] at this⟩
                    have hone : ∀ u ∈ En.cs ⟨V, u1, u2⟩, u.oneCell' = true := by intro u hu; simp only [En.cs, List.mem_cons, List.not_mem_nil, or_false] at hu; rcases hu with rfl | rfl | rfl <;> rfl
                    have hl1 : t + 1 ≤ maxLen := by unfold maxLen; omega
                    have hl2 : (t + 1) * 24 ≤ 140737488355328 := by omega
                    clear hu0 hu1 hu2 hba9
                    go_upto_region 15 with fail
                    refine wp_region_held_drew (S := (fun wx => wx.cell? ⟨bl, ol + A2, none⟩ = some (.int .i64 u0) ∧ wx.cell? ⟨bl, ol + (A2 + 1), none⟩ = some (.int .i64 u1) ∧ wx.cell? ⟨bl, ol + (A2 + 2), none⟩ = some (.int .i64 u2))) (by kernel_rfl) eS0 (fun hHeld => ?_)
                    refine wpAnyH_take (i := 0) (v := ?_) rfl (by kernel_rfl) (by kernel_rfl) (by kernel_rfl) (fun _ _ _ h => h) (Or.inl ⟨by rfl, ?_⟩) (by assumption) ?_
                    rotate_left
                    · intro wz hSw; (try dsimp only at hSw); (try simp only [List.getElem_toArray, List.getElem_cons_zero, List.getElem_cons_succ]); go_simp; first | done | with_reducible rfl
                    try simp only [Act.put, List.setIfInBounds_toArray, List.set_cons_zero, List.set_cons_succ, List.getElem_toArray, List.getElem_cons_zero, List.getElem_cons_succ]
                    refine wpAnyH_take (i := 1) (v := ?_) rfl (by kernel_rfl) (by kernel_rfl) (by kernel_rfl) (fun _ _ _ h => h) (Or.inl ⟨by rfl, ?_⟩) (by assumption) ?_
                    rotate_left
                    · intro wz hSw; (try dsimp only at hSw); (try simp only [List.getElem_toArray, List.getElem_cons_zero, List.getElem_cons_succ]); go_simp; first | done | with_reducible rfl
                    try simp only [Act.put, List.setIfInBounds_toArray, List.set_cons_zero, List.set_cons_succ, List.getElem_toArray, List.getElem_cons_zero, List.getElem_cons_succ]
                    refine wpAnyH_take (i := 3) (v := ?_) rfl (by kernel_rfl) (by kernel_rfl) (by kernel_rfl) (fun _ _ _ h => h) (Or.inl ⟨by rfl, ?_⟩) (by assumption) ?_
                    rotate_left
                    · intro wz hSw; (try dsimp only at hSw); (try simp only [List.getElem_toArray, List.getElem_cons_zero, List.getElem_cons_succ]); go_simp; first | done | with_reducible rfl
                    try simp only [Act.put, List.setIfInBounds_toArray, List.set_cons_zero, List.set_cons_succ, List.getElem_toArray, List.getElem_cons_zero, List.getElem_cons_succ]
                    refine wpAnyH_take (i := 4) (v := ?_) rfl (by kernel_rfl) (by kernel_rfl) (by kernel_rfl) (fun _ _ _ h => h) (Or.inl ⟨by rfl, ?_⟩) (by assumption) ?_
                    rotate_left
                    · intro wz hSw; (try dsimp only at hSw); (try simp only [List.getElem_toArray, List.getElem_cons_zero, List.getElem_cons_succ]); go_simp; first | done | with_reducible rfl
                    try simp only [Act.put, List.setIfInBounds_toArray, List.set_cons_zero, List.set_cons_succ, List.getElem_toArray, List.getElem_cons_zero, List.getElem_cons_succ]
                    refine wpAnyH_take (i := 5) (v := ?_) rfl (by kernel_rfl) (by kernel_rfl) (by kernel_rfl) (fun _ _ _ h => h) (Or.inl ⟨by rfl, ?_⟩) (by assumption) ?_
                    rotate_left
                    · intro wz hSw; (try dsimp only at hSw); (try simp only [List.getElem_toArray, List.getElem_cons_zero, List.getElem_cons_succ]); go_simp; first | done | with_reducible rfl
                    try simp only [Act.put, List.setIfInBounds_toArray, List.set_cons_zero, List.set_cons_succ, List.getElem_toArray, List.getElem_cons_zero, List.getElem_cons_succ]
                    refine wpAnyH_take (i := 6) (v := ?_) rfl (by kernel_rfl) (by kernel_rfl) (by kernel_rfl) (fun _ _ _ h => h) (Or.inl ⟨by rfl, ?_⟩) (by assumption) ?_
                    rotate_left
                    · intro wz hSw; (try dsimp only at hSw); (try simp only [List.getElem_toArray, List.getElem_cons_zero, List.getElem_cons_succ]); go_simp; first | done | with_reducible rfl
                    try simp only [Act.put, List.setIfInBounds_toArray, List.set_cons_zero, List.set_cons_succ, List.getElem_toArray, List.getElem_cons_zero, List.getElem_cons_succ]
                    refine wpAnyH_take (i := 7) (v := ?_) rfl (by kernel_rfl) (by kernel_rfl) (by kernel_rfl) (fun _ _ _ h => h) (Or.inl ⟨by rfl, ?_⟩) (by assumption) ?_
                    rotate_left
                    · intro wz hSw; (try dsimp only at hSw); (try simp only [List.getElem_toArray, List.getElem_cons_zero, List.getElem_cons_succ]); go_simp; first | done | with_reducible rfl
                    try simp only [Act.put, List.setIfInBounds_toArray, List.set_cons_zero, List.set_cons_succ, List.getElem_toArray, List.getElem_cons_zero, List.getElem_cons_succ]
                    refine wpAnyH_take (i := 8) (v := ?_) rfl (by kernel_rfl) (by kernel_rfl) (by kernel_rfl) (fun _ _ _ h => h) (Or.inl ⟨by rfl, ?_⟩) (by assumption) ?_
                    rotate_left
                    · intro wz hSw; (try dsimp only at hSw); (try simp only [List.getElem_toArray, List.getElem_cons_zero, List.getElem_cons_succ]); go_simp; first | done | with_reducible rfl
                    try simp only [Act.put, List.setIfInBounds_toArray, List.set_cons_zero, List.set_cons_succ, List.getElem_toArray, List.getElem_cons_zero, List.getElem_cons_succ]
                    refine wpAnyH_take (i := 9) (v := ?_) rfl (by kernel_rfl) (by kernel_rfl) (by kernel_rfl) (fun _ _ _ h => h) (Or.inl ⟨by rfl, ?_⟩) (by assumption) ?_
                    rotate_left
                    · intro wz hSw; (try dsimp only at hSw); (try simp only [List.getElem_toArray, List.getElem_cons_zero, List.getElem_cons_succ]); go_simp; first | done | with_reducible rfl
                    try simp only [Act.put, List.setIfInBounds_toArray, List.set_cons_zero, List.set_cons_succ, List.getElem_toArray, List.getElem_cons_zero, List.getElem_cons_succ]
                    refine wpAnyH_take (i := 10) (v := ?_) rfl (by kernel_rfl) (by kernel_rfl) (by kernel_rfl) (fun _ _ _ h => h) (Or.inl ⟨by rfl, ?_⟩) (by assumption) ?_
                    rotate_left
                    · intro wz hSw; (try dsimp only at hSw); (try simp only [List.getElem_toArray, List.getElem_cons_zero, List.getElem_cons_succ]); go_simp; first | done | with_reducible rfl
                    try simp only [Act.put, List.setIfInBounds_toArray, List.set_cons_zero, List.set_cons_succ, List.getElem_toArray, List.getElem_cons_zero, List.getElem_cons_succ]
                    refine wpAnyH_take (i := 11) (v := ?_) rfl (by kernel_rfl) (by kernel_rfl) (by kernel_rfl) (fun _ _ _ h => h) (Or.inl ⟨by rfl, ?_⟩) (by assumption) ?_
                    rotate_left
                    · intro wz hSw; (try dsimp only at hSw); (try simp only [List.getElem_toArray, List.getElem_cons_zero, List.getElem_cons_succ]); go_simp; first | done | with_reducible rfl
                    try simp only [Act.put, List.setIfInBounds_toArray, List.set_cons_zero, List.set_cons_succ, List.getElem_toArray, List.getElem_cons_zero, List.getElem_cons_succ]
                    refine wpAnyH_take (i := 12) (v := ?_) rfl (by kernel_rfl) (by kernel_rfl) (by kernel_rfl) (fun _ _ _ h => h) (Or.inl ⟨by rfl, ?_⟩) (by assumption) ?_
                    rotate_left
                    · intro wz hSw; (try dsimp only at hSw); (try simp only [List.getElem_toArray, List.getElem_cons_zero, List.getElem_cons_succ]); go_simp; first | done | with_reducible rfl
                    try simp only [Act.put, List.setIfInBounds_toArray, List.set_cons_zero, List.set_cons_succ, List.getElem_toArray, List.getElem_cons_zero, List.getElem_cons_succ]
                    refine wpAnyH_take (i := 13) (v := ?_) rfl (by kernel_rfl) (by kernel_rfl) (by kernel_rfl) (fun _ _ _ h => h) (Or.inl ⟨by rfl, ?_⟩) (by assumption) ?_
                    rotate_left
                    · intro wz hSw; (try dsimp only at hSw); (try simp only [List.getElem_toArray, List.getElem_cons_zero, List.getElem_cons_succ]); go_simp; first | done | with_reducible rfl
                    try simp only [Act.put, List.setIfInBounds_toArray, List.set_cons_zero, List.set_cons_succ, List.getElem_toArray, List.getElem_cons_zero, List.getElem_cons_succ]
                    refine wpAnyH_take (i := 14) (v := ?_) rfl (by kernel_rfl) (by kernel_rfl) (by kernel_rfl) (fun _ _ _ h => h) (Or.inl ⟨by rfl, ?_⟩) (by assumption) ?_
                    rotate_left
                    · intro wz hSw; (try dsimp only at hSw); (try simp only [List.getElem_toArray, List.getElem_cons_zero, List.getElem_cons_succ]); go_simp; first | done | with_reducible rfl
                    try simp only [Act.put, List.setIfInBounds_toArray, List.set_cons_zero, List.set_cons_succ, List.getElem_toArray, List.getElem_cons_zero, List.getElem_cons_succ]
                    refine wpAnyH_take (i := 15) (v := ?_) rfl (by kernel_rfl) (by kernel_rfl) (by kernel_rfl) (fun _ _ _ h => h) (Or.inl ⟨by rfl, ?_⟩) (by assumption) ?_
                    rotate_left
                    · intro wz hSw; (try dsimp only at hSw); (try simp only [List.getElem_toArray, List.getElem_cons_zero, List.getElem_cons_succ]); go_simp; first | done | with_reducible rfl
                    try simp only [Act.put, List.setIfInBounds_toArray, List.set_cons_zero, List.set_cons_succ, List.getElem_toArray, List.getElem_cons_zero, List.getElem_cons_succ]
                    refine wpAnyH_take (i := 16) (v := ?_) rfl (by kernel_rfl) (by kernel_rfl) (by kernel_rfl) (fun _ _ _ h => h) (Or.inl ⟨by rfl, ?_⟩) (by assumption) ?_
                    rotate_left
                    · intro wz hSw; (try dsimp only at hSw); (try simp only [List.getElem_toArray, List.getElem_cons_zero, List.getElem_cons_succ]); go_simp; first | done | with_reducible rfl
                    try simp only [Act.put, List.setIfInBounds_toArray, List.set_cons_zero, List.set_cons_succ, List.getElem_toArray, List.getElem_cons_zero, List.getElem_cons_succ]
                    refine wpAnyH_take (i := 17) (v := ?_) rfl (by kernel_rfl) (by kernel_rfl) (by kernel_rfl) (fun _ _ _ h => h) (Or.inl ⟨by rfl, ?_⟩) (by assumption) ?_
                    rotate_left
                    · intro wz hSw; (try dsimp only at hSw); (try simp only [List.getElem_toArray, List.getElem_cons_zero, List.getElem_cons_succ]); go_simp; first | done | with_reducible rfl
                    try simp only [Act.put, List.setIfInBounds_toArray, List.set_cons_zero, List.set_cons_succ, List.getElem_toArray, List.getElem_cons_zero, List.getElem_cons_succ]
                    refine wpAnyH_take (i := 18) (v := ?_) rfl (by kernel_rfl) (by kernel_rfl) (by kernel_rfl) (fun _ _ _ h => h) (Or.inl ⟨by rfl, ?_⟩) (by assumption) ?_
                    rotate_left
                    · intro wz hSw; (try dsimp only at hSw); (try simp only [List.getElem_toArray, List.getElem_cons_zero, List.getElem_cons_succ]); go_simp; first | done | with_reducible rfl
                    try simp only [Act.put, List.setIfInBounds_toArray, List.set_cons_zero, List.set_cons_succ, List.getElem_toArray, List.getElem_cons_zero, List.getElem_cons_succ]
                    refine wpAnyH_ready (rs := [2, 19]) (by kernel_rfl) (by simp) ?_
                    refine AllReadyH.cons rfl (fun K hK => ?_) (AllReadyH.cons rfl (fun K hK => ?_) AllReadyH.nil)
                    · try simp only [List.getElem_toArray, List.getElem_cons_zero, List.getElem_cons_succ]
                      go_simp
                      go_wp2_with fail
                      refine hK.out _ _ ?_ (fun hHeld2 => ?_)
                      · first | exact eS0 | exact eS1
                      clear hK K
                      try simp only [Act.put, List.setIfInBounds_toArray, List.set_cons_zero, List.set_cons_succ, List.getElem_toArray, List.getElem_cons_zero, List.getElem_cons_succ]
                      refine wpAnyH_ready (rs := [19]) (by kernel_rfl) (by simp) ?_
                      refine AllReadyH.cons rfl (fun K hK => ?_) AllReadyH.nil
                      try simp only [List.getElem_toArray, List.getElem_cons_zero, List.getElem_cons_succ]
                      go_simp
                      go_wp2_with fail
                      refine hK.out _ _ ?_ (fun hHeld3 => ?_)
                      · exact eS1
                      clear hK K
                      try simp only [Act.put, List.setIfInBounds_toArray, List.set_cons_zero, List.set_cons_succ, List.getElem_toArray, List.getElem_cons_zero, List.getElem_cons_succ]
                      refine wpAnyH_ready (rs := [20]) (by kernel_rfl) (by simp) ?_
                      refine AllReadyH.cons rfl (fun K hK => ?_) AllReadyH.nil
                      try simp only [List.getElem_toArray, List.getElem_cons_zero, List.getElem_cons_succ]
                      refine wp_append_own_any rfl (.tmp 124) (.tmp 141) 38 rfl p tyE j0 _ 3 24 Try.underlying38 hj0 hy0 hy1 hy2 rfl (by decide) _ t (cellsE (pEs L Z t)) rfl HOO.out (some ⟨w7.heap.size, 0, none⟩) 1 1 (En.cs ⟨V, u1, u2⟩) rfl rfl (fun h => by cases h) (fun ad e => by cases e; exact HNN.out) hone hl1 hl2 hps ?_
                      intro v8 w8 hown8 hg8
                      obtain ⟨a8, cc8, rfl⟩ := own_form hown8
                      have hT8 : Tch (fun k => some k = (Value.slice a2 t c2).ownBlock) (w7.alloc (.cells #[.int .u32 V, .int .i64 u1, .int .i64 u2] tyE)) w8 := ((tch_new (Below.refl (w7.alloc (.cells #[.int .u32 V, .int .i64 u1, .int .i64 u2] tyE)).heap.size (w7.alloc (.cells #[.int .u32 V, .int .i64 u1, .int .i64 u2] tyE))).drew).mono (fun _ h => h.elim)).trans (tch_grown hg8)
                      have h8 : BxC w8 p x1 (.slice a2 t c2) := hT8.at HQA.out HNP.out
                      have e08 := h8.at.lit.2.2.2.2.2.2.2.2.1
                      have ef8 := h8.free 8
                      have eS2 := hS2 w8 hT8
                      refine hK.out _ _ ?_ (fun hHeld4 => ?_)
                      · exact eS2
                      clear hK K
                      try simp only [Act.put, List.setIfInBounds_toArray, List.set_cons_zero, List.set_cons_succ, List.getElem_toArray, List.getElem_cons_zero, List.getElem_cons_succ]
                      refine wpAnyH_take (i := 21) (v := ?_) rfl (by kernel_rfl) (by kernel_rfl) (by kernel_rfl) (fun _ _ _ h => h) (Or.inl ⟨by rfl, ?_⟩) (by assumption) ?_
                      rotate_left
                      · intro wz hSw; (try dsimp only at hSw); (try simp only [List.getElem_toArray, List.getElem_cons_zero, List.getElem_cons_succ]); go_simp; first | done | with_reducible rfl
                      try simp only [Act.put, List.setIfInBounds_toArray, List.set_cons_zero, List.set_cons_succ, List.getElem_toArray, List.getElem_cons_zero, List.getElem_cons_succ]
                      refine wpAnyH_take (i := 22) (v := ?_) rfl (by kernel_rfl) (by kernel_rfl) (by kernel_rfl) (fun _ _ _ h => h) (Or.inl ⟨by rfl, ?_⟩) (by assumption) ?_
                      rotate_left
                      · intro wz hSw; (try dsimp only at hSw); (try simp only [List.getElem_toArray, List.getElem_cons_zero, List.getElem_cons_succ]); go_simp; first | done | with_reducible rfl
                      try simp only [Act.put, List.setIfInBounds_toArray, List.set_cons_zero, List.set_cons_succ, List.getElem_toArray, List.getElem_cons_zero, List.getElem_cons_succ]
                      refine wpAnyH_ready (rs := [23]) (by kernel_rfl) (by simp) ?_
                      refine AllReadyH.cons rfl (fun K hK => ?_) AllReadyH.nil
                      try simp only [List.getElem_toArray, List.getElem_cons_zero, List.getElem_cons_succ]
                      go_simp
                      go_wp2_with fail
                      refine hK.out _ _ ?_ (fun hHeld5 => ?_)
                      · exact hS3 w8 hT8 _
                      clear hK K
                      try simp only [Act.put, List.setIfInBounds_toArray, List.set_cons_zero, List.set_cons_succ, List.getElem_toArray, List.getElem_cons_zero, List.getElem_cons_succ]
                      refine wpAnyH_done (by kernel_rfl) ?_ _
                      have hT19 : Tch (· = p) w8 (w8.setCell ⟨p, 8, none⟩ (.slice a8 (t + 1) cc8)) := tch_set w8 ⟨p, 8, none⟩ _
                      have HF : Hid (BxC (w8.setCell ⟨p, 8, none⟩ (.slice a8 (t + 1) cc8)) p x1 (.slice a8 (t + 1) cc8) ∧ (w8.setCell ⟨p, 8, none⟩ (.slice a8 (t + 1) cc8)).ownsRow p tyE 3 (.slice a8 (t + 1) cc8) (t + 1) (cellsE (pEs L Z (t + 1))) ∧ Tch (p ≤ ·) w4 (w8.setCell ⟨p, 8, none⟩ (.slice a8 (t + 1) cc8))) := Lib.hid (by
                        refine ⟨h8.set8 _, ?_, ?_⟩
                        · rw [HM1.out, cellsE_app, cellsE_one]
                          exact hT19.own hown8 (fun g hg e => own_ne_box hown8 h8 (by decide) g hg e)
                        · have hba : Below w7.heap.size w7 (w7.alloc (.cells #[.int .u32 V, .int .i64 u1, .int .i64 u2] tyE)) := bl_al (Below.refl _ _) _
                          exact HE.out.2.2.trans (((tch_new hba).mono (fun _ h => h.elim)).trans ((hT8.mono (fun k hk => (HOO.out.lt k hk.symm).1)).trans (hT19.mono (fun k hk => by rw [hk]; exact Nat.le_refl _)))))
                      clear hT19 hown8 hg8 hT8 h8 e08 ef8 ea e0 ef eS0 eS1 hS2 hS3 hone hl1 hl2 HOO HNN HQA HNP hps HE c0 c1 c3
                      go_wp2
                      go_roundw
                      case rel => exact ⟨t + 1, A2 + 3, a8, cc8, by omega, by have := HA2.out; omega, by go_num, by go_num, HF⟩
                      case measure => simp [intOf]; omega
                    · try simp only [List.getElem_toArray, List.getElem_cons_zero, List.getElem_cons_succ]
                      go_simp
                      go_wp2_with fail
                      refine hK.out _ _ ?_ (fun hHeld3 => ?_)
                      · exact eS1
                      clear hK K
                      try simp only [Act.put, List.setIfInBounds_toArray, List.set_cons_zero, List.set_cons_succ, List.getElem_toArray, List.getElem_cons_zero, List.getElem_cons_succ]
                      refine wpAnyH_ready (rs := [2]) (by kernel_rfl) (by simp) ?_
                      refine AllReadyH.cons rfl (fun K hK => ?_) AllReadyH.nil
                      try simp only [List.getElem_toArray, List.getElem_cons_zero, List.getElem_cons_succ]
                      go_simp
                      go_wp2_with fail
                      refine hK.out _ _ ?_ (fun hHeld2 => ?_)
                      · first | exact eS0 | exact eS1
                      clear hK K
                      try simp only [Act.put, List.setIfInBounds_toArray, List.set_cons_zero, List.set_cons_succ, List.getElem_toArray, List.getElem_cons_zero, List.getElem_cons_succ]
                      refine wpAnyH_ready (rs := [20]) (by kernel_rfl) (by simp) ?_
                      refine AllReadyH.cons rfl (fun K hK => ?_) AllReadyH.nil
                      try simp only [List.getElem_toArray, List.getElem_cons_zero, List.getElem_cons_succ]
                      refine wp_append_own_any rfl (.tmp 124) (.tmp 141) 38 rfl p tyE j0 _ 3 24 Try.underlying38 hj0 hy0 hy1 hy2 rfl (by decide) _ t (cellsE (pEs L Z t)) rfl HOO.out (some ⟨w7.heap.size, 0, none⟩) 1 1 (En.cs ⟨V, u1, u2⟩) rfl rfl (fun h => by cases h) (fun ad e => by cases e; exact HNN.out) hone hl1 hl2 hps ?_
                      intro v8 w8 hown8 hg8
                      obtain ⟨a8, cc8, rfl⟩ := own_form hown8
                      have hT8 : Tch (fun k => some k = (Value.slice a2 t c2).ownBlock) (w7.alloc (.cells #[.int .u32 V, .int .i64 u1, .int .i64 u2] tyE)) w8 := ((tch_new (Below.refl (w7.alloc (.cells #[.int .u32 V, .int .i64 u1, .int .i64 u2] tyE)).heap.size (w7.alloc (.cells #[.int .u32 V, .int .i64 u1, .int .i64 u2] tyE))).drew).mono (fun _ h => h.elim)).trans (tch_grown hg8)
                      have h8 : BxC w8 p x1 (.slice a2 t c2) := hT8.at HQA.out HNP.out
                      have e08 := h8.at.lit.2.2.2.2.2.2.2.2.1
                      have ef8 := h8.free 8
                      have eS2 := hS2 w8 hT8
                      refine hK.out _ _ ?_ (fun hHeld4 => ?_)
                      · exact eS2
                      clear hK K
                      try simp only [Act.put, List.setIfInBounds_toArray, List.set_cons_zero, List.set_cons_succ, List.getElem_toArray, List.getElem_cons_zero, List.getElem_cons_succ]
                      refine wpAnyH_take (i := 21) (v := ?_) rfl (by kernel_rfl) (by kernel_rfl) (by kernel_rfl) (fun _ _ _ h => h) (Or.inl ⟨by rfl, ?_⟩) (by assumption) ?_
                      rotate_left
                      · intro wz hSw; (try dsimp only at hSw); (try simp only [List.getElem_toArray, List.getElem_cons_zero, List.getElem_cons_succ]); go_simp; first | done | with_reducible rfl
                      try simp only [Act.put, List.setIfInBounds_toArray, List.set_cons_zero, List.set_cons_succ, List.getElem_toArray, List.getElem_cons_zero, List.getElem_cons_succ]
                      refine wpAnyH_take (i := 22) (v := ?_) rfl (by kernel_rfl) (by kernel_rfl) (by kernel_rfl) (fun _ _ _ h => h) (Or.inl ⟨by rfl, ?_⟩) (by assumption) ?_
                      rotate_left
                      · intro wz hSw; (try dsimp only at hSw); (try simp only [List.getElem_toArray, List.getElem_cons_zero, List.getElem_cons_succ]); go_simp; first | done | with_reducible rfl
                      try simp only [Act.put, List.setIfInBounds_toArray, List.set_cons_zero, List.set_cons_succ, List.getElem_toArray, List.getElem_cons_zero, List.getElem_cons_succ]
                      refine wpAnyH_ready (rs := [23]) (by kernel_rfl) (by simp) ?_
                      refine AllReadyH.cons rfl (fun K hK => ?_) AllReadyH.nil
                      try simp only [List.getElem_toArray, List.getElem_cons_zero, List.getElem_cons_succ]
                      go_simp
                      go_wp2_with fail
                      refine hK.out _ _ ?_ (fun hHeld5 => ?_)
                      · exact hS3 w8 hT8 _
                      clear hK K
                      try simp only [Act.put, List.setIfInBounds_toArray, List.set_cons_zero, List.set_cons_succ, List.getElem_toArray, List.getElem_cons_zero, List.getElem_cons_succ]
                      refine wpAnyH_done (by kernel_rfl) ?_ _
                      have hT19 : Tch (· = p) w8 (w8.setCell ⟨p, 8, none⟩ (.slice a8 (t + 1) cc8)) := tch_set w8 ⟨p, 8, none⟩ _
                      have HF : Hid (BxC (w8.setCell ⟨p, 8, none⟩ (.slice a8 (t + 1) cc8)) p x1 (.slice a8 (t + 1) cc8) ∧ (w8.setCell ⟨p, 8, none⟩ (.slice a8 (t + 1) cc8)).ownsRow p tyE 3 (.slice a8 (t + 1) cc8) (t + 1) (cellsE (pEs L Z (t + 1))) ∧ Tch (p ≤ ·) w4 (w8.setCell ⟨p, 8, none⟩ (.slice a8 (t + 1) cc8))) := Lib.hid (by
                        refine ⟨h8.set8 _, ?_, ?_⟩
                        · rw [HM1.out, cellsE_app, cellsE_one]
                          exact hT19.own hown8 (fun g hg e => own_ne_box hown8 h8 (by decide) g hg e)
                        · have hba : Below w7.heap.size w7 (w7.alloc (.cells #[.int .u32 V, .int .i64 u1, .int .i64 u2] tyE)) := bl_al (Below.refl _ _) _
                          exact HE.out.2.2.trans (((tch_new hba).mono (fun _ h => h.elim)).trans ((hT8.mono (fun k hk => (HOO.out.lt k hk.symm).1)).trans (hT19.mono (fun k hk => by rw [hk]; exact Nat.le_refl _)))))
                      clear hT19 hown8 hg8 hT8 h8 e08 ef8 ea e0 ef eS0 eS1 hS2 hS3 hone hl1 hl2 HOO HNN HQA HNP hps HE c0 c1 c3
                      go_wp2
                      go_roundw
                      case rel => exact ⟨t + 1, A2 + 3, a8, cc8, by omega, by have := HA2.out; omega, by go_num, by go_num, HF⟩
                      case measure => simp [intOf]; omega
                  · have tt : ¬ (t : Int) < (k : Int) := by omega
                    have htk : t = k := by omega
                    subst htk
                    have qA20 : (A2 : Int) < (M : Int) := by omega
                    have rA20 : (A2 : Int) ≤ (cl : Int) := by omega
                    have pA20 : (0 : Int) ≤ (A2 : Int) := by omega
                    have vA21 : ∀ [Inhabited Nat], IntKind.i64.wrap ((A2 : Int) + 1) = (A2 : Int) + 1 := by intro _; exact IntWalk.i64_in _ (by omega)
                    have pA21 : (0 : Int) ≤ (A2 : Int) + 1 := by omega
                    have tA21 : ((A2 : Int) + 1).toNat = A2 + 1 := by omega
                    have qA21 : (A2 : Int) + 1 < (M : Int) := by omega
                    have rA21 : (A2 : Int) + 1 ≤ (cl : Int) := by omega
                    have vA22 : ∀ [Inhabited Nat], IntKind.i64.wrap ((A2 : Int) + 2) = (A2 : Int) + 2 := by intro _; exact IntWalk.i64_in _ (by omega)
                    have pA22 : (0 : Int) ≤ (A2 : Int) + 2 := by omega
                    have tA22 : ((A2 : Int) + 2).toNat = A2 + 2 := by omega
                    have qA22 : (A2 : Int) + 2 < (M : Int) := by omega
                    have rA22 : (A2 : Int) + 2 ≤ (cl : Int) := by omega
                    obtain ⟨y9, hy9⟩ : ∃ y, y = L.getD A2 0 := ⟨_, rfl⟩
                    obtain ⟨y10, hy10⟩ : ∃ y, y = L.getD (A2 + 1) 0 := ⟨_, rfl⟩
                    obtain ⟨y11, hy11⟩ : ∃ y, y = L.getD (A2 + 2) 0 := ⟨_, rfl⟩
                    obtain ⟨V9, hV9⟩ : ∃ v, v = w32 y9 := ⟨_, rfl⟩
                    obtain ⟨V10, hV10⟩ : ∃ v, v = w32 y10 := ⟨_, rfl⟩
                    obtain ⟨D3, hD3⟩ : ∃ v, v = decide (y11 = 1) := ⟨_, rfl⟩
                    have vV9 : ∀ [Inhabited Nat], IntKind.u32.wrap y9 = V9 := by intro _; rw [hV9, IntKind.wrap_u32]; rfl
                    have vV10 : ∀ [Inhabited Nat], IntKind.u32.wrap y10 = V10 := by intro _; rw [hV10, IntKind.wrap_u32]; rfl
                    have vD3 : (y11 == 1) = D3 := by rw [hD3]; rfl
                    have vD4 : decide (y11 = 1) = D3 := hD3.symm
                    have HYF := Lib.hid (And.intro hy9 (And.intro hy10 (And.intro hy11 (And.intro hV9 (And.intro hV10 hD3)))))
                    have HAA : Hid (A2 = Z + 3 * t) := Lib.hid hA2
                    have hbt : ∀ wx, Tch (· = p) w7 wx → Below w1.heap.size w1 wx := fun wx hx => HB7.out.trans (hx.below (fun k hk => by rw [hk]; exact HP.out) HB7.out.size)
                    have c0 := HCE.out A2 (by omega) w7 HB7.out
                    rw [← hy9] at c0
                    have hb0 := HE.out.1
                    obtain ⟨wA, hwA⟩ : ∃ W, W = w7.setCell ⟨p, 9, none⟩ (.int .u32 V9) := ⟨_, rfl⟩
                    have hTA : Tch (· = p) w7 wA := by rw [hwA]; exact tch_set w7 ⟨p, 9, none⟩ _
                    have hbA : BxC wA p { x1 with dip := V9 } (.slice a2 t c2) := by rw [hwA]; exact put_row (i := 9) hb0 (.int .u32 V9)
                    have c1 := HCE.out (A2 + 1) (by omega) wA (hbt wA hTA)
                    rw [← hy10] at c1
                    obtain ⟨wB, hwB⟩ : ∃ W, W = wA.setCell ⟨p, 10, none⟩ (.int .u32 V10) := ⟨_, rfl⟩
                    have hTB : Tch (· = p) w7 wB := hTA.trans (by rw [hwB]; exact tch_set wA ⟨p, 10, none⟩ _)
                    have hbB : BxC wB p { x1 with dip := V9, cvip := V10 } (.slice a2 t c2) := by rw [hwB]; exact put_row (i := 10) hbA (.int .u32 V10)
                    have c3 := HCE.out (A2 + 2) (by omega) wB (hbt wB hTB)
                    rw [← hy11] at c3
                    obtain ⟨wC, hwC⟩ : ∃ W, W = wB.setCell ⟨p, 11, none⟩ (.bool D3) := ⟨_, rfl⟩
                    have hTC : Tch (· = p) w7 wC := hTB.trans (by rw [hwC]; exact tch_set wB ⟨p, 11, none⟩ _)
                    have hbC : BxC wC p { x1 with dip := V9, cvip := V10, up := D3 } (.slice a2 t c2) := by rw [hwC]; exact put_row (i := 11) hbB (.bool D3)
                    obtain ⟨X, hX⟩ : ∃ x, x = pC L A t := ⟨_, rfl⟩
                    have hbX : BxC wC p X (.slice a2 t c2) := by
                      have e : X.arr (.slice a2 t c2) = ({ x1 with dip := V9, cvip := V10, up := D3 } : Cm).arr (.slice a2 t c2) := by
                        rw [hX, HX1.out, HX0.out, hV9, hV10, hD3, hy9, hy10, hy11, HV5.out, HY5.out.1, HY5.out.2.1, HY5.out.2.2, HY.out.1, HY.out.2.1, HY.out.2.2.1, HY.out.2.2.2.1, HY.out.2.2.2.2, hA2, HZ9.out]
                        rfl
                      show wC.heap[p]? = some (.cells (X.arr (.slice a2 t c2)) tyC (0, 0))
                      rw [e]
                      exact hbC
                    have HEN : Hid (X.es = pEs L Z t ∧ X.es.length = t) := Lib.hid ⟨by rw [hX, HZ9.out]; rfl, by rw [hX]; show (pEs L (A + 9) t).length = t; rw [pEs_len]⟩
                    have HOE : Hid (wC.ownsRow w1.heap.size tyE 3 (.slice a2 t c2) t (cellsE X.es)) := Lib.hid (by rw [HEN.out.1]; exact own_base (hTC.own HE.out.2.1 (fun g hg e => own_ne_box HE.out.2.1 hb0 (by decide) g hg e)) HP.out)
                    have HB3C : Hid (Below w3.heap.size w3 wC) := Lib.hid (HS3.out.2.1.trans ((HE.out.2.2.trans (hTC.mono (fun k hk => by rw [hk]; exact Nat.le_refl _))).below (fun k hk => by rw [← HS3.out.2.2]; exact hk) HS3.out.2.1.size))
                    have HBC := Lib.hid (hbt wC hTC)
                    have HOC : Hid (OwC wC w1.heap.size lg ao cc vs) := Lib.hid (HS3.out.1.later HB3C.out)
                    have HBX := Lib.hid hbX
                    have HWA := Lib.hid hwA
                    have HWB := Lib.hid hwB
                    have HWC := Lib.hid hwC
                    have hfr0 := hb0.free 9
                    have hfrA := hbA.free 10
                    have hfrB := hbB.free 11
                    have k9 := hb0.at.lit.2.2.2.2.2.2.2.2.2.1
                    have k10 := hbA.at.lit.2.2.2.2.2.2.2.2.2.2.1
                    have k11 := hbB.at.lit.2.2.2.2.2.2.2.2.2.2.2
                    have HXE := Lib.hid hX
                    clear hA2 hy9 hy10 hy11 hV9 hV10 hD3 hbt hb0 hwA hTA hbA hwB hTB hbB hwC hTC hbC hX hbX HE
                    go_upto_region 18 with fail
                    rw [← HWA.out]
                    go_upto_region 19 with fail
                    rw [← HWB.out]
                    go_upto_region 20 with fail
                    rw [← HWC.out]
                    obtain ⟨d0, d1, d2, d3, d4, d5, d6, d7, d8, d9, d10, d11⟩ := HBX.out.at.lit
                    have HOO : Hid ((wC.alloc (.cells (X.arr (.slice a2 t c2)) tyC)).ownsRow w1.heap.size tyC 12 (.slice ao m cc) m (cellsC lg vs)) := Lib.hid (by have h := HOC.out.own; rw [HLG.out] at h; exact h.alloc _)
                    have HNN := Lib.hid (cs_new wC X (.slice a2 t c2))
                    have HO1 := Lib.hid (cs_one1 X (v := .slice a2 t c2) rfl)
                    have HSZ : Hid (w1.heap.size ≤ (wC.alloc (.cells (X.arr (.slice a2 t c2)) tyC)).heap.size) := Lib.hid (by have := HBC.out.size; simp; omega)
                    clear c0 c1 c3 k9 k10 k11 hfr0 hfrA hfrB vV9 vV10 vD3 vD4
                    go_wp2_with (at_builtin; refine wpList_append_own _ rfl (.tmp 169) (.tmp 171) 22 rfl w1.heap.size tyC i0 _ 12 104 Try.underlying22 hi0 hz0 hz1 hz2 rfl (by decide) _ m (cellsC lg vs) rfl HOO.out ⟨wC.heap.size, 0, none⟩ 1 1 (X.cs (.slice a2 t c2)) rfl rfl HNN.out HO1.out (by unfold maxLen; omega) (by omega) HSZ.out ?_)
                    intro v8 w8 hown8 hg8 _
                    obtain ⟨a8, c8, rfl⟩ := own_form hown8
                    have HFN : Hid (OwC w8 w1.heap.size (lg ++ [X]) a8 c8 (vs ++ [.slice a2 t c2]) ∧ Below w1.heap.size w1 w8) := Lib.hid (by
                      have hb7 := bl_al (Below.refl wC.heap.size wC) (.cells (X.arr (.slice a2 t c2)) tyC)
                      have hO7 := HOC.out.later hb7
                      have hE7 := owns_bel HOE.out hb7
                      exact ⟨hO7.more (x := X) (a2 := a2) (c2 := c2) (by rw [HEN.out.2]) (by rw [HEN.out.2]; exact hE7) (by rw [HLG.out]; exact hown8) (by rw [HLG.out]; exact hg8), (HBC.out.alloc HBC.out.size _).grown hg8 HSZ.out (fun k hk => (HOO.out.lt k hk).1)⟩)
                    have HAN : Hid (A2 + 3 = A + 12 + 3 * t) := Lib.hid (by have := HAA.out; have := HZ9.out; omega)
                    have HRN : Hid (RdI b L (lg ++ [X]) (A2 + 3)) := Lib.hid (by
                      have h := RdI.step (b := b) (lg := lg) (a := A) (n := t) (by have := HR.out; rwa [HL.out] at this) HF.out HC.out.1 HC.out.2 (by rw [← HL.out, ← HZ.out]) hk64 (by rw [← HL.out, HLL.out]; exact hAk)
                      rw [← HL.out, ← HXE.out, ← HAN.out] at h
                      exact h)
                    have HLN1 : Hid ((lg ++ [X]).length = m + 1) := Lib.hid (by rw [List.length_append, HLG.out]; rfl)
                    clear hown8 hg8 HOO HNN HO1 HSZ
                    go_wp2
                    go_roundw
                    case rel => exact ⟨m + 1, A2 + 3, lg ++ [X], a8, c8, vs ++ [.slice a2 t c2], by omega, by omega, by have := HAN.out; omega, rfl, by go_num, HLN1, HRN, HFN⟩
                    case measure => have := HAN.out; simp [intOf]; omega
      · rw [HD.out, decide_eq_false hcond]
        have HBF := Lib.hid (HB1.out.trans (HS.out.2.mono HB1.out.size))
        have HB3 := Lib.hid HS.out.2
        have HDN := Lib.hid (RdI.done (by have := HR.out; rwa [HL.out] at this) HF.out (by rw [← HL.out, HLL.out, HLG.out, ← HZ0.out]; omega))
        have hIL : InC w3 ao m cc lg vs := by have h := HS.out.1.in HR.out.ty; rwa [HLG.out] at h
        have CW := Lib.hid (writeR_c lg vs ao m cc w3 hIL (by omega) (fun x hx => Nat.le_trans (HR.out.es x hx) (by decide)))
        have HO3 := Lib.hid HS.out.1
        clear hcond hIL
        go_wp2_with fail
        refine CW.out.mono ?_
        intro e w4 hW
        obtain ⟨ab, kb, cb, rfl, hIn⟩ := hW.both
        have HB4 := Lib.hid (bl_tr HBF.out hW.bel)
        have HO4 := Lib.hid (own_base_C (HO3.out.later hW.bel) HB1.out.size)
        have HI4 := Lib.hid (HI.out.below HB4.out)
        have HIN := Lib.hid hIn
        have HFL := Lib.hid (fit_bL lg)
        by_cases hg : GoodL lg
        · have e1 : bL lg = bytesL lg := if_pos hg
          have e2 : fL lg = 0 := if_pos hg
          rw [e2]
          rw [e1] at HIN HFL
          have sA := str_of HIN.out.here HIN.out.len
          have sB := str_of HI4.out.here HI4.out.len
          have sq := str_eq HFL.out HF.out
          have HG := Lib.hid hg
          clear hW hIn e1 e2 hg CW
          obtain ⟨s1, hs1⟩ : ∃ s, s = strOfNums (bytesL lg) := ⟨_, rfl⟩
          obtain ⟨s2, hs2⟩ : ∃ s, s = strOfNums b := ⟨_, rfl⟩
          rw [← hs1] at sA sq
          rw [← hs2] at sB sq
          clear hs1 hs2
          by_cases hq : bytesL lg = b
          · have hIs := HDN.out.2 HG.out hq
            have hDe := HDN.out.1 hIs
            rw [show same (bytesL lg) b = true from decide_eq_true hq] at sq
            have R : Hid (GotRR w b (.returned (.tuple #[.slice ao m cc, .int .i64 0])) w4) := Lib.hid ⟨fun _ => ⟨ao, cc, vs, by rw [← hDe, HLG.out], by rw [← hDe]; exact HO4.out⟩, fun h => absurd hIs h, HB4.out⟩
            clear hIs hDe hq
            go_wp2
            go_ret2
            exact R.out
          · have R : Hid (GotRR w b (.returned (.tuple #[.slice none 0 0, .int .i64 3])) w4) := Lib.hid ⟨fun h => absurd (by rw [HDN.out.1 h]; exact h.2) hq, fun _ => rfl, HB4.out⟩
            rw [show same (bytesL lg) b = false from decide_eq_false hq] at sq
            clear hq
            go_wp2
            go_ret2
            exact R.out
        · have e2 : fL lg = 9 := if_neg hg
          rw [e2]
          have R : Hid (GotRR w b (.returned (.tuple #[.slice none 0 0, .int .i64 3])) w4) := Lib.hid ⟨fun h => absurd (by rw [HDN.out.1 h]; exact h.1) hg, fun _ => rfl, HB4.out⟩
          clear hW hIn e2 hg CW
          go_wp2
          go_ret2
          exact R.out
end Go.Proofs.Ytndgdijiecgagaa
