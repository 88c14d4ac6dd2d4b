/- slices.Equal over ends, sameService, isService. Conditions: the rows came in. -/
import Derived.Test.YtnhnpfhfcbmmlaaVaR
namespace Go.Proofs.Ytnhnpfhfcbmmlaa
open Go Go.RowKit
set_option linter.unusedVariables false
set_option linter.unusedSimpArgs false

def eqE (a b : En) : Bool := decide (a.dip = b.dip ∧ a.port = b.port ∧ a.wt = b.wt)
theorem eqE_is (a b : En) : eqE a b = decide (a = b) := by
  unfold eqE
  cases a
  cases b
  simp only [En.mk.injEq]
theorem en_neq (a b : En) (w : World) : (binOp .neq tyE a.val b.val).run Try.prog w = .ok (.bool (!eqE a b)) w := by
  unfold eqE
  by_cases h0 : a.dip = b.dip
  · by_cases h1 : a.port = b.port
    · by_cases h2 : a.wt = b.wt
      · go_simp
      · go_simp
    · go_simp
  · go_simp
theorem takeE_step {l m : List En} {j : Nat} (h : l.take j = m.take j) (hl : j < l.length) (hm : j < m.length) (e : l.getD j en0 = m.getD j en0) : l.take (j + 1) = m.take (j + 1) := by
  rw [take_moreE l hl, take_moreE m hm, h, e]
theorem takeE_end {l m : List En} {j n : Nat} (h : l.take j = m.take j) (hl : l.length = n) (hm : m.length = n) (hj : ¬ j < n) : l = m := by
  rw [List.take_of_length_le (by omega), List.take_of_length_le (by omega)] at h
  exact h
theorem differE {l m : List En} {j : Nat} (e : l.getD j en0 ≠ m.getD j en0) : l ≠ m := fun h => e (by rw [h])
set_option maxRecDepth 100000 in
set_option maxHeartbeats 1000000 in
theorem endsEq_c (l m : List En) (a b : Option Addr) (n c k d : Nat) (w : World) (hI : InE w a n c l) (hJ : InE w b k d m) (hn : n ≤ 4611686018427387904) (z : Bool) (hz : z = true ↔ l = m) :
    Calls Try.prog 107 #[.slice a n c, .slice b k d] w fun e w' => e = .returned (.bool z) ∧ Below w.heap.size w w' := by
  have HI := Lib.hid hI
  have HJ := Lib.hid hJ
  have HZ := Lib.hid hz
  have HB0 := Lib.hid (Below.refl w.heap.size w)
  by_cases hk : n = k
  · subst hk
    have r1 := hI.room
    have r2 := hJ.room
    clear hI hJ hz
    go_enter Try.func107, Try.ntmps107
    go_wp2
    go_loopw [5, 13] (fun v i wr => ∃ j : Nat, j ≤ n ∧ i = .int .i64 j ∧ Hid (l.take j = m.take j) ∧ Hid (Below w.heap.size w wr)) (fun _ i _ => n - (intOf i).toNat)
    case atStart => exact ⟨0, by omega, rfl, Lib.hid rfl, HB0⟩
    case round =>
      obtain ⟨j, hj, rfl, hE, hB⟩ := hrel
      clear HB0
      by_cases hlj : j < n
      · obtain ⟨b1, o1, rfl⟩ := HI.out.block (by omega)
        obtain ⟨b2, o2, rfl⟩ := HJ.out.block (by omega)
        obtain ⟨c0, c1, c2⟩ := (HI.out.below hB.out).cell hlj
        obtain ⟨d0, d1, d2⟩ := (HJ.out.below hB.out).cell hlj
        have ilj : (j : Int) < (n : Int) := by omega
        have hdj : decide ((j : Int) < (n : Int)) = true := decide_eq_true ilj
        have j0 : (0 : Int) ≤ (j : Int) := by omega
        have HL1 := HI.out.len
        have HL2 := HJ.out.len
        obtain ⟨x, hx⟩ : ∃ x, x = l.getD j en0 := ⟨_, rfl⟩
        obtain ⟨y, hy⟩ : ∃ y, y = m.getD j en0 := ⟨_, rfl⟩
        have HS := Lib.hid (fun e : x = y => takeE_step hE.out (by omega) (by omega) (by rw [← hx, ← hy]; exact e))
        have HD := Lib.hid (fun e : x ≠ y => differE (l := l) (m := m) (j := j) (by rw [← hx, ← hy]; exact e))
        rw [← hx] at c0 c1 c2
        rw [← hy] at d0 d1 d2
        have HQ := eqE_is x y
        have hne := fun W => en_neq x y W
        obtain ⟨x0, x1, x2⟩ := x
        obtain ⟨y0, y1, y2⟩ := y
        clear hx hy HL1 HL2
        by_cases e : (⟨x0, x1, x2⟩ : En) = ⟨y0, y1, y2⟩
        · have HS := Lib.hid (HS.out e)
          rw [HQ, decide_eq_true e] at hne
          simp only [Bool.not_true] at hne
          clear e HQ HD
          go_wp2
          go_quiet (fail)
          go_wp2
          go_roundw
          case rel => exact ⟨j + 1, by omega, by go_num, HS, Lib.hid (bl_dn hB.out _)⟩
          case measure => simp [intOf]; omega
        · have hzf : z = false := by
            cases hzz : z with
            | false => rfl
            | true => exact absurd (HZ.out.1 hzz) (HD.out e)
          rw [HQ, decide_eq_false e] at hne
          simp only [Bool.not_false] at hne
          have HZF := Lib.hid hzf
          clear e hzf HQ HS
          go_wp2
          go_quiet (fail)
          go_wp2
          go_ret
          exact ⟨congrArg (fun z => Ending.returned (Value.bool z)) HZF.out.symm, bl_dn hB.out _⟩
      · have hzt : z = true := HZ.out.2 (takeE_end hE.out HI.out.len HJ.out.len hlj)
        have HZT := Lib.hid hzt
        have ilj : ¬ ((j : Int) < (n : Int)) := by omega
        clear hzt
        go_wp2
        go_ret
        exact ⟨congrArg (fun z => Ending.returned (Value.bool z)) HZT.out.symm, hB.out⟩
  · have hzf : z = false := by
      cases hzz : z with
      | false => rfl
      | true => exact absurd (by rw [← hI.len, ← hJ.len, hz.1 hzz]) hk
    have hne : ((n : Int) != (k : Int)) = true := by simp; omega
    have HZF := Lib.hid hzf
    clear hzf hI hJ hz hk HZ
    go_enter Try.func107, Try.ntmps107
    go_wp2
    go_ret
    exact ⟨congrArg (fun z => Ending.returned (Value.bool z)) HZF.out.symm, HB0.out⟩
abbrev tySv : TypeId := 40
abbrev svV (v p q : Int) (u : Value) : Value := .agg #[.int .u32 v, .int .i64 p, .int .i64 q, u]
set_option maxRecDepth 100000 in
set_option maxHeartbeats 1000000 in
theorem sameS_c (v p q v2 p2 q2 : Int) (l m : List En) (a b : Option Addr) (n c k d : Nat) (w : World) (hI : InE w a n c l) (hJ : InE w b k d m) (hn : n ≤ 4611686018427387904) (z : Bool) (hz : z = true ↔ (v = v2 ∧ p = p2 ∧ q = q2 ∧ l = m)) :
    Calls Try.prog 75 #[svV v p q (.slice a n c), svV v2 p2 q2 (.slice b k d)] w fun e w' => e = .returned (.bool z) ∧ Below w.heap.size w w' := by
  have HZ := Lib.hid hz
  by_cases h1 : v = v2
  · subst h1
    by_cases h2 : p = p2
    · subst h2
      by_cases h3 : q = q2
      · subst h3
        have C := Lib.hid (fun (W : World) (hb : Below w.heap.size w W) => endsEq_c l m a b n c k d W (hI.below hb) (hJ.below hb) hn z (by rw [HZ.out]; exact ⟨fun h => h.2.2.2, fun h => ⟨rfl, rfl, rfl, h⟩⟩))
        have HB := Lib.hid (bl_al (bl_al (Below.refl _ w) (.cells #[.int .u32 v, .int .i64 p, .int .i64 q, .slice a n c] tySv)) (.cells #[.int .u32 v, .int .i64 p, .int .i64 q, .slice b k d] tySv))
        clear hI hJ hz
        go_enter Try.func75, Try.ntmps75
        go_wp2_with fail
        refine (C.out _ HB.out).mono ?_
        rintro e w1 ⟨rfl, hb⟩
        have HB2 := Lib.hid (bl_tr HB.out hb)
        clear hb
        go_wp2
        go_ret
        exact ⟨rfl, HB2.out⟩
      · have e3 : (q == q2) = false := by simp [h3]
        have hzf : z = false := by
          cases hzz : z with
          | false => rfl
          | true => exact absurd (hz.1 hzz).2.2.1 h3
        have HZF := Lib.hid hzf
        clear hI hJ hz hzf h3 HZ
        go_enter Try.func75, Try.ntmps75
        go_wp2
        go_ret
        exact ⟨congrArg (fun z => Ending.returned (Value.bool z)) HZF.out.symm, bl_al (bl_al (Below.refl _ w) _) _⟩
    · have e3 : (p == p2) = false := by simp [h2]
      have hzf : z = false := by
        cases hzz : z with
        | false => rfl
        | true => exact absurd (hz.1 hzz).2.1 h2
      have HZF := Lib.hid hzf
      clear hI hJ hz hzf h2 HZ
      go_enter Try.func75, Try.ntmps75
      go_wp2
      go_ret
      exact ⟨congrArg (fun z => Ending.returned (Value.bool z)) HZF.out.symm, bl_al (bl_al (Below.refl _ w) _) _⟩
  · have e3 : (v == v2) = false := by simp [h1]
    have hzf : z = false := by
      cases hzz : z with
      | false => rfl
      | true => exact absurd (hz.1 hzz).1 h1
    have HZF := Lib.hid hzf
    clear hI hJ hz hzf h1 HZ
    go_enter Try.func75, Try.ntmps75
    go_wp2
    go_ret
    exact ⟨congrArg (fun z => Ending.returned (Value.bool z)) HZF.out.symm, bl_al (bl_al (Below.refl _ w) _) _⟩
theorem cAt_cells (w : World) (v p q : Int) (u : Value) : ∀ W : World, Below (w.alloc (.cells #[.int .u32 v, .int .i64 p, .int .i64 q, u] tySv)).heap.size (w.alloc (.cells #[.int .u32 v, .int .i64 p, .int .i64 q, u] tySv)) W → W.cell? ⟨w.heap.size, 0, none⟩ = some (.int .u32 v) ∧ W.cell? ⟨w.heap.size, 1, none⟩ = some (.int .i64 p) ∧ W.cell? ⟨w.heap.size, 2, none⟩ = some (.int .i64 q) ∧ W.cell? ⟨w.heap.size, 3, none⟩ = some u := by
  intro W hb
  have g : ∀ (i : Nat) (x : Value), (#[.int .u32 v, .int .i64 p, .int .i64 q, u] : Array Value)[i]? = some x → W.cell? ⟨w.heap.size, i, none⟩ = some x := fun i x hx => by
    have h1 : (w.alloc (.cells #[.int .u32 v, .int .i64 p, .int .i64 q, u] tySv)).cell? ⟨w.heap.size, i, none⟩ = some x := by rw [World.cell?_alloc_mark]; exact hx
    exact (hb.cell (p := ⟨w.heap.size, i, none⟩) (block_lt_of_cell h1)).trans h1
  exact ⟨g 0 _ rfl, g 1 _ rfl, g 2 _ rfl, g 3 _ rfl⟩
theorem inE_nil (w : World) : InE w none 0 0 [] := ⟨rfl, Nat.le_refl _, fun _ => rfl, .inl rfl, fun e he => by cases he⟩
theorem nil_eql (w : World) : (binOp .eql 28 .nilIface .nilIface).run Try.prog w = .ok (.bool true) w := by kernel_rfl
theorem nine_eql (w : World) : (binOp .eql 28 (errnoF 9) .nilIface).run Try.prog w = .ok (.bool false) w := by kernel_rfl
set_option maxRecDepth 100000 in
set_option maxHeartbeats 1000000 in
theorem service_c (v p q : Int) (l : List En) (a : Option Addr) (n c : Nat) (w : World) (hI : InE w a n c l) (hv : u32c v) (hn : n ≤ 4611686018427387904) :
    Calls Try.prog 103 #[svV v p q (.slice a n c)] w fun e w' => e = .returned (.bool (decide (IsVp v ∧ (p = 6 ∨ p = 17) ∧ (1 ≤ q ∧ q ≤ 1023) ∧ OkE l))) ∧ Below w.heap.size w w' := by
  obtain ⟨z, hz⟩ : ∃ z, z = decide (IsVp v ∧ (p = 6 ∨ p = 17) ∧ (1 ≤ q ∧ q ≤ 1023) ∧ OkE l) := ⟨_, rfl⟩
  rw [← hz]
  obtain ⟨bv, hbv⟩ : ∃ bv, bv = decide (IsVp v) := ⟨_, rfl⟩
  have CV := Lib.hid (fun W => vip_c v hv W)
  rw [← hbv] at CV
  have HB := Lib.hid (bl_al (Below.refl _ w) (.cells #[.int .u32 v, .int .i64 p, .int .i64 q, .slice a n c] tySv))
  obtain ⟨zo, hzo⟩ : ∃ zo : Int, zo = if OkE l then 0 else 9 := ⟨_, rfl⟩
  have CC := Lib.hid (fun (W : World) (hb : Below w.heap.size w W) => rcheck_c l a n c W (hI.below hb) hn zo ⟨fun h => by rw [hzo, if_pos h], fun h => by rw [hzo, if_neg h]⟩)
  have HW := Lib.hid hz
  have HBV := Lib.hid hbv
  have HZO := Lib.hid hzo
  have no : ¬ (IsVp v ∧ (p = 6 ∨ p = 17) ∧ (1 ≤ q ∧ q ≤ 1023)) → Hid (z = false) := fun h => Lib.hid (by rw [HW.out]; exact decide_eq_false (fun h2 => h ⟨h2.1, h2.2.1, h2.2.2.1⟩))
  have qn := nil_eql
  have q9 := nine_eql
  clear hI hz hbv hzo
  have fin : Hid (z = false) → ∀ w', Below w.heap.size w w' → (Ending.returned (.bool false) = Ending.returned (.bool z) ∧ Below w.heap.size w w') := fun h w' hb => ⟨by rw [h.out], hb⟩
  cases bv with
  | false =>
    have N := no (fun h => by have := HBV.out; rw [decide_eq_true h.1] at this; cases this)
    clear no
    go_enter Try.func103, Try.ntmps103
    go_wp2_with fail
    refine (CV.out _).mono ?_
    rintro e w1 ⟨rfl, hb⟩
    have HB2 := Lib.hid (bl_tr HB.out hb)
    clear hb
    go_wp2
    go_ret
    exact fin N _ HB2.out
  | true =>
    have hvp : IsVp v := of_decide_eq_true HBV.out.symm
    have HL := Lib.hid (cAt_cells w v p q (.slice a n c))
    go_enter Try.func103, Try.ntmps103
    go_wp2_with fail
    refine (CV.out _).mono ?_
    rintro e w1 ⟨rfl, hb⟩
    obtain ⟨f0, f1, f2, f3⟩ := HL.out w1 hb
    have HB2 := Lib.hid (bl_tr HB.out hb)
    have HVP := Lib.hid hvp
    clear hb hvp
    by_cases hp : p = 6 ∨ p = 17
    · by_cases hq0 : 1 ≤ q
      · by_cases hq1 : q ≤ 1023
        · have HZ2 : Hid (z = decide (OkE l)) := Lib.hid (by rw [HW.out]; exact decide_eq_decide.2 ⟨fun h => h.2.2.2, fun h => ⟨HVP.out, hp, ⟨hq0, hq1⟩, h⟩⟩)
          have CC2 := Lib.hid (CC.out _ HB2.out)
          clear no CC
          rcases hp with rfl | rfl
          · go_wp2_with fail
            refine CC2.out.mono ?_
            rintro e w2 ⟨rfl, hb⟩
            have HB3 := Lib.hid (bl_tr HB2.out hb)
            clear hb
            by_cases ho : OkE l
            · have e0 : zo = 0 := by rw [HZO.out, if_pos ho]
              subst e0
              have E : errF 0 = .nilIface := rfl
              rw [E]
              go_wp2
              go_ret
              exact ⟨by rw [HZ2.out, decide_eq_true ho]; rfl, HB3.out⟩
            · have e0 : zo = 9 := by rw [HZO.out, if_neg ho]
              subst e0
              have E : errF 9 = errnoF 9 := rfl
              rw [E]
              go_wp2
              go_ret
              exact ⟨by rw [HZ2.out, decide_eq_false ho]; rfl, HB3.out⟩
          · go_wp2_with fail
            refine CC2.out.mono ?_
            rintro e w2 ⟨rfl, hb⟩
            have HB3 := Lib.hid (bl_tr HB2.out hb)
            clear hb
            by_cases ho : OkE l
            · have e0 : zo = 0 := by rw [HZO.out, if_pos ho]
              subst e0
              have E : errF 0 = .nilIface := rfl
              rw [E]
              go_wp2
              go_ret
              exact ⟨by rw [HZ2.out, decide_eq_true ho]; rfl, HB3.out⟩
            · have e0 : zo = 9 := by rw [HZO.out, if_neg ho]
              subst e0
              have E : errF 9 = errnoF 9 := rfl
              rw [E]
              go_wp2
              go_ret
              exact ⟨by rw [HZ2.out, decide_eq_false ho]; rfl, HB3.out⟩
        · have N := no (fun h => hq1 h.2.2.2)
          have g1 : 1023 < q := by omega
          clear no
          rcases hp with rfl | rfl
          · go_wp2
            go_ret
            exact fin N _ HB2.out
          · go_wp2
            go_ret
            exact fin N _ HB2.out
      · have N := no (fun h => hq0 h.2.2.1)
        have g1 : q < 1 := by omega
        clear no
        rcases hp with rfl | rfl
        · go_wp2
          go_ret
          exact fin N _ HB2.out
        · go_wp2
          go_ret
          exact fin N _ HB2.out
    · have N := no (fun h => hp h.2.1)
      have g1 : (p == 6) = false := by simp; omega
      have g2 : (p == 17) = false := by simp; omega
      clear no hp
      go_wp2
      go_ret
      exact fin N _ HB2.out
end Go.Proofs.Ytnhnpfhfcbmmlaa
