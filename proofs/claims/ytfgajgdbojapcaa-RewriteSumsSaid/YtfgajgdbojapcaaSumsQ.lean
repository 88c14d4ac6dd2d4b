/- Plain facts for RewriteSums: a packet's sums changed by the words that changed; where its words lie. No conditions but those stated. -/
import Derived.Test.YtfgajgdbojapcaaRwC
import Derived.Test.YtfgajgdbojapcaaAlvR
namespace Go.Proofs.Ytfgajgdbojapcaa
open Go Go.RowKit
set_option linter.unusedVariables false
set_option linter.unusedSimpArgs false

theorem sums_reD {p : Pk} (h : Ok p) (t : Typed p) {A P : Int} (hA : 0 ≤ A ∧ A < 4294967296) (hP : portOk P) :
    up (up (ipSum p) (p.dst / 65536, A / 65536)) (p.dst % 65536, A % 65536) = ipSum (reD p A P) ∧
    ∃ U, U = up (up (up (segSum p) (p.dst / 65536, A / 65536)) (p.dst % 65536, A % 65536)) (p.dp, P) ∧ w16 U ∧ (if p.proto = 17 ∧ U = 0 then 65535 else U) = segSum (reD p A P) := by
  have h' : Ok (reD p A P) := reD_ok h hP
  have t' : Typed (reD p A P) := reD_typed t hA
  have s1 := w16_hi t.src
  have s2 := w16_lo p.src
  have d1 := w16_hi t.dst
  have d2 := w16_lo p.dst
  have d1' : w16 (A / 65536) := w16_hi hA
  have d2' := w16_lo A
  have sp1 : w16 p.sp := by have := h.sp; unfold w16; omega
  have dp1 : w16 p.dp := by have := h.dp; unfold w16; omega
  have dp1' : w16 P := by have := hP; unfold portOk at this; unfold w16; omega
  have c0 := ipSum_w16 p
  have u0 := segSum_w16 t.data
  obtain ⟨c1, e1, b1⟩ := up_step c0 d1 d1'
  obtain ⟨c2, e2, b2⟩ := up_step c1 d2 d2'
  obtain ⟨u1, g1, k1⟩ := up_step u0 d1 d1'
  obtain ⟨u2, g2, k2⟩ := up_step u1 d2 d2'
  obtain ⟨u3, g3, k3⟩ := up_step u2 dp1 dp1'
  have hi1 := ipSum_eq t
  have hi2 : ipSum (reD p A P) = 65535 - car (ws (headA p) + (p.src / 65536 + p.src % 65536 + A / 65536 + A % 65536)) := ipSum_eq t'
  have hr1 := rawSum_eq h t
  have hr2 : rawSum (reD p A P) = 65535 - car (rst p + (p.src / 65536 + p.src % 65536 + A / 65536 + A % 65536 + p.sp + P)) := rawSum_eq h' t'
  have hHp := headA_pos p
  have hRp := rst_pos h t
  unfold w16 at s1 s2 d1 d2 d1' d2' sp1 dp1 dp1'
  obtain ⟨i1, i2, i3⟩ := car_range (s := ws (headA p) + (p.src / 65536 + p.src % 65536 + p.dst / 65536 + p.dst % 65536)) (by omega)
  obtain ⟨j1, j2, j3⟩ := car_range (s := ws (headA p) + (p.src / 65536 + p.src % 65536 + A / 65536 + A % 65536)) (by omega)
  obtain ⟨l1, l2, l3⟩ := car_range (s := rst p + (p.src / 65536 + p.src % 65536 + p.dst / 65536 + p.dst % 65536 + p.sp + p.dp)) (by omega)
  obtain ⟨m1, m2, m3⟩ := car_range (s := rst p + (p.src / 65536 + p.src % 65536 + A / 65536 + A % 65536 + p.sp + P)) (by omega)
  constructor
  · have q1 := b1 (by omega)
    have q2 := b2 q1
    unfold w16 at c2
    clear b1 b2 c1 u1 u2 u3 g1 g2 g3 k1 k2 k3 hr1 hr2 l1 l2 l3 m1 m2 m3 hRp q1
    generalize up (up (ipSum p) (p.dst / 65536, A / 65536)) (p.dst % 65536, A % 65536) = C2 at *
    generalize up (ipSum p) (p.dst / 65536, A / 65536) = C1 at *
    omega
  · refine ⟨_, rfl, u3, ?_⟩
    have hU2 : (up (up (up (segSum p) (p.dst / 65536, A / 65536)) (p.dst % 65536, A % 65536)) (p.dp, P) - segSum p - (p.dst / 65536 + p.dst % 65536 + p.dp) + (A / 65536 + A % 65536 + P)) % 65535 = 0 := by
      clear b1 b2 c1 c2 e1 e2 u1 u2 u3 k1 k2 k3 hr1 hr2 l1 l2 l3 m1 m2 m3 hRp hi1 hi2 i1 i2 i3 j1 j2 j3
      generalize up (up (up (segSum p) (p.dst / 65536, A / 65536)) (p.dst % 65536, A % 65536)) (p.dp, P) = U3 at *
      generalize up (up (segSum p) (p.dst / 65536, A / 65536)) (p.dst % 65536, A % 65536) = U2 at *
      generalize up (segSum p) (p.dst / 65536, A / 65536) = U1 at *
      omega
    have hU3 : segSum p ≤ 65534 → up (up (up (segSum p) (p.dst / 65536, A / 65536)) (p.dst % 65536, A % 65536)) (p.dp, P) ≤ 65534 := fun q => k3 (k2 (k1 q))
    have hU1 := u3
    clear b1 b2 c1 c2 e1 e2 u1 u2 u3 g1 g2 g3 k1 k2 k3 hi1 hi2 i1 i2 i3 j1 j2 j3
    generalize up (up (up (segSum p) (p.dst / 65536, A / 65536)) (p.dst % 65536, A % 65536)) (p.dp, P) = U at *
    have hs' : segSum (reD p A P) = if p.proto = 17 ∧ rawSum (reD p A P) = 0 then 65535 else rawSum (reD p A P) := rfl
    have hs : segSum p = if p.proto = 17 ∧ rawSum p = 0 then 65535 else rawSum p := rfl
    unfold w16 at hU1
    by_cases hp : p.proto = 17
    · by_cases h0 : U = 0
      · rw [if_pos ⟨hp, h0⟩, hs']
        by_cases hr : rawSum (reD p A P) = 0
        · rw [if_pos ⟨hp, hr⟩]
        · rw [if_neg (fun e => hr e.2)]
          by_cases hq : rawSum p = 0
          · rw [if_pos ⟨hp, hq⟩] at hs
            omega
          · rw [if_neg (fun e => hq e.2)] at hs
            omega
      · rw [if_neg (fun e => h0 e.2), hs']
        by_cases hr : rawSum (reD p A P) = 0
        · rw [if_pos ⟨hp, hr⟩]
          by_cases hq : rawSum p = 0
          · rw [if_pos ⟨hp, hq⟩] at hs
            omega
          · rw [if_neg (fun e => hq e.2)] at hs
            omega
        · rw [if_neg (fun e => hr e.2)]
          by_cases hq : rawSum p = 0
          · rw [if_pos ⟨hp, hq⟩] at hs
            omega
          · rw [if_neg (fun e => hq e.2)] at hs
            omega
    · rw [if_neg (fun e => hp e.1)]
      rw [if_neg (fun e => hp e.1)] at hs
      rw [hs', if_neg (fun e => hp e.1)]
      have := hU3 (by omega)
      omega
/-- Where a packet's words lie. -/
theorem words_of {p : Pk} (h : Ok p) (t : Typed p) : wordAt (bts p) 5 = ipSum p ∧ wordAt (bts p) 8 = p.dst / 65536 ∧ wordAt (bts p) 9 = p.dst % 65536 ∧ wordAt (bts p) 11 = p.dp ∧ wordAt (bts p) (12 + mid p.proto) = segSum p := by
  have hA := headA_len p
  have hM := midM_len p
  have dp1 : w16 p.dp := by have := h.dp; unfold w16; omega
  rw [bts_form t]
  exact ⟨get5 _ _ _ _ _ _ _ _ _ _ _ hA (ipSum_w16 p), get8 _ _ _ _ _ _ _ _ _ _ _ hA (w16_hi t.dst), get9 _ _ _ _ _ _ _ _ _ _ _ hA (w16_lo _), get11 _ _ _ _ _ _ _ _ _ _ _ hA dp1, getJ _ _ _ _ _ _ _ _ _ _ _ _ hA hM (segSum_w16 t.data)⟩
end Go.Proofs.Ytfgajgdbojapcaa
