/- Plain facts for layer 4: rewriting by parts is rewriting. No conditions but those stated. -/
import Derived.Test.YtfbmeoiaedlgoaaRwP
namespace Go.Proofs.Ytfbmeoiaedlgoaa
open Go Go.RowKit
set_option linter.unusedVariables false
set_option linter.unusedSimpArgs false

/-- The packet with another flow's sides. -/
def Pk.re (p f : Pk) : Pk := { p with src := f.src, sp := f.sp, dst := f.dst, dp := f.dp }
/-- The word that a packet's inner sum is, behind the first header's and the ports. -/
def mid (proto : Int) : Nat := if proto = 17 then 1 else 6
def headA (p : Pk) : List Int := [69, p.tos % 256] ++ (b2 (20 + (segLen p : Int)) ++ (b2 p.id ++ ([64, 0] ++ [p.ttl % 256, p.proto % 256])))
def midM (p : Pk) : List Int := if p.proto = 17 then b2 (8 + p.data.length) else b4 p.seq ++ (b4 p.ack ++ ([80, p.flags % 256] ++ b2 p.win))
def tailT (p : Pk) : List Int := if p.proto = 17 then p.data else [0, 0] ++ p.data
theorem headA_len (p : Pk) : (headA p).length = 10 := rfl
theorem midM_len (p : Pk) : (midM p).length = 2 * mid p.proto := by
  unfold midM mid
  split <;> rfl
theorem b4_b2 {n : Int} (h : 0 ≤ n ∧ n < 4294967296) : b4 n = b2 (n / 65536) ++ b2 (n % 65536) := by
  unfold b2 b4
  show [_, _, _, _] = [_, _, _, _]
  rw [show n / 65536 / 256 % 256 = n / 16777216 % 256 by omega, show n % 65536 / 256 % 256 = n / 256 % 256 by omega, show n % 65536 % 256 = n % 256 by omega]
theorem hdr_form {p : Pk} (t : Typed p) (c : Int) : hdr p (segLen p) c = headA p ++ (b2 c ++ (b2 (p.src / 65536) ++ (b2 (p.src % 65536) ++ (b2 (p.dst / 65536) ++ b2 (p.dst % 65536))))) := by
  unfold hdr headA
  rw [b4_b2 t.src, b4_b2 t.dst]
  simp [List.append_assoc]
theorem seg_form (p : Pk) (c : Int) : seg p c = b2 p.sp ++ (b2 p.dp ++ (midM p ++ (b2 c ++ tailT p))) := by
  unfold seg segU segT midM tailT
  split <;> simp [List.append_assoc]
theorem bts_form {p : Pk} (t : Typed p) : bts p = form (headA p) (ipSum p) (p.src / 65536) (p.src % 65536) (p.dst / 65536) (p.dst % 65536) p.sp p.dp (midM p) (segSum p) (tailT p) := by
  unfold bts form
  rw [hdr_form t, seg_form]
  simp [List.append_assoc]
theorem ws_b2 {x : Int} (h : w16 x) (B : List Int) : ws (b2 x ++ B) = x + ws B := by
  unfold w16 at h
  show 256 * (x / 256 % 256) + x % 256 + ws B = _
  omega
theorem ws_b2' {x : Int} (h : w16 x) : ws (b2 x) = x := by
  have := ws_b2 h []
  rw [List.append_nil] at this
  rw [this]
  show x + 0 = x
  omega
theorem w16_hi {n : Int} (h : 0 ≤ n ∧ n < 4294967296) : w16 (n / 65536) := by unfold w16; omega
theorem w16_lo (n : Int) : w16 (n % 65536) := by unfold w16; omega
theorem w16_0 : w16 0 := by unfold w16; omega
/-- The first header's sum, without its own word. -/
theorem ipSum_eq {p : Pk} (t : Typed p) : ipSum p = 65535 - car (ws (headA p) + (p.src / 65536 + p.src % 65536 + p.dst / 65536 + p.dst % 65536)) := by
  unfold ipSum
  rw [hdr_form t, ws_app_even _ _ (by rw [headA_len]), ws_b2 w16_0, ws_b2 (w16_hi t.src), ws_b2 (w16_lo _), ws_b2 (w16_hi t.dst), ws_b2' (w16_lo _)]
  congr 2
  omega
/-- What is summed behind it, without what a rewriting changes. -/
def rst (p : Pk) : Int := ws ([0, p.proto % 256] ++ b2 (segLen p)) + ws (midM p ++ (b2 0 ++ tailT p))
theorem rawSum_eq {p : Pk} (h : Ok p) (t : Typed p) : rawSum p = 65535 - car (rst p + (p.src / 65536 + p.src % 65536 + p.dst / 65536 + p.dst % 65536 + p.sp + p.dp)) := by
  unfold rawSum pre rst
  have e1 := h.sp
  have e2 := h.dp
  rw [b4_b2 t.src, b4_b2 t.dst, seg_form]
  simp only [List.append_assoc]
  rw [ws_b2 (w16_hi t.src), ws_b2 (w16_lo _), ws_b2 (w16_hi t.dst), ws_b2 (w16_lo _), ← List.append_assoc, ws_app_even _ _ (by simp [b2]), ws_b2 (by unfold w16; omega), ws_b2 (by unfold w16; omega)]
  congr 2
  omega
theorem ws_nonneg {l : List Int} (h : fit l) : 0 ≤ ws l := (ws_fits l h).1
theorem fit_midM (p : Pk) : fit (midM p) := by
  unfold midM
  split
  · exact fit_b2 _
  · exact fit_app (fit_b4 _) (fit_app (fit_b4 _) (fit_app (fit_cons (by omega) (fit_cons (by omega) fit_nil)) (fit_b2 _)))
theorem fit_tailT {p : Pk} (h : fit p.data) : fit (tailT p) := by
  unfold tailT
  split
  · exact h
  · exact fit_app (fit_cons (by omega) (fit_cons (by omega) fit_nil)) h
theorem rst_pos {p : Pk} (h : Ok p) (t : Typed p) : 0 < rst p := by
  unfold rst
  have h1 := ws_nonneg (fit_app (fit_midM p) (fit_app (fit_b2 0) (fit_tailT t.data)))
  have h2 : ws ([0, p.proto % 256] ++ b2 (segLen p)) = p.proto % 256 + ws (b2 (segLen p)) := by
    show 256 * 0 + p.proto % 256 + ws (b2 (segLen p)) = _
    omega
  have h3 := ws_nonneg (fit_b2 (segLen p))
  have h4 := h.proto
  omega
theorem headA_pos (p : Pk) : 0 < ws (headA p) := by
  unfold headA
  have h3 := ws_nonneg (l := b2 (20 + (segLen p : Int)) ++ (b2 p.id ++ ([64, 0] ++ [p.ttl % 256, p.proto % 256]))) (fit_app (fit_b2 _) (fit_app (fit_b2 _) (fit_app (fit_cons (by omega) (fit_cons (by omega) fit_nil)) (fit_cons (by omega) (fit_cons (by omega) fit_nil)))))
  obtain ⟨X, hX⟩ : ∃ X, X = b2 (20 + (segLen p : Int)) ++ (b2 p.id ++ ([64, 0] ++ [p.ttl % 256, p.proto % 256])) := ⟨_, rfl⟩
  rw [← hX] at h3 ⊢
  show 0 < 256 * 69 + p.tos % 256 + ws X
  omega

/-- All six words changed, and the sums by them. -/
def rew (l : List Int) (f : Pk) (J : Nat) : List Int :=
  chg (chg (chg (chg (chg (chg l 6 (f.src / 65536) [5, J]) 7 (f.src % 65536) [5, J]) 8 (f.dst / 65536) [5, J]) 9 (f.dst % 65536) [5, J]) 10 f.sp [J]) 11 f.dp [J]
/-- In UDP a sum of 0 says that there is none. -/
def fin (l : List Int) (proto : Int) (J : Nat) : List Int := if proto = 17 ∧ wordAt l J = 0 then setW l J 65535 else l
theorem re_parts (p f : Pk) : headA (p.re f) = headA p ∧ midM (p.re f) = midM p ∧ tailT (p.re f) = tailT p ∧ rst (p.re f) = rst p := ⟨rfl, rfl, rfl, rfl⟩
theorem car_range {s : Int} (h : 0 < s) : 1 ≤ car s ∧ car s ≤ 65535 ∧ car s % 65535 = s % 65535 := by
  unfold car
  rw [if_neg (by omega)]
  omega
theorem rew_is {p f : Pk} (h : Ok p) (t : Typed p) (h' : Ok (p.re f)) (t' : Typed (p.re f)) : fin (rew (bts p) f (12 + mid p.proto)) p.proto (12 + mid p.proto) = bts (p.re f) := by
  have hA := headA_len p
  have hM := midM_len p
  have s1 := w16_hi t.src
  have s2 := w16_lo p.src
  have d1 := w16_hi t.dst
  have d2 := w16_lo p.dst
  have s1' : w16 (f.src / 65536) := w16_hi t'.src
  have s2' := w16_lo f.src
  have d1' : w16 (f.dst / 65536) := w16_hi t'.dst
  have d2' := w16_lo f.dst
  have sp1 : w16 p.sp := by have := h.sp; unfold w16; omega
  have dp1 : w16 p.dp := by have := h.dp; unfold w16; omega
  have sp1' : w16 f.sp := by have : 0 ≤ f.sp ∧ f.sp ≤ 65535 := h'.sp; unfold w16; omega
  have dp1' : w16 f.dp := by have : 0 ≤ f.dp ∧ f.dp ≤ 65535 := h'.dp; unfold w16; omega
  have c0 := ipSum_w16 p
  have u0 := segSum_w16 t.data
  obtain ⟨c1, e1, b1⟩ := up_step c0 s1 s1'
  obtain ⟨c2, e2, b2⟩ := up_step c1 s2 s2'
  obtain ⟨c3, e3, b3⟩ := up_step c2 d1 d1'
  obtain ⟨c4, e4, b4⟩ := up_step c3 d2 d2'
  obtain ⟨u1, g1, k1⟩ := up_step u0 s1 s1'
  obtain ⟨u2, g2, k2⟩ := up_step u1 s2 s2'
  obtain ⟨u3, g3, k3⟩ := up_step u2 d1 d1'
  obtain ⟨u4, g4, k4⟩ := up_step u3 d2 d2'
  obtain ⟨u5, g5, k5⟩ := up_step u4 sp1 sp1'
  obtain ⟨u6, g6, k6⟩ := up_step u5 dp1 dp1'
  have eq : rew (bts p) f (12 + mid p.proto) = form (headA p) (up (up (up (up (ipSum p) (p.src / 65536, f.src / 65536)) (p.src % 65536, f.src % 65536)) (p.dst / 65536, f.dst / 65536)) (p.dst % 65536, f.dst % 65536)) (f.src / 65536) (f.src % 65536) (f.dst / 65536) (f.dst % 65536) f.sp f.dp (midM p) (up (up (up (up (up (up (segSum p) (p.src / 65536, f.src / 65536)) (p.src % 65536, f.src % 65536)) (p.dst / 65536, f.dst / 65536)) (p.dst % 65536, f.dst % 65536)) (p.sp, f.sp)) (p.dp, f.dp)) (tailT p) := by
    unfold rew
    rw [bts_form t, chg6 _ _ _ _ _ _ _ _ _ _ _ _ _ hA hM c0 u0 s1 s1', chg7 _ _ _ _ _ _ _ _ _ _ _ _ _ hA hM c1 u1 s2 s2', chg8 _ _ _ _ _ _ _ _ _ _ _ _ _ hA hM c2 u2 d1 d1', chg9 _ _ _ _ _ _ _ _ _ _ _ _ _ hA hM c3 u3 d2 d2', chg10 _ _ _ _ _ _ _ _ _ _ _ _ _ hA hM u4 sp1 sp1', chg11 _ _ _ _ _ _ _ _ _ _ _ _ _ hA hM u5 dp1 dp1']
  rw [eq]
  clear eq
  -- the sums
  have hi1 := ipSum_eq t
  have hi2 : ipSum (p.re f) = 65535 - car (ws (headA p) + (f.src / 65536 + f.src % 65536 + f.dst / 65536 + f.dst % 65536)) := ipSum_eq t'
  have hr1 := rawSum_eq h t
  have hr2 : rawSum (p.re f) = 65535 - car (rst p + (f.src / 65536 + f.src % 65536 + f.dst / 65536 + f.dst % 65536 + f.sp + f.dp)) := rawSum_eq h' t'
  have hHp := headA_pos p
  have hRp := rst_pos h t
  unfold w16 at s1 s2 d1 d2 s1' s2' d1' d2' sp1 dp1 sp1' dp1'
  obtain ⟨i1, i2, i3⟩ := car_range (s := ws (headA p) + (p.src / 65536 + p.src % 65536 + p.dst / 65536 + p.dst % 65536)) (by omega)
  obtain ⟨j1, j2, j3⟩ := car_range (s := ws (headA p) + (f.src / 65536 + f.src % 65536 + f.dst / 65536 + f.dst % 65536)) (by omega)
  obtain ⟨l1, l2, l3⟩ := car_range (s := rst p + (p.src / 65536 + p.src % 65536 + p.dst / 65536 + p.dst % 65536 + p.sp + p.dp)) (by omega)
  obtain ⟨m1, m2, m3⟩ := car_range (s := rst p + (f.src / 65536 + f.src % 65536 + f.dst / 65536 + f.dst % 65536 + f.sp + f.dp)) (by omega)
  have hC : (up (up (up (up (ipSum p) (p.src / 65536, f.src / 65536)) (p.src % 65536, f.src % 65536)) (p.dst / 65536, f.dst / 65536)) (p.dst % 65536, f.dst % 65536)) = ipSum (p.re f) := by
    have q1 := b1 (by omega)
    have q2 := b2 q1
    have q3 := b3 q2
    have q4 := b4 q3
    unfold w16 at c4
    clear b1 b2 b3 b4 c1 c2 c3 u1 u2 u3 u4 u5 u6 g1 g2 g3 g4 g5 g6 k1 k2 k3 k4 k5 k6 hr1 hr2 l1 l2 l3 m1 m2 m3 hRp q1 q2 q3
    generalize up (up (up (up (ipSum p) (p.src / 65536, f.src / 65536)) (p.src % 65536, f.src % 65536)) (p.dst / 65536, f.dst / 65536)) (p.dst % 65536, f.dst % 65536) = C4 at *
    generalize up (up (up (ipSum p) (p.src / 65536, f.src / 65536)) (p.src % 65536, f.src % 65536)) (p.dst / 65536, f.dst / 65536) = C3 at *
    generalize up (up (ipSum p) (p.src / 65536, f.src / 65536)) (p.src % 65536, f.src % 65536) = C2 at *
    generalize up (ipSum p) (p.src / 65536, f.src / 65536) = C1 at *
    omega
  have hU : ∃ U, U = (up (up (up (up (up (up (segSum p) (p.src / 65536, f.src / 65536)) (p.src % 65536, f.src % 65536)) (p.dst / 65536, f.dst / 65536)) (p.dst % 65536, f.dst % 65536)) (p.sp, f.sp)) (p.dp, f.dp)) ∧ w16 U ∧ (U - segSum p - (p.src / 65536 + p.src % 65536 + p.dst / 65536 + p.dst % 65536 + p.sp + p.dp) + (f.src / 65536 + f.src % 65536 + f.dst / 65536 + f.dst % 65536 + f.sp + f.dp)) % 65535 = 0 ∧ (segSum p ≤ 65534 → U ≤ 65534) := by
    refine ⟨_, rfl, u6, ?_, fun q0 => k6 (k5 (k4 (k3 (k2 (k1 q0)))))⟩
    clear b1 b2 b3 b4 c1 c2 c3 c4 e1 e2 e3 e4 u1 u2 u3 u4 u5 u6 k1 k2 k3 k4 k5 k6 hr1 hr2 l1 l2 l3 m1 m2 m3 hRp hi1 hi2 i1 i2 i3 j1 j2 j3 hC
    generalize up (up (up (up (up (up (segSum p) (p.src / 65536, f.src / 65536)) (p.src % 65536, f.src % 65536)) (p.dst / 65536, f.dst / 65536)) (p.dst % 65536, f.dst % 65536)) (p.sp, f.sp)) (p.dp, f.dp) = U6 at *
    generalize up (up (up (up (up (segSum p) (p.src / 65536, f.src / 65536)) (p.src % 65536, f.src % 65536)) (p.dst / 65536, f.dst / 65536)) (p.dst % 65536, f.dst % 65536)) (p.sp, f.sp) = U5 at *
    generalize up (up (up (up (segSum p) (p.src / 65536, f.src / 65536)) (p.src % 65536, f.src % 65536)) (p.dst / 65536, f.dst / 65536)) (p.dst % 65536, f.dst % 65536) = U4 at *
    generalize up (up (up (segSum p) (p.src / 65536, f.src / 65536)) (p.src % 65536, f.src % 65536)) (p.dst / 65536, f.dst / 65536) = U3 at *
    generalize up (up (segSum p) (p.src / 65536, f.src / 65536)) (p.src % 65536, f.src % 65536) = U2 at *
    generalize up (segSum p) (p.src / 65536, f.src / 65536) = U1 at *
    omega
  obtain ⟨U, hUe, hU1, hU2, hU3⟩ := hU
  rw [hC, ← hUe]
  have hb : bts (p.re f) = form (headA p) (ipSum (p.re f)) (f.src / 65536) (f.src % 65536) (f.dst / 65536) (f.dst % 65536) f.sp f.dp (midM p) (segSum (p.re f)) (tailT p) := bts_form t'
  rw [hb]
  have hs' : segSum (p.re f) = if p.proto = 17 ∧ rawSum (p.re f) = 0 then 65535 else rawSum (p.re f) := rfl
  have hs : segSum p = if p.proto = 17 ∧ rawSum p = 0 then 65535 else rawSum p := rfl
  unfold fin
  rw [getJ _ _ _ _ _ _ _ _ _ _ _ _ hA hM hU1]
  unfold w16 at hU1
  clear b1 b2 b3 b4 c1 c2 c3 c4 e1 e2 e3 e4 u1 u2 u3 u4 u5 u6 k1 k2 k3 k4 k5 k6 g1 g2 g3 g4 g5 g6 hi1 hi2 i1 i2 i3 j1 j2 j3 hC hb hUe
  by_cases hp : p.proto = 17
  · by_cases h0 : U = 0
    · rw [if_pos ⟨hp, h0⟩, putJ _ _ _ _ _ _ _ _ _ _ _ _ _ hA hM]
      congr 1
      rw [hs']
      by_cases hr : rawSum (p.re f) = 0
      · rw [if_pos ⟨hp, hr⟩]
      · rw [if_neg (fun e => hr e.2)]
        by_cases hq : rawSum p = 0
        · rw [if_pos ⟨hp, hq⟩] at hs
          omega
        · rw [if_neg (fun e => hq e.2)] at hs
          omega
    · rw [if_neg (fun e => h0 e.2)]
      congr 1
      rw [hs']
      by_cases hr : rawSum (p.re f) = 0
      · rw [if_pos ⟨hp, hr⟩]
        by_cases hq : rawSum p = 0
        · rw [if_pos ⟨hp, hq⟩] at hs
          omega
        · rw [if_neg (fun e => hq e.2)] at hs
          omega
      · rw [if_neg (fun e => hr e.2)]
        by_cases hq : rawSum p = 0
        · rw [if_pos ⟨hp, hq⟩] at hs
          omega
        · rw [if_neg (fun e => hq e.2)] at hs
          omega
  · rw [if_neg (fun e => hp e.1)]
    rw [if_neg (fun e => hp e.1)] at hs
    congr 1
    rw [hs', if_neg (fun e => hp e.1)]
    have := hU3 (by omega)
    omega
end Go.Proofs.Ytfbmeoiaedlgoaa
