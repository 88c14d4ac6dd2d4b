/- slices.IndexFunc and ContainsFunc over commands; wants, find. Conditions: those stated. -/
import Derived.Test.YtbkpkakjfhkfaaaRoB
import Derived.Shelf.Abstract
namespace Go.Proofs.Ytbkpkakjfhkfaaa
open Go Go.RowKit
set_option linter.unusedVariables false
set_option linter.unusedSimpArgs false

/-- What a function value answers of commands, from a world on. -/
def PredC (g : Nat) (ba cb : Array Value) (p : Cm → Bool) (w : World) : Prop :=
  ∀ (W : World), Below w.heap.size w W → ∀ x (a : Option Addr) (n c : Nat), TyC x → Calls Try.prog g (ba.push (x.val (.slice a n c)) ++ cb) W fun e w' => e = .returned (.bool (p x)) ∧ Below W.heap.size W w'
theorem PredC.later {g : Nat} {ba cb : Array Value} {p : Cm → Bool} {w W : World} (h : PredC g ba cb p w) (hb : Below w.heap.size w W) : PredC g ba cb p W := fun W2 h2 x a n c hx => h W2 (bl_tr hb h2) x a n c hx
set_option maxRecDepth 100000 in
set_option maxHeartbeats 4000000 in
theorem indexC_c (p : Cm → Bool) (g : Nat) (ba cb : Array Value) (eg : ∀ args w, (callFunc g args).run Try.prog w = .ok (.enter g args) w) (ls : List Cm) (vs : List Value) (a : Option Addr) (n c : Nat) (w : World) (hI : InC w a n c ls vs) (hn : n ≤ 1048576) (hp : PredC g ba cb p w) :
    Calls Try.prog 120 #[.slice a n c, .func (.func g) ba cb] w fun e w' => e = .returned (.int .i64 (idxC p ls)) ∧ Below w.heap.size w w' := by
  have hlen := hI.len
  have hroom := hI.room
  have HI := Lib.hid hI
  have HP := Lib.hid hp
  have F0 : Hid (∀ j, j < 0 → p (ls.getD j cm0) = false) := Lib.hid (fun j hj => by omega)
  obtain ⟨R, hR⟩ : ∃ R, R = idxC p ls := ⟨_, rfl⟩
  rw [← hR]
  have HR := Lib.hid hR
  clear hI hp hR
  go_enter Try.func120, Try.ntmps120
  go_wp2
  go_loopg [5, 8] n (fun gg _ s8 wr => ∃ i : Nat, i ≤ n ∧ n - i ≤ gg ∧ s8 = .int .i64 i ∧ Hid (∀ j, j < i → p (ls.getD j cm0) = false) ∧ Hid (Below w.heap.size w wr))
  case atStart => exact ⟨0, by omega, by omega, rfl, F0, Lib.hid (Below.refl _ _)⟩
  case round =>
    obtain ⟨i, hi, hgg, rfl, HF, HB⟩ := hrel
    obtain ⟨w2, rfl⟩ : ∃ v, v = wr := ⟨_, rfl⟩
    clear F0
    by_cases hlt : i < n
    · have ii : (i : Int) < (n : Int) := by omega
      have i0 : (0 : Int) ≤ (i : Int) := by omega
      have ic : (i : Int) ≤ (c : Int) := by omega
      obtain ⟨b, off, rfl⟩ := HI.out.block (by omega)
      have hI2 := HI.out.below HB.out
      obtain ⟨k0, k1, k2, k3, k4, k5, k6, k7, k8, k9, k10, k11⟩ := hI2.cell hlt
      obtain ⟨a2, n2, c2, hv, hE⟩ := hI2.ends i hlt
      have ht := HI.out.ty hlt
      rw [hv] at k8
      have HH : Hid (p (ls.getD i cm0) = true → idxC p ls = i) := Lib.hid (fun e => idxC_hit (by omega) HF.out e)
      have HM : Hid (p (ls.getD i cm0) = false → ∀ j, j < i + 1 → p (ls.getD j cm0) = false) := Lib.hid (fun e j hj => by
        rcases Nat.lt_or_eq_of_le (Nat.lt_succ_iff.1 hj) with h | h
        · exact HF.out j h
        · rw [h]; exact e)
      obtain ⟨x, ex⟩ : ∃ x, x = ls.getD i cm0 := ⟨_, rfl⟩
      rw [← ex] at k0 k1 k2 k3 k4 k5 k6 k7 k9 k10 k11 ht HH HM
      have hc := HP.out w2 HB.out x a2 n2 c2 ht
      clear ex ht hv hE hI2
      cases hq : p x with
      | true =>
        rw [hq] at hc
        have HRR := Lib.hid (HH.out hq)
        clear hq HH HM
        go_wp2_with fail
        refine hc.mono ?_
        rintro e w' ⟨rfl, hb'⟩
        have HB2 := Lib.hid (bl_tr HB.out hb')
        clear hb' hc k0 k1 k2 k3 k4 k5 k6 k7 k8 k9 k10 k11
        go_wp2
        go_ret
        exact ⟨by rw [HR.out, HRR.out]; rfl, HB2.out⟩
      | false =>
        rw [hq] at hc
        have HF2 := Lib.hid (HM.out hq)
        clear hq HH HM
        go_wp2_with fail
        refine hc.mono ?_
        rintro e w' ⟨rfl, hb'⟩
        have HB2 := Lib.hid (bl_tr HB.out hb')
        clear hb' hc k0 k1 k2 k3 k4 k5 k6 k7 k8 k9 k10 k11
        go_wp2
        go_roundg (n - (i + 1))
        case measure => omega
        case rel => exact ⟨i + 1, by omega, by omega, by go_num, HF2, HB2⟩
    · have ii : ¬ (i : Int) < (n : Int) := by omega
      obtain rfl : i = n := by omega
      have HRR : Hid (idxC p ls = -1) := Lib.hid (idxC_miss (fun j hj => HF.out j (by omega)))
      go_wp2
      go_ret
      exact ⟨by rw [HR.out, HRR.out]; rfl, HB.out⟩
theorem any_idx (p : Cm → Bool) (l : List Cm) : decide (0 ≤ idxC p l) = l.any p := by
  have h1 := idxC_low p l
  have h2 := idxC_none (p := p) (l := l)
  cases h : l.any p with
  | true =>
    obtain ⟨x, hx, hp⟩ := List.any_eq_true.1 h
    have : idxC p l ≠ -1 := fun e => by have := h2.1 e x hx; rw [hp] at this; cases this
    exact decide_eq_true (by omega)
  | false =>
    have := h2.2 (fun x hx => by
      have := List.any_eq_false.1 h x hx
      simpa using this)
    exact decide_eq_false (by omega)
set_option maxRecDepth 100000 in
set_option maxHeartbeats 2000000 in
theorem containsC_c (p : Cm → Bool) (g : Nat) (ba cb : Array Value) (eg : ∀ args w, (callFunc g args).run Try.prog w = .ok (.enter g args) w) (ls : List Cm) (vs : List Value) (a : Option Addr) (n c : Nat) (w : World) (hI : InC w a n c ls vs) (hn : n ≤ 1048576) (hp : PredC g ba cb p w) :
    Calls Try.prog 131 #[.slice a n c, .func (.func g) ba cb] w fun e w' => e = .returned (.bool (ls.any p)) ∧ Below w.heap.size w w' := by
  have C := Lib.hid (indexC_c p g ba cb eg ls vs a n c w hI hn hp)
  have HK := Lib.hid (any_idx p ls)
  obtain ⟨k, hk⟩ : ∃ k, k = idxC p ls := ⟨_, rfl⟩
  rw [← hk] at C HK
  clear hI hp hk
  go_enter Try.func131, Try.ntmps131
  go_wp2_with fail
  refine C.out.mono ?_
  rintro e w1 ⟨rfl, hb⟩
  have HB := Lib.hid hb
  clear hb C
  go_wp2
  go_ret
  exact ⟨by rw [← HK.out]; rfl, HB.out⟩
set_option maxRecDepth 100000 in
set_option maxHeartbeats 2000000 in
/-- The closure in wants. -/
theorem wants1_c (x y : Cm) (hx : TyC x) (hy : TyC y) (q : Nat) (u : Value) (a : Option Addr) (n c : Nat) (w : World) (hq : BxC w q x u) :
    Calls Try.prog 132 #[y.val (.slice a n c), .pointer (some ⟨q, 0, none⟩)] w fun e w' => e = .returned (.bool (x.nm == y.nm)) ∧ Below w.heap.size w w' := by
  obtain ⟨w1, hw1⟩ : ∃ w1, w1 = w.alloc (y.obj (.slice a n c)) := ⟨_, rfl⟩
  have hb1 : Below w.heap.size w w1 := by rw [hw1]; exact bl_al (Below.refl _ _) _
  obtain ⟨d0, d1, d2, _⟩ := (hq.later hb1).at
  have hA := (bxC_new w y (.slice a n c)).at
  rw [← hw1] at hA
  obtain ⟨e0, e1, e2, _⟩ := hA
  obtain ⟨t, ht⟩ : ∃ t, t = w.heap.size := ⟨_, rfl⟩
  rw [← ht] at e0 e1 e2
  have HW := Lib.hid (And.intro hw1 ht)
  have HB := Lib.hid hb1
  have HR : Hid ((x.nm == y.nm) = (decide (x.node = y.node) && decide (x.boot = y.boot) && decide (x.seq = y.seq))) := Lib.hid (by
    unfold Cm.nm
    by_cases h0 : x.node = y.node <;> by_cases h1 : x.boot = y.boot <;> by_cases h2 : x.seq = y.seq <;> simp [h0, h1, h2])
  obtain ⟨R, hR⟩ : ∃ R, R = (x.nm == y.nm) := ⟨_, rfl⟩
  rw [← hR] at HR ⊢
  simp only [Nat.zero_add] at d0 d1 d2 e0 e1 e2
  clear hw1 hb1 ht hR hq hx hy
  go_enter Try.func132, Try.ntmps132
  go_upto_region 1 with fail
  rw [show w.alloc (y.obj (.slice a n c)) = w1 from HW.out.1.symm, ← HW.out.2]
  by_cases h0 : x.node = y.node
  · by_cases h1 : x.boot = y.boot
    · by_cases h2 : x.seq = y.seq
      · have HZ : Hid (R = true) := Lib.hid (by rw [HR.out]; simp [h0, h1, h2])
        rw [h0] at d0
        rw [h1] at d1
        rw [h2] at d2
        clear h0 h1 h2
        go_wp2
        go_ret
        exact ⟨by rw [HZ.out]; rfl, HB.out⟩
      · have HZ : Hid (R = false) := Lib.hid (by rw [HR.out]; simp [h2])
        have hs : (x.seq == y.seq) = false := by simp [h2]
        rw [h0] at d0
        rw [h1] at d1
        clear h0 h1
        go_wp2
        go_ret
        exact ⟨by rw [HZ.out, ← hs]; rfl, HB.out⟩
    · have HZ : Hid (R = false) := Lib.hid (by rw [HR.out]; simp [h1])
      rw [h0] at d0
      clear h0
      go_wp2
      go_ret
      exact ⟨by rw [HZ.out]; rfl, HB.out⟩
  · have HZ : Hid (R = false) := Lib.hid (by rw [HR.out]; simp [h0])
    go_wp2
    go_ret
    exact ⟨by rw [HZ.out]; rfl, HB.out⟩
end Go.Proofs.Ytbkpkakjfhkfaaa
