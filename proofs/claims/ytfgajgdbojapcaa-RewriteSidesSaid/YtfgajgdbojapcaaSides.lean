/- Contract of RewriteSides: true. Conditions: the row came in, of at most 2^47 - 4096 bytes; the addresses are of 32 bits. -/
import Derived.Test.YtfgajgdbojapcaaLikes
import Derived.Test.YtfgajgdbojapcaaOpen4
import Derived.Test.YtfgajgdbojapcaaBackP
import Derived.Test.YtfgajgdbojapcaaBuilds
import Derived.Test.YtfgajgdbojapcaaKeeps
namespace Go.Proofs.Ytfgajgdbojapcaa
open Go Go.RowKit
set_option linter.unusedVariables false
set_option linter.unusedSimpArgs false

theorem bts_re_len (p f : Pk) : (bts (p.re f)).length = (bts p).length := by rw [bts_len, bts_len]; rfl
theorem Out.fit {l : List Int} {C : Prop} {q : Pk} {R : List Int} {E : Value} {f : Int} (h : Out l C q R E f) (t : fit q.data) : fit R := by
  rcases h with ⟨_, _, rfl, _, _⟩ | ⟨_, _, rfl, _, _⟩ | ⟨_, rfl, _, _⟩
  · exact fit_bts t
  · intro z hz; simp at hz
  · intro z hz; simp at hz
theorem Out.short {l : List Int} {C : Prop} {q : Pk} {R : List Int} {E : Value} {f : Int} (h : Out l C q R E f) (hq : (bts q).length = (bts (dec l)).length) : R.length ≤ 140737488351232 := by
  rcases h with ⟨hi, _, rfl, _, _⟩ | ⟨_, _, rfl, _, _⟩ | ⟨_, rfl, _, _⟩
  · have := hi.size
    rw [hq, hi.2]
    omega
  · simp
  · simp
def three (u v t : Value) (i : Nat) : Value := if i = 0 then u else if i = 1 then v else t
def three' (u v t : Nat) (i : Nat) : Nat := if i = 0 then u else if i = 1 then v else t
/-- Three rows of the call's own, each made behind the one before. -/
theorem geo3 {w w2 w3 : World} {B S T n m r k : Nat} {e f d : TypeId} {s t q : Nat} {u v x : Value} {xs ys zs : List Value} (h1 : w.ownsRow B e s u n xs) (h2 : w2.ownsRow S f t v m ys) (h3 : w3.ownsRow T d q x r zs) (hS : w.heap.size ≤ S) (hT : w2.heap.size ≤ T) (hST : S ≤ T) (hk : w3.heap.size ≤ k) (hTk : T ≤ k) : Geo B k 3 (three u v x) := by
  have apart : ∀ {u v : Value} {a b c d : Nat}, (∀ g, u.ownBlock = some g → g < b) → (∀ g, v.ownBlock = some g → c ≤ g) → b ≤ c → u.ownBlock = none ∨ u.ownBlock ≠ v.ownBlock := by
    intro u v a b c d hu hv hbc
    cases e : u.ownBlock with
    | none => exact .inl rfl
    | some g =>
      right
      intro e2
      have := hu g e
      have := hv g e2.symm
      omega
  have apart' : ∀ {u v : Value} {b c : Nat}, (∀ g, u.ownBlock = some g → g < b) → (∀ g, v.ownBlock = some g → c ≤ g) → b ≤ c → v.ownBlock = none ∨ v.ownBlock ≠ u.ownBlock := by
    intro u v b c hu hv hbc
    cases e : v.ownBlock with
    | none => exact .inl rfl
    | some g =>
      right
      intro e2
      have := hv g e
      have := hu g e2.symm
      omega
  have u1 : ∀ g, u.ownBlock = some g → g < w.heap.size := fun g hg => (h1.lt g hg).2
  have v1 : ∀ g, v.ownBlock = some g → S ≤ g := fun g hg => (h2.lt g hg).1
  have v2 : ∀ g, v.ownBlock = some g → g < w2.heap.size := fun g hg => (h2.lt g hg).2
  have x1 : ∀ g, x.ownBlock = some g → T ≤ g := fun g hg => (h3.lt g hg).1
  constructor
  · intro i j hi hj hij
    have : (i = 0 ∧ j = 1) ∨ (i = 1 ∧ j = 0) ∨ (i = 0 ∧ j = 2) ∨ (i = 2 ∧ j = 0) ∨ (i = 1 ∧ j = 2) ∨ (i = 2 ∧ j = 1) := by omega
    rcases this with ⟨rfl, rfl⟩ | ⟨rfl, rfl⟩ | ⟨rfl, rfl⟩ | ⟨rfl, rfl⟩ | ⟨rfl, rfl⟩ | ⟨rfl, rfl⟩
    · exact apart (a := 0) (d := 0) u1 v1 hS
    · exact apart' u1 v1 hS
    · exact apart (a := 0) (d := 0) u1 x1 (by omega)
    · exact apart' u1 x1 (by omega)
    · exact apart (a := 0) (d := 0) v2 x1 hT
    · exact apart' v2 x1 hT
  · intro i hi e
    have : i = 0 ∨ i = 1 ∨ i = 2 := by omega
    rcases this with rfl | rfl | rfl
    · have := (h1.lt k e).2; omega
    · have := (h2.lt k e).2; omega
    · have := (h3.lt k e).2; omega

/-- What RewriteSides holds: the box, the row, the copy. -/
structure Sd (w : World) (a : Option Addr) (n c : Nat) (l : List Int) (A P : Int) (g : Pk) (gc : Nat) (wx : World) : Prop where
  box : XBox w a n c A P g wx
  mark : Marked wx gc n l
theorem Sd.next {w : World} {a : Option Addr} {n c : Nat} {l : List Int} {A P : Int} {g : Pk} {gc : Nat} {wx wy : World} (h : Sd w a n c l A P g gc wx) (hb : Below wx.heap.size wx wy) : Sd w a n c l A P g gc wy :=
  ⟨h.box.next hb, h.mark.below hb⟩

set_option maxRecDepth 100000 in
set_option maxHeartbeats 2000000 in
theorem sides_any (a : Option Addr) (n c : Nat) (l : List Int) (A P : Int) (g : Pk) (w : World) (hI : In w a n c l) (hA : 0 ≤ A ∧ A < 4294967296) (hs : 0 ≤ g.src ∧ g.src < 4294967296) (hd : 0 ≤ g.dst ∧ g.dst < 4294967296) (hn : n ≤ 140737488351232) :
    Calls Try.prog 9 #[xval a n c A P g] w fun e w' => e = .returned (.bool true) ∧ Below w.heap.size w w' := by
  obtain ⟨W, hW, hX⟩ := XBox.start w a n c A P g
  have HW := Lib.hid hW
  have HX := Lib.hid hX
  have HI := Lib.hid hI
  have hln := hI.len
  have hft := hI.fit
  have hn2 : n ≤ 4611686018427387904 := by omega
  have t := dec_typed hI.fit
  obtain ⟨R1, E1, f1, ho1⟩ := Out.some l (portOk P) (reS (dec l) A P)
  obtain ⟨R2, E2, f2, ho2⟩ := Out.some l (portOk P) (reD (dec l) A P)
  obtain ⟨R3, E3, f3, ho3⟩ := Out.some l (FlowOk g ∧ g.proto = (dec l).proto) ((dec l).re g)
  have F1 := Lib.hid (ho1.fit t.data)
  have F2 := Lib.hid (ho2.fit t.data)
  have F3 := Lib.hid (ho3.fit t.data)
  have K1 := Lib.hid (ho1.short (by rw [bts_len, bts_len]; rfl))
  have K2 := Lib.hid (ho2.short (by rw [bts_len, bts_len]; rfl))
  have K3 := Lib.hid (ho3.short (bts_re_len _ _))
  have CC := Lib.hid (fun X (h : In X a n c l) => copy_any l a n c X h hn)
  have CK := Lib.hid (fun X gg (h : In X a n c l) (hM : Marked X gg n l) => kept_any l a n c gg X h hM hn)
  have CM := Lib.hid (fun X gg (hM : Marked X gg n l) => Marked.in hM hln hft)
  have C1 := Lib.hid (fun X x k d (h : In X x k d l) (hk : k ≤ 4611686018427387904) => source_t ho1 hA x k d X h hk)
  have C2 := Lib.hid (fun X x k d (h : In X x k d l) (hk : k ≤ 4611686018427387904) => dest_t ho2 hA x k d X h hk)
  have C3 := Lib.hid (fun X x k d (h : In X x k d l) (hk : k ≤ 4611686018427387904) => both_t ho3 hs hd x k d X h hk)
  have D1 := Lib.hid (fun X (h : In X a n c l) => refSource_t ho1 hA a n c X h hn2)
  have D2 := Lib.hid (fun X (h : In X a n c l) => refDest_t ho2 hA a n c X h hn2)
  have D3 := Lib.hid (fun X (h : In X a n c l) => refBoth_t ho3 hs hd a n c X h hn2)
  have N1 := Lib.hid ho1
  have N2 := Lib.hid ho2
  have N3 := Lib.hid ho3
  have HLN := Lib.hid hln
  have HN2 := Lib.hid hn2
  clear hI hA hs hd hW hX ho1 ho2 ho3 t hln hft hn hn2
  go_enter Try.func9, Try.ntmps9
  go_wp2_with fail
  rw [HW.out]
  refine (alive4_any W).mono ?_
  rintro e w1 ⟨rfl, hb⟩
  have HX1 := Lib.hid (HX.out.next hb)
  have HI1 := Lib.hid (HI.out.below HX1.out.below)
  obtain ⟨x0, x1, x2, x3, x4, x5, x6, x7⟩ := HX1.out.here
  clear hb HX HW
  go_wp2_with fail
  refine (CC.out w1 HI1.out).mono ?_
  rintro e w2 ⟨gc, rfl, hown, hb⟩
  have HS2 : Hid (Sd w a n c l A P g gc w2) := Lib.hid ⟨HX1.out.next hb, hown.marked HLN.out⟩
  have Z2 : Hid (w.heap.size ≤ w2.heap.size) := Lib.hid HS2.out.box.below.size
  clear hown hb x0 x1 x2 x3 x4 x5 x6 x7 HX1 HI1 CC
  obtain ⟨x0, x1, x2, x3, x4, x5, x6, x7⟩ := HS2.out.box.here
  go_wp2_with fail
  refine (C1.out w2 _ _ _ (CM.out w2 gc HS2.out.mark) HN2.out).mono ?_
  rintro e w3 ⟨a1, k1, c1, rfl, hk, hown, hb⟩
  have HS3 := Lib.hid (HS2.out.next hb)
  have Z3 : Hid (w.heap.size ≤ w3.heap.size) := Lib.hid HS3.out.box.below.size
  have O1 := Lib.hid hown
  have L1 := Lib.hid hk
  clear hown hb hk x0 x1 x2 x3 x4 x5 x6 x7 HS2 C1
  obtain ⟨x0, x1, x2, x3, x4, x5, x6, x7⟩ := HS3.out.box.here
  go_wp2_with fail
  refine (C2.out w3 _ _ _ (CM.out w3 gc HS3.out.mark) HN2.out).mono ?_
  rintro e w4 ⟨a2, k2, c2, rfl, hk, hown, hb⟩
  have HS4 := Lib.hid (HS3.out.next hb)
  have O2 := Lib.hid hown
  have L2 := Lib.hid hk
  have P1 := Lib.hid (owns_bel O1.out hb)
  have Z34 : Hid (w3.heap.size ≤ w4.heap.size) := Lib.hid hb.size
  clear hown hb hk x0 x1 x2 x3 x4 x5 x6 x7 HS3 C2
  obtain ⟨x0, x1, x2, x3, x4, x5, x6, x7⟩ := HS4.out.box.here
  go_wp2_with fail
  refine (C3.out w4 _ _ _ (CM.out w4 gc HS4.out.mark) HN2.out).mono ?_
  rintro e w5 ⟨a3, k3, c3, rfl, hk, hown, hb⟩
  have HS5 := Lib.hid (HS4.out.next hb)
  have O3 := Lib.hid hown
  have L3 := Lib.hid hk
  have HG : Hid (∀ k, w5.heap.size ≤ k → Geo w.heap.size k 3 (three (.slice a1 k1 c1) (.slice a2 k2 c2) (.slice a3 k3 c3))) := Lib.hid (fun k hk => by
    have z := Z2.out
    have z3 := Z34.out
    have s5 := hb.size
    exact geo3 (own_base O1.out z) O2.out O3.out (Nat.le_refl _) (Nat.le_refl _) z3 hk (by omega))
  have Z5 : Hid (w3.heap.size ≤ w5.heap.size ∧ w.heap.size ≤ w3.heap.size ∧ w.heap.size ≤ w4.heap.size) := Lib.hid (by
    have z3 := Z34.out
    have s5 := hb.size
    have := Z3.out
    omega)
  have Q1 := Lib.hid (own_base (B' := w.heap.size) (owns_bel P1.out hb) Z2.out)
  have Q2 := Lib.hid (own_base (B' := w.heap.size) (owns_bel O2.out hb) Z5.out.2.1)
  have Q3 := Lib.hid (own_base (B' := w.heap.size) O3.out Z5.out.2.2)
  have HI5 := Lib.hid (HI.out.below HS5.out.box.below)
  clear hown hb hk x0 x1 x2 x3 x4 x5 x6 x7 HS4 C3 O1 O2 O3 P1 Z2 Z3 Z34 Z5
  obtain ⟨x0, x1, x2, x3, x4, x5, x6, x7⟩ := HS5.out.box.here
  go_wp2_with fail
  refine (D1.out w5 HI5.out).mono ?_
  rintro e w6 ⟨a4, k4, c4, rfl, hin, hb⟩
  have HS6 := Lib.hid (HS5.out.next hb)
  have HI6 := Lib.hid (HI.out.below HS6.out.box.below)
  have U4 := Lib.hid hin
  have V1 := Lib.hid (owns_bel Q1.out hb)
  have V2 := Lib.hid (owns_bel Q2.out hb)
  have V3 := Lib.hid (owns_bel Q3.out hb)
  have Z6 : Hid (w5.heap.size ≤ w6.heap.size) := Lib.hid hb.size
  clear hin hb x0 x1 x2 x3 x4 x5 x6 x7 HS5 HI5 D1 Q1 Q2 Q3
  obtain ⟨x0, x1, x2, x3, x4, x5, x6, x7⟩ := HS6.out.box.here
  go_wp2_with fail
  refine (D2.out w6 HI6.out).mono ?_
  rintro e w7 ⟨a5, k5, c5, rfl, hin, hb⟩
  have HS7 := Lib.hid (HS6.out.next hb)
  have HI7 := Lib.hid (HI.out.below HS7.out.box.below)
  have T4 := Lib.hid (U4.out.below hb)
  have U5 := Lib.hid hin
  have Q1 := Lib.hid (owns_bel V1.out hb)
  have Q2 := Lib.hid (owns_bel V2.out hb)
  have Q3 := Lib.hid (owns_bel V3.out hb)
  have Z7 : Hid (w5.heap.size ≤ w7.heap.size) := Lib.hid (by have := hb.size; have := Z6.out; omega)
  clear hin hb x0 x1 x2 x3 x4 x5 x6 x7 HS6 HI6 D2 V1 V2 V3 Z6 U4
  obtain ⟨x0, x1, x2, x3, x4, x5, x6, x7⟩ := HS7.out.box.here
  go_wp2_with fail
  refine (D3.out w7 HI7.out).mono ?_
  rintro e w8 ⟨a6, k6, c6, rfl, hin, hb⟩
  have HS8 := Lib.hid (HS7.out.next hb)
  have HI8 := Lib.hid (HI.out.below HS8.out.box.below)
  have V1 := Lib.hid (owns_bel Q1.out hb)
  have V2 := Lib.hid (owns_bel Q2.out hb)
  have V3 := Lib.hid (owns_bel Q3.out hb)
  have Z8 : Hid (w5.heap.size ≤ w8.heap.size) := Lib.hid (by have := hb.size; have := Z7.out; omega)
  have i1 := own_row V1.out L1.out.symm F1.out
  have i2 := own_row V2.out L2.out.symm F2.out
  have i3 := own_row V3.out L3.out.symm F3.out
  have i4 := T4.out.below hb
  have i5 := U5.out.below hb
  have sA := str_of i1.here i1.len
  have sB := str_of i2.here i2.len
  have sC := str_of i3.here i3.len
  have sD := str_of i4.here i4.len
  have sE := str_of i5.here i5.len
  have sF := str_of hin.here hin.len
  obtain ⟨y1, hy1⟩ : ∃ s, s = strOfNums R1 := ⟨_, rfl⟩
  obtain ⟨y2, hy2⟩ : ∃ s, s = strOfNums R2 := ⟨_, rfl⟩
  obtain ⟨y3, hy3⟩ : ∃ s, s = strOfNums R3 := ⟨_, rfl⟩
  rw [← hy1] at sA sD
  rw [← hy2] at sB sE
  rw [← hy3] at sC sF
  have e1 : (y1.toList != y1.toList) = false := by simp
  have e2 : (y2.toList != y2.toList) = false := by simp
  have e3 : (y3.toList != y3.toList) = false := by simp
  have g1 : (f1 == f1) = true := by simp
  have g2 : (f2 == f2) = true := by simp
  have g3 : (f3 == f3) = true := by simp
  clear hin hb hy1 hy2 hy3 i1 i2 i3 i4 i5 x0 x1 x2 x3 x4 x5 x6 x7 HS7 HI7 D3 Q1 Q2 Q3 Z7 T4 U5
  obtain ⟨x0, x1, x2, x3, x4, x5, x6, x7⟩ := HS8.out.box.here
  go_upto_region 12 with fail
  go_wp2_with fail
  refine (num_out N1.out _).mono ?_
  rintro e w' ⟨rfl, rfl⟩
  go_wp2_with fail
  refine (num_out N2.out _).mono ?_
  rintro e w' ⟨rfl, rfl⟩
  go_wp2_with fail
  refine (num_out N3.out _).mono ?_
  rintro e w' ⟨rfl, rfl⟩
  go_wp2_with fail
  refine (CK.out w8 gc HI8.out HS8.out.mark).mono ?_
  rintro e w9 ⟨rfl, hb⟩
  have HB9 := Lib.hid (HS8.out.next hb).box.below
  have Q1 := Lib.hid (owns_bel V1.out hb)
  have Q2 := Lib.hid (owns_bel V2.out hb)
  have Q3 := Lib.hid (owns_bel V3.out hb)
  have Z9 : Hid (w5.heap.size ≤ w9.heap.size) := Lib.hid (by have := hb.size; have := Z8.out; omega)
  clear hb sA sB sC sD sE sF e1 e2 e3 x0 x1 x2 x3 x4 x5 x6 x7 HS8 HI8 CK V1 V2 V3 Z8
  have CA : Hid (Calls Try.prog 28 #[.slice (some ⟨w9.heap.size, 0, none⟩) 3 3] (w9.alloc (.cells #[.slice a1 k1 c1, .slice a2 k2 c2, .slice a3 k3 c3] 26)) fun e w' => e = .returned (.bool true) ∧ Below w.heap.size (w9.alloc (.cells #[.slice a1 k1 c1, .slice a2 k2 c2, .slice a3 k3 c3] 26)) w') := Lib.hid (by
    have s5 := Z9.out
    have s4 := HB9.out.size
    refine apart_any _ w.heap.size w9.heap.size 3 3 (three (.slice a1 k1 c1) (.slice a2 k2 c2) (.slice a3 k3 c3)) (three' R1.length R2.length R3.length) (by omega) (HG.out _ s5) ?_ ?_ ?_ (by simp) (by simp; omega)
    · intro i hi
      have : i = 0 ∨ i = 1 ∨ i = 2 := by omega
      rcases this with rfl | rfl | rfl
      · exact cells_new w9 [.slice a1 k1 c1, .slice a2 k2 c2, .slice a3 k3 c3] 26 (0, 0) 0 _ rfl
      · exact cells_new w9 [.slice a1 k1 c1, .slice a2 k2 c2, .slice a3 k3 c3] 26 (0, 0) 1 _ rfl
      · exact cells_new w9 [.slice a1 k1 c1, .slice a2 k2 c2, .slice a3 k3 c3] 26 (0, 0) 2 _ rfl
    · intro i hi
      have : i = 0 ∨ i = 1 ∨ i = 2 := by omega
      rcases this with rfl | rfl | rfl
      · refine ⟨R1, rfl, ?_⟩
        have := Q1.out.alloc (.cells #[.slice a1 k1 c1, .slice a2 k2 c2, .slice a3 k3 c3] 26)
        have e := L1.out
        subst e
        exact this
      · refine ⟨R2, rfl, ?_⟩
        have := Q2.out.alloc (.cells #[.slice a1 k1 c1, .slice a2 k2 c2, .slice a3 k3 c3] 26)
        have e := L2.out
        subst e
        exact this
      · refine ⟨R3, rfl, ?_⟩
        have := Q3.out.alloc (.cells #[.slice a1 k1 c1, .slice a2 k2 c2, .slice a3 k3 c3] 26)
        have e := L3.out
        subst e
        exact this
    · intro i hi
      have : i = 0 ∨ i = 1 ∨ i = 2 := by omega
      rcases this with rfl | rfl | rfl
      · exact K1.out
      · exact K2.out
      · exact K3.out)
  go_wp2_with fail
  refine CA.out.mono ?_
  rintro e w10 ⟨rfl, hb⟩
  have HB10 : Hid (Below w.heap.size w w10) := Lib.hid ((bl_al HB9.out _).trans hb)
  clear hb CA
  go_wp2
  go_ret
  exact ⟨rfl, HB10.out⟩
end Go.Proofs.Ytfgajgdbojapcaa
