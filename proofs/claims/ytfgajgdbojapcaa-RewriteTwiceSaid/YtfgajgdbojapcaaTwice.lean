/- Contract of RewriteTwice: true. Conditions: the row came in, of at most 2^62 bytes; the addresses are of 32 bits. -/
import Derived.Test.YtfgajgdbojapcaaAlvR
import Derived.Test.YtfgajgdbojapcaaOpen4
namespace Go.Proofs.Ytfgajgdbojapcaa
open Go Go.RowKit
set_option linter.unusedVariables false
set_option linter.unusedSimpArgs false

/-- A row of the call's own, as one that came in. -/
theorem fit_out {l : List Int} {C : Prop} {q : Pk} {R : List Int} {E : Value} {f : Int} (h : Out l C q R E f) (hq : Is l → C → Typed q) : fit R := by
  rcases h with ⟨hi, hC, rfl, _⟩ | ⟨_, _, rfl, _⟩ | ⟨_, rfl, _⟩
  · exact fit_bts (hq hi hC).data
  · intro b hb; cases hb
  · intro b hb; cases hb

set_option maxRecDepth 100000 in
set_option maxHeartbeats 1000000 in
theorem twice_any (a : Option Addr) (n c : Nat) (l : List Int) (A P : Int) (g : Pk) (B Q : Int) (w : World) (hI : In w a n c l) (hA : 0 ≤ A ∧ A < 4294967296) (hB : 0 ≤ B ∧ B < 4294967296) (hn : n ≤ 4611686018427387904) :
    Calls Try.prog 14 #[xval a n c A P g, .int .u32 B, .int .i64 Q] w fun e w' => e = .returned (.bool true) ∧ Below w.heap.size w w' := by
  obtain ⟨W, hW, hX⟩ := XBox.start w a n c A P g
  have HW := Lib.hid hW
  have HX := Lib.hid hX
  have HI := Lib.hid hI
  obtain ⟨R, E, f, ho⟩ := Out.some l (portOk Q) (reD (dec l) B Q)
  have C := Lib.hid (fun X (h : In X a n c l) => dest_t ho hB a n c X h hn)
  rcases ho with ⟨hi, hQ, rfl, rfl, rfl⟩ | ⟨hi, hQ, rfl, rfl, rfl⟩ | ⟨hi, rfl, rfl, rfl⟩
  · have t := dec_typed hI.fit
    obtain ⟨p, hp⟩ : ∃ p, p = dec l := ⟨_, rfl⟩
    have hok : Ok p := by rw [hp]; exact hi.1
    rw [← hp] at C t
    have hokq : Ok (reD p B Q) := reD_ok hok hQ
    have hty : Typed (reD p B Q) := reD_typed t hB
    have his := Is.of hokq hty (b := bts (reD p B Q)) rfl
    obtain ⟨R, E, f, ho⟩ := Out.some l (portOk P) (reD (dec l) A P)
    have C3 := Lib.hid (fun X (h : In X a n c l) => dest_t ho hA a n c X h hn)
    have ho2 : Out (bts (reD p B Q)) (portOk P) (reD (dec (bts (reD p B Q))) A P) R E f := by
      rw [his.2]
      rcases ho with ⟨_, hP, rfl, rfl, rfl⟩ | ⟨_, hP, rfl, rfl, rfl⟩ | ⟨h, _⟩
      · exact .inl ⟨his.1, hP, by rw [← hp]; rfl, rfl, rfl⟩
      · exact .inr (.inl ⟨his.1, hP, rfl, rfl, rfl⟩)
      · exact absurd hi h
    have hlen : (bts (reD p B Q)).length ≤ 4611686018427387904 := by have := his.1.size; omega
    have C2 := Lib.hid (fun X (ao : Option Addr) (k cp : Nat) (hk : k = (bts (reD p B Q)).length) (h : In X ao k cp (bts (reD p B Q))) => dest_t ho2 hA ao k cp X h (by omega))
    have CN := Lib.hid (fun W => num_out ho W)
    have HFR := Lib.hid (fit_out ho (fun _ _ => reD_typed (by rw [← hp]; exact t) hA))
    have HFB := Lib.hid (fit_bts hty.data)
    obtain ⟨b, hb0⟩ : ∃ b, b = bts (reD p B Q) := ⟨_, rfl⟩
    rw [← hb0] at C C2 HFB
    clear hI hA hB hW hX hi hQ t hp hok hokq hty his ho ho2 hlen hb0
    go_enter Try.func14, Try.ntmps14
    go_wp2_with fail
    rw [HW.out]
    refine (alive4_any W).mono ?_
    rintro e w1 ⟨rfl, hb⟩
    have HX1 := Lib.hid (HX.out.next hb)
    have HI1 := Lib.hid (HI.out.below HX1.out.below)
    obtain ⟨x0, x1, x2, x3, x4, x5, x6, x7⟩ := HX1.out.here
    clear hb HX HW
    go_wp2_with fail
    refine (C.out w1 HI1.out).mono ?_
    rintro e w2 ⟨a2, k2, c2, rfl, hk, hown, hb⟩
    have HX2 := Lib.hid (HX1.out.next hb)
    have HI2 := Lib.hid (HI.out.below HX2.out.below)
    have HR2 := Lib.hid (own_row hown hk.symm HFB.out)
    have HK := Lib.hid hk
    clear hown hb hk x0 x1 x2 x3 x4 x5 x6 x7 HX1 HI1 C
    obtain ⟨x0, x1, x2, x3, x4, x5, x6, x7⟩ := HX2.out.here
    go_wp2_with fail
    refine (C2.out w2 a2 k2 c2 HK.out HR2.out).mono ?_
    rintro e w3 ⟨a3, k3, c3, rfl, hk, hown, hb⟩
    have HX3 := Lib.hid (HX2.out.next hb)
    have HI3 := Lib.hid (HI.out.below HX3.out.below)
    have HR3 := Lib.hid (own_row hown hk.symm HFR.out)
    clear hown hb hk x0 x1 x2 x3 x4 x5 x6 x7 HX2 HI2 HR2 HK C2
    obtain ⟨x0, x1, x2, x3, x4, x5, x6, x7⟩ := HX3.out.here
    go_wp2_with fail
    refine (C3.out w3 HI3.out).mono ?_
    rintro e w4 ⟨a4, k4, c4, rfl, hk, hown, hb⟩
    have HX4 := Lib.hid (HX3.out.next hb)
    have hR3 := HR3.out.below hb
    have hR4 := own_row hown hk.symm HFR.out
    have sA := str_of hR3.here hR3.len
    have sB := str_of hR4.here hR4.len
    obtain ⟨s, hs⟩ : ∃ s, s = strOfNums R := ⟨_, rfl⟩
    rw [← hs] at sA sB
    have st : (s.toList == s.toList) = true := by simp
    have tf : (f == f) = true := by simp
    clear hown hb hk hs hR3 hR4 HR3 x0 x1 x2 x3 x4 x5 x6 x7 C3
    go_wp2_with (go_at_call 19; refine (CN.out _).mono ?_; rintro e w' ⟨rfl, rfl⟩)
    go_ret
    exact ⟨rfl, HX4.out.below⟩
  all_goals
    clear hI hA hB hW hX hi
    go_enter Try.func14, Try.ntmps14
    go_wp2_with fail
    rw [HW.out]
    refine (alive4_any W).mono ?_
    rintro e w1 ⟨rfl, hb⟩
    have HX1 := Lib.hid (HX.out.next hb)
    have HI1 := Lib.hid (HI.out.below HX1.out.below)
    obtain ⟨x0, x1, x2, x3, x4, x5, x6, x7⟩ := HX1.out.here
    clear hb HX HW
    go_wp2_with fail
    refine (C.out w1 HI1.out).mono ?_
    rintro e w2 ⟨a2, k2, c2, rfl, hk, hown, hb⟩
    obtain rfl : k2 = 0 := hk
    have HX2 := Lib.hid (HX1.out.next hb)
    clear hown hb x0 x1 x2 x3 x4 x5 x6 x7 HX1 HI1 C
    go_wp2
    go_ret
    exact ⟨rfl, HX2.out.below⟩
end Go.Proofs.Ytfgajgdbojapcaa
