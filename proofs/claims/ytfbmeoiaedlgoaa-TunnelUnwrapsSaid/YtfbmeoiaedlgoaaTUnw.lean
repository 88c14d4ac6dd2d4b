/- Contract of TunnelUnwraps: true. Conditions: the row came in, of at most 2^47 - 4096 bytes. -/
import Derived.Test.YtfbmeoiaedlgoaaTunF
namespace Go.Proofs.Ytfbmeoiaedlgoaa
open Go Go.RowKit
set_option linter.unusedVariables false
set_option linter.unusedSimpArgs false

theorem uout_len {l : List Int} {S D : Int} {R : List Int} {E : Value} {f : Int} {z : Bool} (h : UOut l S D R E f z) : R.length ≤ 1500 := by
  rcases h with ⟨hw, _, _, rfl, _⟩ | ⟨_, _, _, rfl, _⟩
  · have := hw.2.1; rw [List.length_drop]; omega
  · decide
theorem UOut.fz {l : List Int} {S D : Int} {R : List Int} {E : Value} {f : Int} {z : Bool} (h : UOut l S D R E f z) : (z == (f == 0)) = true := by
  rcases h with ⟨_, _, _, _, _, rfl, rfl⟩ | ⟨_, _, _, _, _, rfl, rfl⟩ <;> decide
set_option maxRecDepth 100000 in
set_option maxHeartbeats 1000000 in
theorem unwraps_any (a : Option Addr) (n c : Nat) (l : List Int) (w : World) (hI : In w a n c l) (hn : n ≤ 140737488351232) :
    Calls Try.prog 4 #[.slice a n c] w fun e w' => e = .returned (.bool true) ∧ Below w.heap.size w w' := by
  obtain ⟨S, D, R, E, f, z, ho⟩ := UOut.some l
  have HI := Lib.hid hI
  have CW := Lib.hid (fun W a n c (h : In W a n c l) hn => unwrap_t ho a n c W h hn)
  have CR := Lib.hid (fun W (h : In W a n c l) => refUnw_t ho a n c W h (by omega))
  have CI := Lib.hid (fun W a n c (h : In W a n c l) hn => is_t ho.z a n c W h hn)
  have CN := Lib.hid (fun W => num_uout ho W)
  have HFR := Lib.hid (ho.fit hI.fit)
  have HFL := Lib.hid hI.fit
  have HLN := Lib.hid hI.len
  have HL15 := Lib.hid (uout_len ho)
  have HN := Lib.hid hn
  have tz := ho.fz
  have tS : (S == S) = true := by simp
  have tD : (D == D) = true := by simp
  clear hI ho hn
  go_enter Try.func4, Try.ntmps4
  go_wp2_with fail
  refine (alive5_any w).mono ?_
  rintro e w1 ⟨rfl, hb⟩
  have HB1 := Lib.hid hb
  have HI1 := Lib.hid (HI.out.below hb)
  clear hb
  go_wp2_with fail
  refine (copy_any l a n c w1 HI1.out HN.out).mono ?_
  rintro e w2 ⟨g, rfl, hO, hb⟩
  have HB2 := Lib.hid (bl_tr HB1.out hb)
  have HI2 := Lib.hid (HI1.out.below hb)
  have HO := Lib.hid hO
  have HG2 := Lib.hid (own_marks hO HLN.out HFL.out)
  have HM2 := Lib.hid (hO.marked HLN.out)
  have HS1 : Hid (w1.heap.size ≤ w2.heap.size) := Lib.hid hb.size
  have HS0 : Hid (w.heap.size ≤ w1.heap.size) := Lib.hid HB1.out.size
  clear hO hb HI1 HB1
  go_wp2_with fail
  refine (CW.out w2 (some ⟨g, 0, none⟩) n (n + 2) HG2.out (by have := HN.out; omega)).mono ?_
  rintro e w3 ⟨a3, k3, c3, rfl, hk, hown, hb⟩
  have HB3 := Lib.hid (bl_tr HB2.out hb)
  have HI3 := Lib.hid (HI2.out.below hb)
  have HM3 := Lib.hid (HM2.out.below hb)
  have HG3 := Lib.hid (HG2.out.below hb)
  have HR3 := Lib.hid (own_in hown hk.symm HFR.out)
  have HOR := Lib.hid hown
  have HK := Lib.hid hk
  have HX23 := Lib.hid hb
  clear hown hb hk HI2 HB2 HM2 HG2 CW
  go_wp2_with fail
  refine (CR.out w3 HI3.out).mono ?_
  rintro e w4 ⟨a4, k4, c4, rfl, hk, hown, hb⟩
  have HB4 := Lib.hid (bl_tr HB3.out hb)
  have HI4 := Lib.hid (HI3.out.below hb)
  have HM4 := Lib.hid (HM3.out.below hb)
  have HG4 := Lib.hid (HG3.out.below hb)
  have hR4 := HR3.out.below hb
  have hQ4 := own_in hown hk.symm HFR.out
  have sA := str_of hR4.here hR4.len
  have sB := str_of hQ4.here hQ4.len
  obtain ⟨t, ht⟩ : ∃ t, t = strOfNums R := ⟨_, rfl⟩
  rw [← ht] at sA sB
  have st : (t.toList == t.toList) = true := by simp
  have tf : (f == f) = true := by simp
  have HX24 := Lib.hid (bl_tr HX23.out hb)
  have HX34 : Hid (Below w3.heap.size w3 w4) := Lib.hid hb
  clear hown hb hk ht hR4 hQ4 HI3 HB3 HM3 HR3 HX23 HG3 CR
  go_wp2_with fail
  refine (CN.out _).mono ?_
  rintro e w' ⟨rfl, rfl⟩
  go_wp2_with fail
  refine (CI.out w4 (some ⟨g, 0, none⟩) n (n + 2) HG4.out (by have := HN.out; omega)).mono ?_
  rintro e w5 ⟨rfl, hb⟩
  have HB5 := Lib.hid (bl_tr HB4.out hb)
  have HI5 := Lib.hid (HI4.out.below hb)
  have HM5 := Lib.hid (HM4.out.below hb)
  have HX25 := Lib.hid (bl_tr HX24.out hb)
  have HX35 := Lib.hid (bl_tr HX34.out hb)
  clear hb sA sB HI4 HM4 HB4 HG4 HX24 HX34 CI
  go_wp2_with fail
  refine (kept_any l a n c g w5 HI5.out HM5.out HN.out).mono ?_
  rintro e w6 ⟨rfl, hb⟩
  have HB6 := Lib.hid (bl_tr HB5.out hb)
  have CA := Lib.hid (apart_two (w3 := w6) HO.out HLN.out HOR.out HK.out (bl_tr HX25.out hb) (bl_tr HX35.out hb) HS1.out HN.out (by have := HL15.out; have := HK.out; omega))
  clear hb HI5 HM5 HB5
  go_wp2_with fail
  refine CA.out.mono ?_
  rintro e w7 ⟨rfl, hb⟩
  have HB7 := Lib.hid ((bl_al HB6.out (.cells #[.slice a3 k3 c3, .slice (some ⟨g, 0, none⟩) n (n + 2)] 24)).trans (hb.mono HS0.out))
  clear hb CA
  go_wp2
  go_ret
  exact ⟨rfl, HB7.out⟩
end Go.Proofs.Ytfbmeoiaedlgoaa
