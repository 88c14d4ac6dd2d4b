/- Contract of TunnelWraps: true. Conditions: the row came in, of at most 2^47 - 4096 bytes; the addresses are of 32 bits. -/
import Derived.Test.YtfbmeoiaedlgoaaTunF
namespace Go.Proofs.Ytfbmeoiaedlgoaa
open Go Go.RowKit
set_option linter.unusedVariables false
set_option linter.unusedSimpArgs false

theorem wout_len {l : List Int} {s d : Int} {R : List Int} {E : Value} {f : Int} (h : WOut l s d R E f) : R.length ≤ 1500 := by
  rcases h with ⟨_, h, rfl, _⟩ | ⟨_, _, rfl, _⟩ | ⟨_, rfl, _⟩
  · rw [wrp_len]; omega
  · decide
  · decide
set_option maxRecDepth 100000 in
set_option maxHeartbeats 1000000 in
theorem wraps_any (s d : Int) (a : Option Addr) (n c : Nat) (l : List Int) (w : World) (hI : In w a n c l) (hs : 0 ≤ s ∧ s < 4294967296) (hd : 0 ≤ d ∧ d < 4294967296) (hn : n ≤ 140737488351232) :
    Calls Try.prog 3 #[.int .u32 s, .int .u32 d, .slice a n c] w fun e w' => e = .returned (.bool true) ∧ Below w.heap.size w w' := by
  obtain ⟨R, E, f, ho⟩ := WOut.some l s d
  have HI := Lib.hid hI
  have CW := Lib.hid (fun W a n c (h : In W a n c l) hn => wrap_t ho hs hd a n c W h hn)
  have CR := Lib.hid (fun W (h : In W a n c l) => refWrap_t ho hs hd a n c W h (by omega))
  have CN := Lib.hid (fun W => num_wout ho W)
  have HFR := Lib.hid (fit_wout ho hI.fit)
  have HFL := Lib.hid hI.fit
  have HLN := Lib.hid hI.len
  have HL15 := Lib.hid (wout_len ho)
  have HN := Lib.hid hn
  clear hI hs hd ho hn
  go_enter Try.func3, Try.ntmps3
  go_wp2_with fail
  refine (alive5_any w).mono ?_
  rintro e w1 ⟨rfl, hb⟩
  have HB1 := Lib.hid hb
  have HI1 := Lib.hid (HI.out.below hb)
  clear hb
  go_wp2_with fail
  refine (copy_any l a n c w1 HI1.out HN.out).mono ?_
  rintro e w2 ⟨g, rfl, hO, hb⟩
  have HB2 := Lib.hid (bl_tr HB1.out hb)
  have HI2 := Lib.hid (HI1.out.below hb)
  have HO := Lib.hid hO
  have HG2 := Lib.hid (own_marks hO HLN.out HFL.out)
  have HM2 := Lib.hid (hO.marked HLN.out)
  have HS1 : Hid (w1.heap.size ≤ w2.heap.size) := Lib.hid hb.size
  have HS0 : Hid (w.heap.size ≤ w1.heap.size) := Lib.hid HB1.out.size
  clear hO hb HI1 HB1
  go_wp2_with fail
  refine (CW.out w2 (some ⟨g, 0, none⟩) n (n + 2) HG2.out (by have := HN.out; omega)).mono ?_
  rintro e w3 ⟨a3, k3, c3, rfl, hk, hown, hb⟩
  have HB3 := Lib.hid (bl_tr HB2.out hb)
  have HI3 := Lib.hid (HI2.out.below hb)
  have HM3 := Lib.hid (HM2.out.below hb)
  have HR3 := Lib.hid (own_in hown hk.symm HFR.out)
  have HOR := Lib.hid hown
  have HK := Lib.hid hk
  have HX23 := Lib.hid hb
  clear hown hb hk HI2 HB2 HM2 HG2 CW
  go_wp2_with fail
  refine (CR.out w3 HI3.out).mono ?_
  rintro e w4 ⟨a4, k4, c4, rfl, hk, hown, hb⟩
  have HB4 := Lib.hid (bl_tr HB3.out hb)
  have HI4 := Lib.hid (HI3.out.below hb)
  have HM4 := Lib.hid (HM3.out.below hb)
  have hR4 := HR3.out.below hb
  have hQ4 := own_in hown hk.symm HFR.out
  have sA := str_of hR4.here hR4.len
  have sB := str_of hQ4.here hQ4.len
  obtain ⟨t, ht⟩ : ∃ t, t = strOfNums R := ⟨_, rfl⟩
  rw [← ht] at sA sB
  have st : (t.toList == t.toList) = true := by simp
  have tf : (f == f) = true := by simp
  have HX24 := Lib.hid (bl_tr HX23.out hb)
  have HX34 : Hid (Below w3.heap.size w3 w4) := Lib.hid hb
  clear hown hb hk ht hR4 hQ4 HI3 HB3 HM3 HR3 HX23 CR
  go_wp2_with fail
  refine (CN.out _).mono ?_
  rintro e w' ⟨rfl, rfl⟩
  go_wp2_with fail
  refine (kept_any l a n c g w4 HI4.out HM4.out HN.out).mono ?_
  rintro e w5 ⟨rfl, hb⟩
  have HB5 := Lib.hid (bl_tr HB4.out hb)
  have CA := Lib.hid (apart_two (w3 := w5) HO.out HLN.out HOR.out HK.out (bl_tr HX24.out hb) (bl_tr HX34.out hb) HS1.out HN.out (by have := HL15.out; have := HK.out; omega))
  clear hb sA sB HI4 HM4 HB4
  go_wp2_with fail
  refine CA.out.mono ?_
  rintro e w6 ⟨rfl, hb⟩
  have HB6 := Lib.hid ((bl_al HB5.out (.cells #[.slice a3 k3 c3, .slice (some ⟨g, 0, none⟩) n (n + 2)] 24)).trans (hb.mono HS0.out))
  clear hb CA
  go_wp2
  go_ret
  exact ⟨rfl, HB6.out⟩
end Go.Proofs.Ytfbmeoiaedlgoaa
