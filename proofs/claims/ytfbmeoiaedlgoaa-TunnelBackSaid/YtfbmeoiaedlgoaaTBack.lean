/- Contract of TunnelBack: true. Conditions: the row came in, of at most 2^62 bytes; the addresses are of 32 bits. -/
import Derived.Test.YtfbmeoiaedlgoaaTunF
namespace Go.Proofs.Ytfbmeoiaedlgoaa
open Go Go.RowKit
set_option linter.unusedVariables false
set_option linter.unusedSimpArgs false

set_option maxRecDepth 100000 in
set_option maxHeartbeats 1000000 in
theorem backW_short (s d : Int) (a : Option Addr) (n c : Nat) (l : List Int) (w : World) (hI : In w a n c l) (hs : 0 ≤ s ∧ s < 4294967296) (hd : 0 ≤ d ∧ d < 4294967296) (hn : n ≤ 4611686018427387904) (hi : Is l) (hle : l.length ≤ 1480) :
    Calls Try.prog 5 #[.int .u32 s, .int .u32 d, .slice a n c] w fun e w' => e = .returned (.bool true) ∧ Below w.heap.size w w' := by
  have HI := Lib.hid hI
  have hfl := hI.fit
  have hw : IsW (wrp s d l) := IsW.of hs hd hi hle
  have CF := Lib.hid (fun W (h : In W a n c l) => flow_t (.inl ⟨hi, rfl, rfl, rfl, rfl⟩) a n c W h hn)
  have CI := Lib.hid (fun W (h : In W a n c l) => is_t (z := false) (by simp; exact fun h => h.not hi) a n c W h hn)
  have CW := Lib.hid (fun W (h : In W a n c l) => wrap_t (.inl ⟨hi, hle, rfl, rfl, rfl⟩) hs hd a n c W h hn)
  have CU := Lib.hid (fun W (h : In W a n c l) => unwrap_t (l := l) (.inr ⟨fun h => h.not hi, rfl, rfl, rfl, rfl, rfl, rfl⟩) a n c W h hn)
  have hwl : (wrp s d l).length = 20 + l.length := wrp_len s d l
  have CV := Lib.hid (fun W a k c (hk : k ≤ 1500) (h : In W a k c (wrp s d l)) => unwrap_t (l := wrp s d l) (S := s) (D := d) (R := l) (.inl ⟨hw, (wrp_src d l hs).symm, (wrp_dst s l hd).symm, rfl, rfl, rfl, rfl⟩) a k c W h (by omega))
  have CG := Lib.hid (fun W a k c (hk : k ≤ 1500) (h : In W a k c (wrp s d l)) => flow_t (l := wrp s d l) (.inr ⟨hw.not, rfl, rfl, rfl, rfl⟩) a k c W h (by omega))
  have HFR := Lib.hid (fit_wrp (s := s) (d := d) hfl)
  have HFL := Lib.hid hfl
  have HL15 : Hid ((wrp s d l).length ≤ 1500) := Lib.hid (by omega)
  obtain ⟨p, hp⟩ : ∃ p, p = dec l := ⟨_, rfl⟩
  rw [← hp] at CF
  obtain ⟨r, hr⟩ : ∃ r, r = wrp s d l := ⟨_, rfl⟩
  rw [← hr] at CW CV CG HFR HL15
  have tS : (s != s) = false := by simp
  have tD : (d != d) = false := by simp
  clear hI hs hd hi hle hn hw hfl hp hr hwl
  go_enter Try.func5, Try.ntmps5
  go_wp2_with fail
  refine (alive5_any w).mono ?_
  rintro e w1 ⟨rfl, hb⟩
  have HB1 := Lib.hid hb
  have HI1 := Lib.hid (HI.out.below hb)
  clear hb
  go_wp2_with fail
  refine (CF.out w1 HI1.out).mono ?_
  rintro e w2 ⟨rfl, hb⟩
  have HB2 := Lib.hid (bl_al (bl_tr HB1.out hb) p.fobj)
  have HI2 := Lib.hid (HI1.out.below (bl_al hb p.fobj))
  obtain ⟨X2, hX2⟩ : ∃ X, X = w2.alloc p.fobj := ⟨_, rfl⟩
  obtain ⟨q2, hq2⟩ : ∃ q, q = w2.heap.size := ⟨_, rfl⟩
  rw [← hX2] at HB2 HI2
  have HX2 := Lib.hid hX2
  have HQ2 := Lib.hid hq2
  clear hb HB1 HI1 CF hX2 hq2
  go_wp2_with fail
  rw [← HX2.out]
  refine (CI.out X2 HI2.out).mono ?_
  rintro e w3 ⟨rfl, hb⟩
  have HB3 := Lib.hid (bl_tr HB2.out hb)
  have HI3 := Lib.hid (HI2.out.below hb)
  clear hb HB2 HI2 CI HX2 HQ2
  go_wp2_with fail
  refine (CW.out w3 HI3.out).mono ?_
  rintro e w4 ⟨a4, k4, c4, rfl, hk, hown, hb⟩
  have HB4 := Lib.hid (bl_tr HB3.out hb)
  have HI4 := Lib.hid (HI3.out.below hb)
  have HR4 := Lib.hid (own_in hown hk.symm HFR.out)
  have HK : Hid (k4 ≤ 1500) := Lib.hid (by rw [hk]; exact HL15.out)
  clear hb hk hown HB3 HI3 CW HL15
  go_wp2_with fail
  refine (CV.out w4 a4 k4 c4 HK.out HR4.out).mono ?_
  rintro e w5 ⟨a5, k5, c5, rfl, hk, hown, hb⟩
  have HB5 := Lib.hid (bl_tr HB4.out hb)
  have HI5 := Lib.hid (HI4.out.below hb)
  have HR5 := Lib.hid (HR4.out.below hb)
  have HL5 := Lib.hid (own_in hown hk.symm HFL.out)
  clear hb hk hown HB4 HI4 HR4 CV
  go_wp2_with fail
  refine (CG.out w5 a4 k4 c4 HK.out HR5.out).mono ?_
  rintro e w6 ⟨rfl, hb⟩
  have HB6 := Lib.hid (bl_al (bl_tr HB5.out hb) zeroP.fobj)
  have HI6 := Lib.hid (HI5.out.below (bl_al hb zeroP.fobj))
  have HL6 := Lib.hid (HL5.out.below (bl_al hb zeroP.fobj))
  obtain ⟨X6, hX6⟩ : ∃ X, X = w6.alloc zeroP.fobj := ⟨_, rfl⟩
  rw [← hX6] at HB6 HI6 HL6
  have HX6 := Lib.hid hX6
  clear hb HB5 HI5 HR5 HL5 CG hX6
  have sA := str_of HL6.out.here HL6.out.len
  have sB := str_of HI6.out.here HI6.out.len
  obtain ⟨t, ht⟩ : ∃ t, t = strOfNums l := ⟨_, rfl⟩
  rw [← ht] at sA sB
  have st : (t.toList != t.toList) = false := by simp
  clear ht HL6
  go_upto_region 10 with fail
  rw [← HX6.out]
  clear HX6
  go_wp2_with fail
  refine (CU.out X6 HI6.out).mono ?_
  rintro e w9 ⟨a9, k9, c9, rfl, hk, hown, hb⟩
  obtain rfl : k9 = 0 := hk
  have HB9 := Lib.hid (bl_tr HB6.out hb)
  clear hb hown HB6 HI6 CU
  have s2 := same_two
  go_wp2
  go_ret
  exact ⟨rfl, HB9.out⟩

set_option maxRecDepth 100000 in
set_option maxHeartbeats 1000000 in
theorem backW_long (s d : Int) (a : Option Addr) (n c : Nat) (l : List Int) (w : World) (hI : In w a n c l) (hs : 0 ≤ s ∧ s < 4294967296) (hd : 0 ≤ d ∧ d < 4294967296) (hn : n ≤ 4611686018427387904) (hi : Is l) (hle : 1480 < l.length) :
    Calls Try.prog 5 #[.int .u32 s, .int .u32 d, .slice a n c] w fun e w' => e = .returned (.bool true) ∧ Below w.heap.size w w' := by
  have HI := Lib.hid hI
  have CF := Lib.hid (fun W (h : In W a n c l) => flow_t (.inl ⟨hi, rfl, rfl, rfl, rfl⟩) a n c W h hn)
  have CI := Lib.hid (fun W (h : In W a n c l) => is_t (z := false) (by simp; exact fun h => h.not hi) a n c W h hn)
  have CW := Lib.hid (fun W (h : In W a n c l) => wrap_t (.inr (.inl ⟨hi, hle, rfl, rfl, rfl⟩)) hs hd a n c W h hn)
  have CU := Lib.hid (fun W (h : In W a n c l) => unwrap_t (l := l) (.inr ⟨fun h => h.not hi, rfl, rfl, rfl, rfl, rfl, rfl⟩) a n c W h hn)
  obtain ⟨p, hp⟩ : ∃ p, p = dec l := ⟨_, rfl⟩
  rw [← hp] at CF
  clear hI hs hd hi hle hn hp
  go_enter Try.func5, Try.ntmps5
  go_wp2_with fail
  refine (alive5_any w).mono ?_
  rintro e w1 ⟨rfl, hb⟩
  have HB1 := Lib.hid hb
  have HI1 := Lib.hid (HI.out.below hb)
  clear hb
  go_wp2_with fail
  refine (CF.out w1 HI1.out).mono ?_
  rintro e w2 ⟨rfl, hb⟩
  have HB2 := Lib.hid (bl_al (bl_tr HB1.out hb) p.fobj)
  have HI2 := Lib.hid (HI1.out.below (bl_al hb p.fobj))
  obtain ⟨X2, hX2⟩ : ∃ X, X = w2.alloc p.fobj := ⟨_, rfl⟩
  obtain ⟨q2, hq2⟩ : ∃ q, q = w2.heap.size := ⟨_, rfl⟩
  rw [← hX2] at HB2 HI2
  have HX2 := Lib.hid hX2
  have HQ2 := Lib.hid hq2
  clear hb HB1 HI1 CF hX2 hq2
  go_wp2_with fail
  rw [← HX2.out]
  refine (CI.out X2 HI2.out).mono ?_
  rintro e w3 ⟨rfl, hb⟩
  have HB3 := Lib.hid (bl_tr HB2.out hb)
  have HI3 := Lib.hid (HI2.out.below hb)
  clear hb HB2 HI2 CI HX2 HQ2
  go_wp2_with fail
  refine (CW.out w3 HI3.out).mono ?_
  rintro e w4 ⟨a4, k4, c4, rfl, hk, hown, hb⟩
  have HB4 := Lib.hid (bl_tr HB3.out hb)
  have HI4 := Lib.hid (HI3.out.below hb)
  clear hb hk hown HB3 HI3 CW
  go_wp2_with fail
  refine (CU.out w4 HI4.out).mono ?_
  rintro e w9 ⟨a9, k9, c9, rfl, hk, hown, hb⟩
  obtain rfl : k9 = 0 := hk
  have HB9 := Lib.hid (bl_tr HB4.out hb)
  clear hb hown HB4 HI4 CU
  have s2 := same_two
  go_wp2
  go_ret
  exact ⟨rfl, HB9.out⟩

set_option maxRecDepth 100000 in
set_option maxHeartbeats 1000000 in
theorem backW_none (s d : Int) (a : Option Addr) (n c : Nat) (l : List Int) (w : World) (hI : In w a n c l) (hs : 0 ≤ s ∧ s < 4294967296) (hd : 0 ≤ d ∧ d < 4294967296) (hn : n ≤ 4611686018427387904) (hi : ¬ Is l) (hw : ¬ IsW l) :
    Calls Try.prog 5 #[.int .u32 s, .int .u32 d, .slice a n c] w fun e w' => e = .returned (.bool true) ∧ Below w.heap.size w w' := by
  have HI := Lib.hid hI
  have CF := Lib.hid (fun W (h : In W a n c l) => flow_t (.inr ⟨hi, rfl, rfl, rfl, rfl⟩) a n c W h hn)
  have CW := Lib.hid (fun W (h : In W a n c l) => wrap_t (.inr (.inr ⟨hi, rfl, rfl, rfl⟩)) hs hd a n c W h hn)
  have CU := Lib.hid (fun W (h : In W a n c l) => unwrap_t (l := l) (.inr ⟨hw, rfl, rfl, rfl, rfl, rfl, rfl⟩) a n c W h hn)
  obtain ⟨p, hp⟩ : ∃ p, p = zeroP := ⟨_, rfl⟩
  rw [← hp] at CF
  clear hI hs hd hi hw hn hp
  go_enter Try.func5, Try.ntmps5
  go_wp2_with fail
  refine (alive5_any w).mono ?_
  rintro e w1 ⟨rfl, hb⟩
  have HB1 := Lib.hid hb
  have HI1 := Lib.hid (HI.out.below hb)
  clear hb
  go_wp2_with fail
  refine (CF.out w1 HI1.out).mono ?_
  rintro e w2 ⟨rfl, hb⟩
  have HB2 := Lib.hid (bl_al (bl_tr HB1.out hb) p.fobj)
  have HI2 := Lib.hid (HI1.out.below (bl_al hb p.fobj))
  obtain ⟨X2, hX2⟩ : ∃ X, X = w2.alloc p.fobj := ⟨_, rfl⟩
  obtain ⟨q2, hq2⟩ : ∃ q, q = w2.heap.size := ⟨_, rfl⟩
  rw [← hX2] at HB2 HI2
  have HX2 := Lib.hid hX2
  have HQ2 := Lib.hid hq2
  clear hb HB1 HI1 CF hX2 hq2
  go_wp2_with fail
  rw [← HX2.out]
  refine (CW.out X2 HI2.out).mono ?_
  rintro e w4 ⟨a4, k4, c4, rfl, hk, hown, hb⟩
  have HB4 := Lib.hid (bl_tr HB2.out hb)
  have HI4 := Lib.hid (HI2.out.below hb)
  clear hb hk hown HB2 HI2 CW HX2 HQ2
  go_wp2_with fail
  refine (CU.out w4 HI4.out).mono ?_
  rintro e w9 ⟨a9, k9, c9, rfl, hk, hown, hb⟩
  obtain rfl : k9 = 0 := hk
  have HB9 := Lib.hid (bl_tr HB4.out hb)
  clear hb hown HB4 HI4 CU
  have s2 := same_two
  go_wp2
  go_ret
  exact ⟨rfl, HB9.out⟩

set_option maxRecDepth 100000 in
set_option maxHeartbeats 1000000 in
theorem backW_wrapped (s d : Int) (a : Option Addr) (n c : Nat) (l : List Int) (w : World) (hI : In w a n c l) (hs : 0 ≤ s ∧ s < 4294967296) (hd : 0 ≤ d ∧ d < 4294967296) (hn : n ≤ 4611686018427387904) (hi : ¬ Is l) (hw : IsW l) :
    Calls Try.prog 5 #[.int .u32 s, .int .u32 d, .slice a n c] w fun e w' => e = .returned (.bool true) ∧ Below w.heap.size w w' := by
  have HI := Lib.hid hI
  have CF := Lib.hid (fun W (h : In W a n c l) => flow_t (.inr ⟨hi, rfl, rfl, rfl, rfl⟩) a n c W h hn)
  have CW := Lib.hid (fun W (h : In W a n c l) => wrap_t (.inr (.inr ⟨hi, rfl, rfl, rfl⟩)) hs hd a n c W h hn)
  have CU := Lib.hid (fun W (h : In W a n c l) => unwrap_t (l := l) (.inl ⟨hw, rfl, rfl, rfl, rfl, rfl, rfl⟩) a n c W h hn)
  have h15 := hw.2.1
  have CV := Lib.hid (fun W a k c (hk : k ≤ 1500) (h : In W a k c (l.drop 20)) => wrap_t (l := l.drop 20) (s := n4 l 12) (d := n4 l 16) (R := l) (.inl ⟨hw.1, by rw [List.length_drop]; omega, hw.2.2.symm, rfl, rfl⟩) (n4_fit hI.fit 12) (n4_fit hI.fit 16) a k c W h (by omega))
  have HFD : Hid (fit (l.drop 20)) := Lib.hid (fun x hx => hI.fit x (List.mem_of_mem_drop hx))
  have HFL := Lib.hid hI.fit
  have HLD : Hid ((l.drop 20).length ≤ 1500) := Lib.hid (by rw [List.length_drop]; omega)
  obtain ⟨S, hS⟩ : ∃ S, S = n4 l 12 := ⟨_, rfl⟩
  obtain ⟨D, hD⟩ : ∃ D, D = n4 l 16 := ⟨_, rfl⟩
  obtain ⟨m, hm⟩ : ∃ m, m = l.drop 20 := ⟨_, rfl⟩
  rw [← hS, ← hD, ← hm] at CU CV
  rw [← hm] at HFD HLD
  clear h15 hS hD hm
  obtain ⟨p, hp⟩ : ∃ p, p = zeroP := ⟨_, rfl⟩
  rw [← hp] at CF
  clear hI hs hd hi hw hn hp
  go_enter Try.func5, Try.ntmps5
  go_wp2_with fail
  refine (alive5_any w).mono ?_
  rintro e w1 ⟨rfl, hb⟩
  have HB1 := Lib.hid hb
  have HI1 := Lib.hid (HI.out.below hb)
  clear hb
  go_wp2_with fail
  refine (CF.out w1 HI1.out).mono ?_
  rintro e w2 ⟨rfl, hb⟩
  have HB2 := Lib.hid (bl_al (bl_tr HB1.out hb) p.fobj)
  have HI2 := Lib.hid (HI1.out.below (bl_al hb p.fobj))
  obtain ⟨X2, hX2⟩ : ∃ X, X = w2.alloc p.fobj := ⟨_, rfl⟩
  obtain ⟨q2, hq2⟩ : ∃ q, q = w2.heap.size := ⟨_, rfl⟩
  rw [← hX2] at HB2 HI2
  have HX2 := Lib.hid hX2
  have HQ2 := Lib.hid hq2
  clear hb HB1 HI1 CF hX2 hq2
  go_wp2_with fail
  rw [← HX2.out]
  refine (CW.out X2 HI2.out).mono ?_
  rintro e w4 ⟨a4, k4, c4, rfl, hk, hown, hb⟩
  have HB4 := Lib.hid (bl_tr HB2.out hb)
  have HI4 := Lib.hid (HI2.out.below hb)
  clear hb hk hown HB2 HI2 CW HX2 HQ2
  go_wp2_with fail
  refine (CU.out w4 HI4.out).mono ?_
  rintro e w5 ⟨a5, k5, c5, rfl, hk, hown, hb⟩
  have HB5 := Lib.hid (bl_tr HB4.out hb)
  have HI5 := Lib.hid (HI4.out.below hb)
  have HR5 := Lib.hid (own_in hown hk.symm HFD.out)
  have HK : Hid (k5 ≤ 1500) := Lib.hid (by rw [hk]; exact HLD.out)
  clear hb hk hown HB4 HI4 CU
  go_wp2_with fail
  refine (CV.out w5 a5 k5 c5 HK.out HR5.out).mono ?_
  rintro e w6 ⟨a6, k6, c6, rfl, hk, hown, hb⟩
  have HB6 := Lib.hid (bl_tr HB5.out hb)
  have hI6 := HI5.out.below hb
  have hL6 := own_in hown hk.symm HFL.out
  have sA := str_of hL6.here hL6.len
  have sB := str_of hI6.here hI6.len
  obtain ⟨t, ht⟩ : ∃ t, t = strOfNums l := ⟨_, rfl⟩
  rw [← ht] at sA sB
  have st : (t.toList == t.toList) = true := by simp
  clear ht hb hk hown hI6 hL6 HB5 HI5 HR5 CV
  go_wp2
  go_ret
  exact ⟨rfl, HB6.out⟩

theorem backW_any (s d : Int) (a : Option Addr) (n c : Nat) (l : List Int) (w : World) (hI : In w a n c l) (hs : 0 ≤ s ∧ s < 4294967296) (hd : 0 ≤ d ∧ d < 4294967296) (hn : n ≤ 4611686018427387904) :
    Calls Try.prog 5 #[.int .u32 s, .int .u32 d, .slice a n c] w fun e w' => e = .returned (.bool true) ∧ Below w.heap.size w w' := by
  by_cases hi : Is l
  · by_cases hle : l.length ≤ 1480
    · exact backW_short s d a n c l w hI hs hd hn hi hle
    · exact backW_long s d a n c l w hI hs hd hn hi (by omega)
  · by_cases hw : IsW l
    · exact backW_wrapped s d a n c l w hI hs hd hn hi hw
    · exact backW_none s d a n c l w hI hs hd hn hi hw
end Go.Proofs.Ytfbmeoiaedlgoaa
