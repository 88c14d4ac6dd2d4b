/- VoteReads's walk. Conditions: those stated. -/
import Derived.Test.YtndgdijiecgagaaVvC
import Derived.Test.YtndgdijiecgagaaVpN
import Derived.Test.YtndgdijiecgagaaVgB
import Derived.Test.YtndgdijiecgagaaVdL
import Derived.Test.YtndgdijiecgagaaVhD
namespace Go.Proofs.Ytndgdijiecgagaa
open Go Go.RowKit
set_option linter.unusedVariables false
set_option linter.unusedSimpArgs false

set_option maxRecDepth 100000 in
set_option maxHeartbeats 8000000 in
theorem voteReads_t (b : List Int) (a : Option Addr) (n c : Nat) (w : World) (hI : In w a n c b) (hn : n ≤ 4611686018427387904) :
    Calls Try.prog 4 #[.slice a n c] w fun e w' => e = .returned (.bool true) ∧ Below w.heap.size w w' := by
  have HI := Lib.hid hI
  have CA := Lib.hid (alive_c w)
  have HF := Lib.hid hI.fit
  clear hI
  go_enter Try.func4, Try.ntmps4
  go_wp2_with fail
  refine CA.out.mono ?_
  rintro e w1 ⟨rfl, hb1⟩
  have HB1 := Lib.hid hb1
  clear hb1 CA
  by_cases hbig : 8192 < n
  · have gb : (8192 : Int) < (n : Int) := by omega
    go_wp2
    go_ret
    exact ⟨rfl, HB1.out⟩
  · have gb : ¬ (8192 : Int) < (n : Int) := by omega
    have CC := Lib.hid (copy_any b a n c w1 (HI.out.below HB1.out) (by omega))
    go_wp2_with fail
    refine CC.out.mono ?_
    rintro e w2 ⟨g, rfl, hO, hb2⟩
    have HB2 := Lib.hid (bl_tr HB1.out hb2)
    have HM2 := Lib.hid (hO.marked HI.out.len)
    have hI2 : In w2 (some ⟨g, 0, none⟩) n (n + 2) b := ⟨HI.out.len, by omega, fun h => (by cases h), HM2.out.at HI.out.len, HF.out⟩
    have CR := Lib.hid (read_log b (some ⟨g, 0, none⟩) n (n + 2) w2 hI2 (by omega))
    clear hO hb2 hI2 CC gb hbig
    go_wp2_with fail
    refine CR.out.mono ?_
    intro e w3 hR
    have HB23 := Lib.hid hR.bel
    have HB3 := Lib.hid (bl_tr HB2.out hR.bel)
    have HM3 := Lib.hid (HM2.out.below hR.bel)
    have CD := Lib.hid (readR_c b a n c w3 (HI.out.below HB3.out) (by omega))
    by_cases hL : IsLog b
    · obtain ⟨ar, cr, vr, rfl, hOr⟩ := hR.yes hL
      have HT := Lib.hid (decL_ty HF.out)
      have HIr := Lib.hid (hOr.in HT.out)
      have HLL := Lib.hid hL
      clear hR hOr CR HM2 HB2
      obtain ⟨k, hk⟩ : ∃ k, k = (decL b).length := ⟨_, rfl⟩
      rw [← hk] at HIr ⊢
      have HK := Lib.hid hk
      have hk256 : k ≤ 256 := by rw [hk]; exact decL_len b
      clear hk hL
      go_wp2_with fail
      refine CD.out.mono ?_
      intro e w4 hD
      obtain ⟨am, cm, vm, rfl, hOm⟩ := hD.yes HLL.out
      have hIm := hOm.in HT.out
      rw [← HK.out] at hIm ⊢
      have HIm := Lib.hid hIm
      have HIr4 := Lib.hid (HIr.out.below hD.bel)
      have HB4 := Lib.hid (bl_tr HB3.out hD.bel)
      have HM4 := Lib.hid (HM3.out.below hD.bel)
      have HES := Lib.hid (fun (x : Cm) (hx : x ∈ decL b) => goodC_es (HLL.out.1.2.1 x hx))
      have CS := Lib.hid (sameR_c (decL b) vr vm ar am k cr cm w4 HIr4.out HIm.out (by omega) (fun x hx => Nat.le_trans (HES.out x hx) (by decide)))
      clear hD hOm hIm CD HIr HB3 HM3 HB23
      go_wp2_with fail
      refine CS.out.mono ?_
      rintro e w5 ⟨rfl, hb5⟩
      have HIr5 := Lib.hid (HIr4.out.below hb5)
      have HB5 := Lib.hid (bl_tr HB4.out hb5)
      have HM5 := Lib.hid (HM4.out.below hb5)
      have CN := Lib.hid (num13_t 0 (.inl rfl) w5)
      rw [show errF 0 = Value.nilIface from rfl] at CN
      clear hb5 CS HIr4 HIm HB4 HM4
      go_wp2_with fail
      refine CN.out.mono ?_
      rintro e w6 ⟨rfl, rfl⟩
      have CK := Lib.hid (kept_any b a n c g w5 (HI.out.below HB5.out) HM5.out (by omega))
      clear CN
      go_wp2_with fail
      refine CK.out.mono ?_
      rintro e w7 ⟨rfl, hb7⟩
      have HIr7 := Lib.hid (HIr5.out.below hb7)
      have HB7 := Lib.hid (bl_tr HB5.out hb7)
      have CW := Lib.hid (wr_c (decL b) vr ar k cr w7 HIr7.out (by omega))
      have qn := nilNe
      clear hb7 CK HIr5 HB5 HM5
      go_wp2_with fail
      refine CW.out.mono ?_
      intro e w8 hW
      obtain ⟨ab, cb, rfl, hOb⟩ := hW.yes HLL.out.1
      rw [HLL.out.2] at hOb ⊢
      have hIb := own_in hOb rfl HF.out
      have hI8 := HI.out.below (bl_tr HB7.out hW.bel)
      have sA := str_of hIb.here hIb.len
      have sB := str_of hI8.here hI8.len
      obtain ⟨s, hs⟩ : ∃ s, s = strOfNums b := ⟨_, rfl⟩
      rw [← hs] at sA sB
      have ss : (s.toList == s.toList) = true := by simp
      have HB8 := Lib.hid (bl_tr HB7.out hW.bel)
      have qe := nilEl
      clear hW hOb hIb hI8 hs CW HIr7 HB7
      go_wp2
      go_ret
      exact ⟨rfl, HB8.out⟩
    · have e0 := hR.no hL
      subst e0
      have HLL := Lib.hid hL
      clear hR CR HM2 HB2 hL
      go_wp2_with fail
      refine CD.out.mono ?_
      intro e w4 hD
      have e0 := hD.no HLL.out
      subst e0
      have HB4 := Lib.hid (bl_tr HB3.out hD.bel)
      have HM4 := Lib.hid (HM3.out.below hD.bel)
      have CS := Lib.hid (sameR_c [] [] [] none none 0 0 0 w4 (inC_nil w4) (inC_nil w4) (by decide) (fun x hx => by cases hx))
      clear hD CD HB3 HM3 HB23
      go_wp2_with fail
      refine CS.out.mono ?_
      rintro e w5 ⟨rfl, hb5⟩
      have HB5 := Lib.hid (bl_tr HB4.out hb5)
      have HM5 := Lib.hid (HM4.out.below hb5)
      have CN := Lib.hid (num3_t w5)
      clear hb5 CS HB4 HM4
      go_wp2_with fail
      refine CN.out.mono ?_
      rintro e w6 ⟨rfl, rfl⟩
      have CK := Lib.hid (kept_any b a n c g w5 (HI.out.below HB5.out) HM5.out (by omega))
      clear CN
      go_wp2_with fail
      refine CK.out.mono ?_
      rintro e w7 ⟨rfl, hb7⟩
      have HB7 := Lib.hid (bl_tr HB5.out hb7)
      have qn := three_neq
      have qe := fun W => err_eql 3 3 W
      clear hb7 CK HB5 HM5
      go_wp2
      go_ret
      exact ⟨rfl, HB7.out⟩
end Go.Proofs.Ytndgdijiecgagaa
