/- The program's Grant. Conditions: the list came in; the numbers fit their kinds; the library's table lies as its text lays it. -/
import Derived.Test.YtanajblldlgalaaDoorLwL
namespace Go.Proofs.YtanajblldlgalaaDoor
open Go Go.RowKit
set_option linter.unusedVariables false
set_option linter.unusedSimpArgs false

set_option maxRecDepth 100000 in
set_option maxHeartbeats 4000000 in
theorem grant_c (l : List Ls) (vip dip now : Int) (a : Option Addr) (n c : Nat) (w : World) (hI : InL w a n c l) (hn : n ≤ 1048576) (hv : 0 ≤ vip ∧ vip < 4294967296) (hd : 0 ≤ dip ∧ dip < 4294967296) (hg : Good w) :
    Calls Tryd.prog 11 #[.slice a n c, .int .u32 vip, .int .u32 dip, .int .i64 now] w (OutG w (grantL l vip dip now)) := by
  obtain ⟨W, hW⟩ : ∃ W, W = w.alloc (.cells #[.int .u32 0, .int .i64 0, .int .u32 0, .int .i64 0] tyL) := ⟨_, rfl⟩
  have hb : Below w.heap.size w W := by rw [hW]; exact bl_al (Below.refl _ _) _
  obtain ⟨q, hq⟩ : ∃ q, q = w.heap.size := ⟨_, rfl⟩
  have hx : BxL W q ls0 := by rw [hW, hq]; exact bxL_new w ls0
  have CT := Lib.hid (isTime_c now W)
  have CV := Lib.hid (isVip_c vip hv.1 hv.2 W)
  have CD := Lib.hid (fun W1 => isMachine_c dip hd.1 hd.2 W1)
  have CK := Lib.hid (fun (W1 : World) (h : Below W.heap.size W W1) => check_c l a n c W1 ((hI.below hb).below h) hn)
  have CO := Lib.hid (fun (W1 : World) (h : Below W.heap.size W W1) => of_c l dip now a n c W1 ((hI.below hb).below h) hn)
  have CLA := Lib.hid (fun (W1 : World) (h : Below W.heap.size W W1) (ho : OkL l) => lentAt_c l vip now a n c W1 ((hI.below hb).below h) hn ho)
  have CF := Lib.hid (fun (W1 : World) (h : Below W.heap.size W W1) (Ws : List Nat) (hf : FitW Ws) => free_c Ws W1 hf ((hg.later hb).later h))
  have CL := Lib.hid (fun (W1 : World) (h : Below W.heap.size W W1) (k : Nat) (hk : k < 8064) (hs : l.Pairwise (fun a b => ltL a b = true)) (ht : OkTm now) => lend_c l vip (1024 + 8 * (k : Int)) dip now a n c W1 ((hI.below hb).below h) hn hs ht hv hd (by unfold i64b; omega))
  have HB := Lib.hid hb
  have HX := Lib.hid hx
  have HW := Lib.hid hW
  have HQ : Hid (q = w.heap.size ∧ w.heap.size ≤ q) := Lib.hid ⟨hq, by omega⟩
  clear hW hq hx hb hI hv hd hg
  by_cases qt : OkTm now
  · have HT := Lib.hid qt
    rw [decide_eq_true qt] at CT
    clear qt
    by_cases qv : IsVipA vip
    · have HV := Lib.hid qv
      rw [decide_eq_true qv] at CV
      clear qv
      by_cases qd : IsDip dip
      · have HD := Lib.hid qd
        rw [decide_eq_true qd] at CD
        clear qd
        by_cases qo : OkL l
        · have HO := Lib.hid qo
          rw [if_pos qo] at CK
          clear qo
          have HGr : Hid (grantL l vip dip now = (if 4 ≤ (ofL dip now l).length then ([], ls0, (7 : Int)) else match freeL vip now l with
            | none => ([], ls0, (5 : Int))
            | some k => (withL ⟨vip, 1024 + 8 * (k : Int), dip, now + 64⟩ l, ⟨vip, 1024 + 8 * (k : Int), dip, now + 64⟩, (0 : Int)))) := Lib.hid (by unfold grantL; rw [if_pos ⟨HT.out, HV.out, HD.out, HO.out⟩]; cases freeL vip now l <;> rfl)
          go_enter Tryd.func11, Tryd.ntmps11
          go_upto_region 1 with fail
          rw [show w.alloc (.cells #[.int .u32 0, .int .i64 0, .int .u32 0, .int .i64 0] tyL) = W from HW.out.symm, ← HQ.out.1]
          go_wp2_with fail
          refine CT.out.mono ?_
          rintro e w9 ⟨rfl, rfl⟩
          go_wp2_with fail
          refine CV.out.mono ?_
          rintro e w1 ⟨rfl, hb1⟩
          have HH1 := Lib.hid hb1
          clear hb1 CV
          go_wp2_with fail
          refine (CD.out w1).mono ?_
          rintro e w2 ⟨rfl, hb2⟩
          have HH2 := Lib.hid (bl_tr HH1.out hb2)
          clear hb2 CD
          go_wp2_with fail
          refine (CK.out w2 HH2.out).mono ?_
          rintro e w3 ⟨rfl, hb3⟩
          have HH3 := Lib.hid (bl_tr HH2.out hb3)
          clear hb3 CK
          rw [show errL 0 = Value.nilIface from rfl]
          clear CT
          go_wp2_with fail
          refine (CO.out w3 HH3.out).mono ?_
          rintro e w4 ⟨⟨v, rfl, hK⟩, hb4⟩
          obtain ⟨ao, cc, rfl⟩ := own_form hK
          have HH4 := Lib.hid (bl_tr HH3.out hb4)
          obtain ⟨m, hm⟩ : ∃ m, m = (ofL dip now l).length := ⟨_, rfl⟩
          have HM := Lib.hid hm
          rw [← hm] at HGr ⊢
          clear hb4 hK CO hm
          by_cases q4 : 4 ≤ m
          · have i4 : (4 : Int) ≤ (m : Int) := by omega
            have HB1 := Lib.hid (bl_tr HB.out HH4.out)
            have HX1 := Lib.hid (HX.out.later HH4.out)
            have HE : Hid (grantL l vip dip now = ([], ls0, 7)) := Lib.hid (by rw [HGr.out, if_pos q4])
            obtain ⟨d0, d1, d2, d3⟩ := HX1.out.at
            obtain ⟨f0, f1, f2, f3⟩ := HX1.out.free
            go_wp2
            refine bodyPost_ret (v := .tuple #[.slice none 0 0, ls0.val, errnoL 7]) (by simp [results, Tryd.results11, go_sem, d0, d1, d2, d3, ls0]) rfl ?_
            refine ⟨⟨_, by rw [HE.out]; rfl, ?_⟩, bl_stL HB1.out HQ.out.2 ls0⟩
            rw [HE.out]
            exact pkL_nil _ _
          · have i4 : ¬ (4 : Int) ≤ (m : Int) := by omega
            rw [if_neg q4] at HGr
            go_wp2_with fail
            refine (CLA.out w4 HH4.out HO.out).mono ?_
            rintro e w5 ⟨⟨Ws, rfl, hF, hE⟩, hb5⟩
            have HH5 := Lib.hid (bl_tr HH4.out hb5)
            have HFW := Lib.hid hF
            have HFE := Lib.hid (freeW_is hE)
            clear hb5 hE hF CLA
            go_wp2_with fail
            refine (CF.out w5 HH5.out Ws HFW.out).mono ?_
            rintro e w6 ⟨rfl, hb6⟩
            have HH6 := Lib.hid (bl_tr HH5.out hb6)
            rw [HFE.out]
            obtain ⟨o, ho⟩ : ∃ o, o = freeL vip now l := ⟨_, rfl⟩
            have HFI := Lib.hid ho
            rw [← ho] at HGr ⊢
            clear hb6 CF ho
            cases o with
            | none =>
              rw [show frR none = Value.tuple #[.int .i64 0, .bool false] from rfl]
              have HB1 := Lib.hid (bl_tr HB.out HH6.out)
              have HX1 := Lib.hid (HX.out.later HH6.out)
              have HE : Hid (grantL l vip dip now = ([], ls0, 5)) := Lib.hid (HGr.out)
              obtain ⟨d0, d1, d2, d3⟩ := HX1.out.at
              obtain ⟨f0, f1, f2, f3⟩ := HX1.out.free
              go_wp2
              refine bodyPost_ret (v := .tuple #[.slice none 0 0, ls0.val, errnoL 5]) (by simp [results, Tryd.results11, go_sem, d0, d1, d2, d3, ls0]) rfl ?_
              refine ⟨⟨_, by rw [HE.out]; rfl, ?_⟩, bl_stL HB1.out HQ.out.2 ls0⟩
              rw [HE.out]
              exact pkL_nil _ _
            | some k =>
              have hk := (free_is HFI.out.symm).1
              obtain ⟨f, hf⟩ : ∃ f : Int, f = 1024 + 8 * (k : Int) := ⟨_, rfl⟩
              have CL1 := Lib.hid (CL.out w6 HH6.out k hk HO.out.2 HT.out)
              rw [show frR (some k) = Value.tuple #[.int .i64 (1024 + 8 * (k : Int)), .bool true] from rfl]
              rw [← hf] at CL1 ⊢
              simp only [← hf] at HGr
              clear CL hk hf
              have HB1 := Lib.hid (bl_tr HB.out HH6.out)
              have HX1 := Lib.hid (HX.out.later HH6.out)
              go_wp2_with fail
              refine CL1.out.mono ?_
              rintro e w7 ⟨⟨v, rfl, hK⟩, hb7⟩
              have HB3 := Lib.hid (bl_tr HB1.out hb7)
              have HX3 := Lib.hid (HX1.out.later hb7)
              have HK3 := Lib.hid hK
              have HLQ : Hid (q < w6.heap.size) := Lib.hid HX1.out.lt
              have HLW : Hid (w.heap.size ≤ w6.heap.size) := Lib.hid HB1.out.size
              obtain ⟨T, hT⟩ : ∃ T, T = now + 64 := ⟨_, rfl⟩
              rw [← hT] at HGr HK3 ⊢
              clear hb7 hK CL1 hT
              go_upto_region 9 with fail
              obtain ⟨w8, g, hw8, hg, hA, hb8, hg8⟩ := boxed w7 ⟨vip, f, dip, T⟩
              have HX4 := Lib.hid (HX3.out.later hb8)
              have HB4 := Lib.hid (bl_tr HB3.out hb8)
              have HK4 := Lib.hid (HK3.out.below hb8)
              have HW4 := Lib.hid (And.intro hw8 hg)
              obtain ⟨a0, a1, a2, a3⟩ := hA
              rw [show w7.alloc (.cells #[.int .u32 vip, .int .i64 f, .int .u32 dip, .int .i64 T] tyL) = w8 from HW4.out.1.symm, ← HW4.out.2]
              clear hw8 hg hb8 hg8
              obtain ⟨d0, d1, d2, d3⟩ := HX4.out.at
              obtain ⟨f0, f1, f2, f3⟩ := HX4.out.free
              go_region
              have HR : Hid (PkL w.heap.size (stL w8 q ⟨vip, f, dip, T⟩) v (withL ⟨vip, f, dip, T⟩ l) ∧ Below w.heap.size w (stL w8 q ⟨vip, f, dip, T⟩)) := Lib.hid ⟨own_base (own_stL HK4.out HLQ.out _) HLW.out, bl_stL HB4.out HQ.out.2 _⟩
              go_wp2
              refine bodyPost_ret (v := .tuple #[v, .agg #[.int .u32 vip, .int .i64 f, .int .u32 dip, .int .i64 T], .nilIface]) (by simp [results, Tryd.results11, go_sem, d0, d1, d2, d3]) rfl ?_
              refine ⟨⟨v, by rw [HGr.out]; rfl, ?_⟩, below_drewNT HR.out.2 _⟩
              rw [HGr.out]
              exact HR.out.1
        · rw [if_neg qo] at CK
          have HQO := Lib.hid qo
          clear qo
          go_enter Tryd.func11, Tryd.ntmps11
          go_upto_region 1 with fail
          rw [show w.alloc (.cells #[.int .u32 0, .int .i64 0, .int .u32 0, .int .i64 0] tyL) = W from HW.out.symm, ← HQ.out.1]
          go_wp2_with fail
          refine CT.out.mono ?_
          rintro e w9 ⟨rfl, rfl⟩
          go_wp2_with fail
          refine CV.out.mono ?_
          rintro e w1 ⟨rfl, hb1⟩
          have HH1 := Lib.hid hb1
          clear hb1 CV
          go_wp2_with fail
          refine (CD.out w1).mono ?_
          rintro e w2 ⟨rfl, hb2⟩
          have HH2 := Lib.hid (bl_tr HH1.out hb2)
          clear hb2 CD
          go_wp2_with fail
          refine (CK.out w2 HH2.out).mono ?_
          rintro e w3 ⟨rfl, hb3⟩
          have HH3 := Lib.hid (bl_tr HH2.out hb3)
          clear hb3 CK
          rw [show errL 9 = errnoL 9 from rfl]
          have HB1 := Lib.hid (bl_tr HB.out HH3.out)
          have HX1 := Lib.hid (HX.out.later HH3.out)
          have HE : Hid (grantL l vip dip now = ([], ls0, 9)) := Lib.hid (by unfold grantL; rw [if_neg (fun h => HQO.out h.2.2.2)])
          obtain ⟨d0, d1, d2, d3⟩ := HX1.out.at
          obtain ⟨f0, f1, f2, f3⟩ := HX1.out.free
          go_wp2
          refine bodyPost_ret (v := .tuple #[.slice none 0 0, ls0.val, errnoL 9]) (by simp [results, Tryd.results11, go_sem, d0, d1, d2, d3, ls0]) rfl ?_
          refine ⟨⟨_, by rw [HE.out]; rfl, ?_⟩, bl_stL HB1.out HQ.out.2 ls0⟩
          rw [HE.out]
          exact pkL_nil _ _
      · rw [decide_eq_false qd] at CD
        have HQO := Lib.hid qd
        clear qd
        go_enter Tryd.func11, Tryd.ntmps11
        go_upto_region 1 with fail
        rw [show w.alloc (.cells #[.int .u32 0, .int .i64 0, .int .u32 0, .int .i64 0] tyL) = W from HW.out.symm, ← HQ.out.1]
        go_wp2_with fail
        refine CT.out.mono ?_
        rintro e w9 ⟨rfl, rfl⟩
        go_wp2_with fail
        refine CV.out.mono ?_
        rintro e w1 ⟨rfl, hb1⟩
        have HH1 := Lib.hid hb1
        clear hb1 CV
        go_wp2_with fail
        refine (CD.out w1).mono ?_
        rintro e w2 ⟨rfl, hb2⟩
        have HH2 := Lib.hid (bl_tr HH1.out hb2)
        clear hb2 CD
        have HB1 := Lib.hid (bl_tr HB.out HH2.out)
        have HX1 := Lib.hid (HX.out.later HH2.out)
        have HE : Hid (grantL l vip dip now = ([], ls0, 9)) := Lib.hid (by unfold grantL; rw [if_neg (fun h => HQO.out h.2.2.1)])
        obtain ⟨d0, d1, d2, d3⟩ := HX1.out.at
        obtain ⟨f0, f1, f2, f3⟩ := HX1.out.free
        go_wp2
        refine bodyPost_ret (v := .tuple #[.slice none 0 0, ls0.val, errnoL 9]) (by simp [results, Tryd.results11, go_sem, d0, d1, d2, d3, ls0]) rfl ?_
        refine ⟨⟨_, by rw [HE.out]; rfl, ?_⟩, bl_stL HB1.out HQ.out.2 ls0⟩
        rw [HE.out]
        exact pkL_nil _ _
    · rw [decide_eq_false qv] at CV
      have HQO := Lib.hid qv
      clear qv
      go_enter Tryd.func11, Tryd.ntmps11
      go_upto_region 1 with fail
      rw [show w.alloc (.cells #[.int .u32 0, .int .i64 0, .int .u32 0, .int .i64 0] tyL) = W from HW.out.symm, ← HQ.out.1]
      go_wp2_with fail
      refine CT.out.mono ?_
      rintro e w9 ⟨rfl, rfl⟩
      go_wp2_with fail
      refine CV.out.mono ?_
      rintro e w1 ⟨rfl, hb1⟩
      have HH1 := Lib.hid hb1
      clear hb1 CV
      have HB1 := Lib.hid (bl_tr HB.out HH1.out)
      have HX1 := Lib.hid (HX.out.later HH1.out)
      have HE : Hid (grantL l vip dip now = ([], ls0, 9)) := Lib.hid (by unfold grantL; rw [if_neg (fun h => HQO.out h.2.1)])
      obtain ⟨d0, d1, d2, d3⟩ := HX1.out.at
      obtain ⟨f0, f1, f2, f3⟩ := HX1.out.free
      go_wp2
      refine bodyPost_ret (v := .tuple #[.slice none 0 0, ls0.val, errnoL 9]) (by simp [results, Tryd.results11, go_sem, d0, d1, d2, d3, ls0]) rfl ?_
      refine ⟨⟨_, by rw [HE.out]; rfl, ?_⟩, bl_stL HB1.out HQ.out.2 ls0⟩
      rw [HE.out]
      exact pkL_nil _ _
  · rw [decide_eq_false qt] at CT
    have HQO := Lib.hid qt
    clear qt
    go_enter Tryd.func11, Tryd.ntmps11
    go_upto_region 1 with fail
    rw [show w.alloc (.cells #[.int .u32 0, .int .i64 0, .int .u32 0, .int .i64 0] tyL) = W from HW.out.symm, ← HQ.out.1]
    go_wp2_with fail
    refine CT.out.mono ?_
    rintro e w9 ⟨rfl, rfl⟩
    have HB1 := HB
    have HX1 := HX
    have HE : Hid (grantL l vip dip now = ([], ls0, 9)) := Lib.hid (by unfold grantL; rw [if_neg (fun h => HQO.out h.1)])
    obtain ⟨d0, d1, d2, d3⟩ := HX1.out.at
    obtain ⟨f0, f1, f2, f3⟩ := HX1.out.free
    go_wp2
    refine bodyPost_ret (v := .tuple #[.slice none 0 0, ls0.val, errnoL 9]) (by simp [results, Tryd.results11, go_sem, d0, d1, d2, d3, ls0]) rfl ?_
    refine ⟨⟨_, by rw [HE.out]; rfl, ?_⟩, bl_stL HB1.out HQ.out.2 ls0⟩
    rw [HE.out]
    exact pkL_nil _ _
end Go.Proofs.YtanajblldlgalaaDoor
