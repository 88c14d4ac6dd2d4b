/- The program's Find and Renew. Conditions: the list came in; the numbers fit their kinds. -/
import Derived.Test.YtanajblldlgalaaDoorLdK
namespace Go.Proofs.YtanajblldlgalaaDoor
open Go Go.RowKit
set_option linter.unusedVariables false
set_option linter.unusedSimpArgs false

def fndR (o : Option Ls) : Value := .tuple #[(o.getD ls0).val, .bool o.isSome]
/-- Boxes of numbers ahead of a lease's box. -/
theorem boxes3 (w : World) (u0 u1 u2 : Value) (t0 t1 t2 : TypeId) : ∃ W q, W = (((w.alloc (.cells #[u0] t0)).alloc (.cells #[u1] t1)).alloc (.cells #[u2] t2)).alloc (.cells #[.int .u32 0, .int .i64 0, .int .u32 0, .int .i64 0] tyL) ∧ q = w.heap.size ∧ W.cell? ⟨q, 0, none⟩ = some u0 ∧ W.cell? ⟨q + 1, 0, none⟩ = some u1 ∧ W.cell? ⟨q + 2, 0, none⟩ = some u2 ∧ BxL W (q + 3) ls0 ∧ Below w.heap.size w W := by
  obtain ⟨W1, q, h1, h2, h3, h4⟩ := box1 w u0 t0
  obtain ⟨W2, r, k1, k2, k3, k4⟩ := box1 W1 u1 t1
  obtain ⟨W3, s, j1, j2, j3, j4⟩ := box1 W2 u2 t2
  have e1 : r = q + 1 := by rw [k2, h1, h2]; simp
  have e2 : s = q + 2 := by rw [j2, k1, h1, h2]; simp
  have e3 : W3.heap.size = q + 3 := by rw [j1, k1, h1, h2]; simp
  have hb := bl_al (Below.refl W3.heap.size W3) (.cells #[.int .u32 0, .int .i64 0, .int .u32 0, .int .i64 0] tyL)
  refine ⟨W3.alloc (.cells #[.int .u32 0, .int .i64 0, .int .u32 0, .int .i64 0] tyL), q, by rw [j1, k1, h1], h2, ?_, ?_, ?_, ?_, bl_tr (bl_tr (bl_tr h4 k4) j4) hb⟩
  · exact cell_keep (cell_keep (cell_keep h3 k4) j4) hb
  · rw [← e1]; exact cell_keep (cell_keep k3 j4) hb
  · rw [← e2]; exact cell_keep j3 hb
  · rw [← e3]; exact bxL_new W3 ls0
set_option maxRecDepth 100000 in
set_option maxHeartbeats 2000000 in
theorem find_c (l : List Ls) (vip port now : Int) (a : Option Addr) (n c : Nat) (w : World) (hI : InL w a n c l) (hn : n ≤ 1048576) (hp : i64b port) :
    Calls Tryd.prog 20 #[.slice a n c, .int .u32 vip, .int .i64 port, .int .i64 now] w fun e w' => e = .returned (fndR (findL vip port now l)) ∧ Below w.heap.size w w' := by
  have hlen := hI.len
  obtain ⟨W, q, hW, hq, h1, h2, h3, hx, hb⟩ := boxes3 w (.int .u32 vip) (.int .i64 port) (.int .i64 now) 24 3 3
  have ht := hI.typ
  have C := Lib.hid (index_c (isF vip port now) 45 #[.pointer (some ⟨q, 0, none⟩), .pointer (some ⟨q + 1, 0, none⟩), .pointer (some ⟨q + 2, 0, none⟩)] enFi l a n c W (hI.below hb) hn (fun W2 h5 x hx => findC_c x vip port now q (q + 1) (q + 2) W2 hx.2.1 hp (cell_keep h1 h5) (cell_keep h2 h5) (cell_keep h3 h5)))
  have HI := Lib.hid (hI.below hb)
  have HB := Lib.hid hb
  have HX := Lib.hid hx
  have HW := Lib.hid hW
  have HQ := Lib.hid hq
  have HQ3 : Hid (w.heap.size ≤ q + 3) := Lib.hid (by omega)
  clear hW hq h1 h2 h3 hx hb hI ht hp
  go_enter Tryd.func20, Tryd.ntmps20
  go_upto_region 1 with fail
  rw [← HW.out, ← HQ.out]
  go_wp2_with fail
  refine C.out.mono ?_
  rintro e w1 ⟨⟨k, rfl, hk⟩, hb1⟩
  have HB1 := Lib.hid (bl_tr HB.out hb1)
  have HX1 := Lib.hid (HX.out.later hb1)
  have HI1 := Lib.hid (HI.out.below hb1)
  clear hb1 C
  obtain ⟨d0, d1, d2, d3⟩ := HX1.out.at
  obtain ⟨f0, f1, f2, f3⟩ := HX1.out.free
  rcases hk with ⟨rfl, h2⟩ | ⟨i, rfl, h1, _, h3⟩
  · have HE : Hid (findL vip port now l = none) := Lib.hid h2
    obtain ⟨e0, e1, e2, e3⟩ := (stL_bx HX1.out ls0).at
    clear h2
    go_wp2
    refine bodyPost_ret (v := .tuple #[ls0.val, .bool false]) (by simp [results, Tryd.results20, go_sem, d0, d1, d2, d3, ls0]) rfl ?_
    exact ⟨by rw [HE.out]; rfl, bl_stL HB1.out HQ3.out ls0⟩
  · have i0 : (0 : Int) ≤ (i : Int) := by omega
    have i1 : (i : Int) < (n : Int) := by omega
    have ni : ¬ ((i : Int) < 0) := by omega
    obtain ⟨b, off, rfl⟩ := HI1.out.block (by omega)
    obtain ⟨c0, c1, c2, c3⟩ := HI1.out.cell (j := i) (by omega)
    obtain ⟨x, hx⟩ : ∃ x, x = l.getD i ls0 := ⟨_, rfl⟩
    rw [← hx] at c0 c1 c2 c3 h3
    have HE : Hid (findL vip port now l = some x) := Lib.hid h3
    obtain ⟨e0, e1, e2, e3⟩ := (stL_bx HX1.out x).at
    clear h1 h3 hx
    go_wp2
    refine bodyPost_ret (v := .tuple #[x.val, .bool true]) (by simp [results, Tryd.results20, go_sem, d0, d1, d2, d3]) rfl ?_
    exact ⟨by rw [HE.out]; rfl, bl_stL HB1.out HQ3.out x⟩
/-- What Grant and Renew leave. -/
def OutG (w : World) (r : List Ls × Ls × Int) : Ending → World → Prop := fun e w' => (∃ v, e = .returned (.tuple #[v, r.2.1.val, errL r.2.2]) ∧ PkL w.heap.size w' v r.1) ∧ Below w.heap.size w w'
theorem boxes4 (w : World) (u0 u1 u2 u3 : Value) (t0 t1 t2 t3 : TypeId) : ∃ W q, W = ((((w.alloc (.cells #[u0] t0)).alloc (.cells #[u1] t1)).alloc (.cells #[u2] t2)).alloc (.cells #[u3] t3)).alloc (.cells #[.int .u32 0, .int .i64 0, .int .u32 0, .int .i64 0] tyL) ∧ q = w.heap.size ∧ W.cell? ⟨q, 0, none⟩ = some u0 ∧ W.cell? ⟨q + 1, 0, none⟩ = some u1 ∧ W.cell? ⟨q + 2, 0, none⟩ = some u2 ∧ W.cell? ⟨q + 3, 0, none⟩ = some u3 ∧ BxL W (q + 4) ls0 ∧ Below w.heap.size w W := by
  obtain ⟨W1, q, h1, h2, h3, h4⟩ := box1 w u0 t0
  obtain ⟨W2, r, k1, k2, k3, k4⟩ := box1 W1 u1 t1
  obtain ⟨W3, s, j1, j2, j3, j4⟩ := box1 W2 u2 t2
  obtain ⟨W4, p, i1, i2, i3, i4⟩ := box1 W3 u3 t3
  have e1 : r = q + 1 := by rw [k2, h1, h2]; simp
  have e2 : s = q + 2 := by rw [j2, k1, h1, h2]; simp
  have e3 : p = q + 3 := by rw [i2, j1, k1, h1, h2]; simp
  have e4 : W4.heap.size = q + 4 := by rw [i1, j1, k1, h1, h2]; simp
  have hb := bl_al (Below.refl W4.heap.size W4) (.cells #[.int .u32 0, .int .i64 0, .int .u32 0, .int .i64 0] tyL)
  refine ⟨W4.alloc (.cells #[.int .u32 0, .int .i64 0, .int .u32 0, .int .i64 0] tyL), q, by rw [i1, j1, k1, h1], h2, ?_, ?_, ?_, ?_, ?_, bl_tr (bl_tr (bl_tr (bl_tr h4 k4) j4) i4) hb⟩
  · exact cell_keep (cell_keep (cell_keep (cell_keep h3 k4) j4) i4) hb
  · rw [← e1]; exact cell_keep (cell_keep (cell_keep k3 j4) i4) hb
  · rw [← e2]; exact cell_keep (cell_keep j3 i4) hb
  · rw [← e3]; exact cell_keep i3 hb
  · rw [← e4]; exact bxL_new W4 ls0
set_option maxRecDepth 100000 in
set_option maxHeartbeats 4000000 in
theorem renew_c (l : List Ls) (vip first dip now : Int) (a : Option Addr) (n c : Nat) (w : World) (hI : InL w a n c l) (hn : n ≤ 1048576) (hv : 0 ≤ vip ∧ vip < 4294967296) (hd : 0 ≤ dip ∧ dip < 4294967296) (hf : i64b first) :
    Calls Tryd.prog 16 #[.slice a n c, .int .u32 vip, .int .i64 first, .int .u32 dip, .int .i64 now] w (OutG w (renewL l vip first dip now)) := by
  obtain ⟨W, q, hW, hq, h1, h2, h3, h4, hx, hb⟩ := boxes4 w (.int .u32 vip) (.int .i64 first) (.int .u32 dip) (.int .i64 now) 24 3 24 3
  have CT := Lib.hid (isTime_c now W)
  have CK := Lib.hid (check_c l a n c W (hI.below hb) hn)
  have CC := Lib.hid (fun (W1 : World) (h : Below W.heap.size W W1) => contains_c (isR vip first dip now) 37 #[.pointer (some ⟨q, 0, none⟩), .pointer (some ⟨q + 1, 0, none⟩), .pointer (some ⟨q + 2, 0, none⟩), .pointer (some ⟨q + 3, 0, none⟩)] enRe l a n c W1 ((hI.below hb).below h) hn (fun W2 h5 x hx => renewC_c x vip first dip now q (q + 1) (q + 2) (q + 3) W2 (cell_keep (cell_keep h1 h) h5) (cell_keep (cell_keep h2 h) h5) (cell_keep (cell_keep h3 h) h5) (cell_keep (cell_keep h4 h) h5)))
  have CL := Lib.hid (fun (W1 : World) (h : Below W.heap.size W W1) (hs : l.Pairwise (fun a b => ltL a b = true)) (ht : OkTm now) => lend_c l vip first dip now a n c W1 ((hI.below hb).below h) hn hs ht hv hd hf)
  have HK := Lib.hid (And.intro h1 (And.intro h2 (And.intro h3 h4)))
  have HB := Lib.hid hb
  have HX := Lib.hid hx
  have HW := Lib.hid hW
  have HQ := Lib.hid hq
  have HQ4 : Hid (w.heap.size ≤ q + 4) := Lib.hid (by omega)
  clear hW hq h1 h2 h3 h4 hx hb hI hv hd hf
  obtain ⟨k1, k2, k3, k4⟩ := HK.out
  by_cases qt : OkTm now
  · have HT := Lib.hid qt
    rw [decide_eq_true qt] at CT
    clear qt
    by_cases qo : OkL l
    · have HO := Lib.hid qo
      rw [if_pos qo] at CK
      clear qo
      obtain ⟨z, hz⟩ : ∃ z, z = l.any (isR vip first dip now) := ⟨_, rfl⟩
      rw [← hz] at CC
      have HZ := Lib.hid hz
      clear hz
      go_enter Tryd.func16, Tryd.ntmps16
      go_upto_region 1 with fail
      rw [← HW.out, ← HQ.out]
      go_wp2_with fail
      refine CT.out.mono ?_
      rintro e w9 ⟨rfl, rfl⟩
      go_wp2_with fail
      refine CK.out.mono ?_
      rintro e w1 ⟨rfl, hb1⟩
      rw [show errL 0 = Value.nilIface from rfl]
      have HH1 := Lib.hid hb1
      have m1 := cell_keep k1 hb1
      have m2 := cell_keep k2 hb1
      have m3 := cell_keep k3 hb1
      have m4 := cell_keep k4 hb1
      clear hb1 CK CT k1 k2 k3 k4
      go_wp2_with fail
      refine (CC.out w1 HH1.out).mono ?_
      rintro e w2 ⟨rfl, hb2⟩
      have HH2 := Lib.hid (bl_tr HH1.out hb2)
      have HB1 := Lib.hid (bl_tr HB.out HH2.out)
      have HX1 := Lib.hid (HX.out.later HH2.out)
      have j1 := cell_keep m1 hb2
      have j2 := cell_keep m2 hb2
      have j3 := cell_keep m3 hb2
      have j4 := cell_keep m4 hb2
      clear hb2 CC m1 m2 m3 m4
      cases z with
      | false =>
        have HE : Hid (renewL l vip first dip now = ([], ls0, 6)) := Lib.hid (by unfold renewL; rw [if_pos ⟨HT.out, HO.out⟩, ← HZ.out, if_neg Bool.false_ne_true])
        obtain ⟨d0, d1, d2, d3⟩ := HX1.out.at
        obtain ⟨f0, f1, f2, f3⟩ := HX1.out.free
        obtain ⟨e0, e1, e2, e3⟩ := (stL_bx HX1.out ls0).at
        go_wp2
        refine bodyPost_ret (v := .tuple #[.slice none 0 0, ls0.val, errnoL 6]) (by simp [results, Tryd.results16, go_sem, d0, d1, d2, d3, ls0]) rfl ?_
        refine ⟨⟨_, by rw [HE.out]; rfl, ?_⟩, bl_stL HB1.out HQ4.out ls0⟩
        rw [HE.out]
        exact pkL_nil _ _
      | true =>
        have HE : Hid (renewL l vip first dip now = (withL ⟨vip, first, dip, now + 64⟩ l, ⟨vip, first, dip, now + 64⟩, 0)) := Lib.hid (by unfold renewL; rw [if_pos ⟨HT.out, HO.out⟩, ← HZ.out, if_pos rfl])
        go_wp2_with fail
        refine (CL.out w2 HH2.out HO.out.2 HT.out).mono ?_
        rintro e w3 ⟨⟨v, rfl, hK⟩, hb3⟩
        have HB3 := Lib.hid (bl_tr HB1.out hb3)
        have HX3 := Lib.hid (HX1.out.later hb3)
        have HK3 := Lib.hid hK
        have HLQ : Hid (q + 4 < w2.heap.size) := Lib.hid HX1.out.lt
        have HLW : Hid (w.heap.size ≤ w2.heap.size) := Lib.hid HB1.out.size
        obtain ⟨T, hT⟩ : ∃ T, T = now + 64 := ⟨_, rfl⟩
        rw [← hT] at HE HK3 ⊢
        clear hb3 hK CL hT j1 j2 j3 j4
        go_upto_region 7 with fail
        obtain ⟨w4, g, hw4, hg, hA, hb4, hg4⟩ := boxed w3 ⟨vip, first, dip, T⟩
        have HX4 := Lib.hid (HX3.out.later hb4)
        have HB4 := Lib.hid (bl_tr HB3.out hb4)
        have HK4 := Lib.hid (HK3.out.below hb4)
        have HW4 := Lib.hid (And.intro hw4 hg)
        obtain ⟨a0, a1, a2, a3⟩ := hA
        rw [show w3.alloc (.cells #[.int .u32 vip, .int .i64 first, .int .u32 dip, .int .i64 T] tyL) = w4 from HW4.out.1.symm, ← HW4.out.2]
        clear hw4 hg hb4 hg4
        obtain ⟨d0, d1, d2, d3⟩ := HX4.out.at
        obtain ⟨f0, f1, f2, f3⟩ := HX4.out.free
        go_region
        obtain ⟨e0, e1, e2, e3⟩ := (stL_bx HX4.out ⟨vip, first, dip, T⟩).at
        have HR : Hid (PkL w.heap.size (stL w4 (q + 4) ⟨vip, first, dip, T⟩) v (withL ⟨vip, first, dip, T⟩ l) ∧ Below w.heap.size w (stL w4 (q + 4) ⟨vip, first, dip, T⟩)) := Lib.hid ⟨own_base (own_stL HK4.out HLQ.out _) HLW.out, bl_stL HB4.out HQ4.out _⟩
        go_wp2
        refine bodyPost_ret (v := .tuple #[v, .agg #[.int .u32 vip, .int .i64 first, .int .u32 dip, .int .i64 T], .nilIface]) (by simp [results, Tryd.results16, go_sem, d0, d1, d2, d3]) rfl ?_
        refine ⟨⟨v, by rw [HE.out]; rfl, ?_⟩, below_drewNT HR.out.2 _⟩
        rw [HE.out]
        exact HR.out.1
    · rw [if_neg qo] at CK
      have HQO := Lib.hid qo
      clear qo
      go_enter Tryd.func16, Tryd.ntmps16
      go_upto_region 1 with fail
      rw [← HW.out, ← HQ.out]
      go_wp2_with fail
      refine CT.out.mono ?_
      rintro e w9 ⟨rfl, rfl⟩
      go_wp2_with fail
      refine CK.out.mono ?_
      rintro e w1 ⟨rfl, hb1⟩
      rw [show errL 9 = errnoL 9 from rfl]
      have HB1 := Lib.hid (bl_tr HB.out hb1)
      have HX1 := Lib.hid (HX.out.later hb1)
      clear hb1 CK CT k1 k2 k3 k4
      have HE : Hid (renewL l vip first dip now = ([], ls0, 9)) := Lib.hid (by unfold renewL; rw [if_neg (fun h => HQO.out h.2)])
      obtain ⟨d0, d1, d2, d3⟩ := HX1.out.at
      obtain ⟨f0, f1, f2, f3⟩ := HX1.out.free
      obtain ⟨e0, e1, e2, e3⟩ := (stL_bx HX1.out ls0).at
      go_wp2
      refine bodyPost_ret (v := .tuple #[.slice none 0 0, ls0.val, errnoL 9]) (by simp [results, Tryd.results16, go_sem, d0, d1, d2, d3, ls0]) rfl ?_
      refine ⟨⟨_, by rw [HE.out]; rfl, ?_⟩, bl_stL HB1.out HQ4.out ls0⟩
      rw [HE.out]
      exact pkL_nil _ _
  · rw [decide_eq_false qt] at CT
    have HQT := Lib.hid qt
    clear qt
    go_enter Tryd.func16, Tryd.ntmps16
    go_upto_region 1 with fail
    rw [← HW.out, ← HQ.out]
    go_wp2_with fail
    refine CT.out.mono ?_
    rintro e w9 ⟨rfl, rfl⟩
    have HB1 := HB
    have HX1 := HX
    clear CT k1 k2 k3 k4
    have HE : Hid (renewL l vip first dip now = ([], ls0, 9)) := Lib.hid (by unfold renewL; rw [if_neg (fun h => HQT.out h.1)])
    obtain ⟨d0, d1, d2, d3⟩ := HX1.out.at
    obtain ⟨f0, f1, f2, f3⟩ := HX1.out.free
    obtain ⟨e0, e1, e2, e3⟩ := (stL_bx HX1.out ls0).at
    go_wp2
    refine bodyPost_ret (v := .tuple #[.slice none 0 0, ls0.val, errnoL 9]) (by simp [results, Tryd.results16, go_sem, d0, d1, d2, d3, ls0]) rfl ?_
    refine ⟨⟨_, by rw [HE.out]; rfl, ?_⟩, bl_stL HB1.out HQ4.out ls0⟩
    rw [HE.out]
    exact pkL_nil _ _
end Go.Proofs.YtanajblldlgalaaDoor
