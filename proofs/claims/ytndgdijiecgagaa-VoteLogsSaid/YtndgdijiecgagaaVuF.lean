/- The program's Same: of like logs. Conditions: those stated. slices.EqualFunc over commands and vote.Same: of like logs. Conditions: those stated. -/
import Derived.Test.YtndgdijiecgagaaVhC
import Derived.Test.YtndgdijiecgagaaVaB
import Derived.LoopTactic
namespace Go.Proofs.Ytndgdijiecgagaa
open Go Go.RowKit
set_option linter.unusedVariables false
set_option linter.unusedSimpArgs false

set_option maxRecDepth 100000 in
set_option maxHeartbeats 8000000 in
theorem like1_c (x : Cm) (a a2 : Option Addr) (n c n2 c2 : Nat) (w : World) (hE : InE w a n c x.es) (hF : InE w a2 n2 c2 x.es) (hn : n ≤ 64) (hn2 : n2 ≤ 64) :
    Calls Try.prog 74 #[x.val (.slice a n c), x.val (.slice a2 n2 c2)] w fun e w' => e = .returned (.bool true) ∧ Below w.heap.size w w' := by
  obtain ⟨p, hp⟩ : ∃ p, p = w.heap.size := ⟨_, rfl⟩
  obtain ⟨W, hW⟩ : ∃ W, W = (w.alloc (x.obj (.slice a n c))).alloc (x.obj (.slice a2 n2 c2)) := ⟨_, rfl⟩
  have hA0 := bxC_new w x (.slice a n c)
  have hA := hA0.later (bl_al (Below.refl _ _) (x.obj (.slice a2 n2 c2)))
  have hB := bxC_new (w.alloc (x.obj (.slice a n c))) x (.slice a2 n2 c2)
  have hb : Below w.heap.size w W := by rw [hW]; exact bl_al (bl_al (Below.refl _ _) _) _
  rw [← hW] at hA hB
  rw [← hp] at hA
  rw [show (w.alloc (x.obj (.slice a n c))).heap.size = p + 1 by simp [hp]] at hB
  have HE := Lib.hid hE
  have HF := Lib.hid hF
  have HA := Lib.hid hA
  have HB := Lib.hid hB
  have HW := Lib.hid (And.intro hW hp)
  have HBW := Lib.hid hb
  clear hA0 hA hB hb hW hE hF hp
  go_enter Try.func74, Try.ntmps74
  go_upto_region 1 with fail
  rw [show (w.alloc (.cells #[.int .i64 x.node, .int .i64 x.boot, .int .i64 x.seq, .int .i64 x.time, .int .i64 x.kind, .int .u32 x.vip, .int .i64 x.proto, .int .i64 x.port, .slice a n c, .int .u32 x.dip, .int .u32 x.cvip, .bool x.up] tyC)).alloc (.cells #[.int .i64 x.node, .int .i64 x.boot, .int .i64 x.seq, .int .i64 x.time, .int .i64 x.kind, .int .u32 x.vip, .int .i64 x.proto, .int .i64 x.port, .slice a2 n2 c2, .int .u32 x.dip, .int .u32 x.cvip, .bool x.up] tyC) = W from HW.out.1.symm, ← HW.out.2]
  have hSK : ∀ wx, Below W.heap.size W wx → (wx.cell? ⟨p, 0, none⟩ = some (.int .i64 x.node) ∧ wx.cell? ⟨p, 1, none⟩ = some (.int .i64 x.boot) ∧ wx.cell? ⟨p, 2, none⟩ = some (.int .i64 x.seq) ∧ wx.cell? ⟨p, 3, none⟩ = some (.int .i64 x.time) ∧ wx.cell? ⟨p, 4, none⟩ = some (.int .i64 x.kind) ∧ wx.cell? ⟨p, 5, none⟩ = some (.int .u32 x.vip) ∧ wx.cell? ⟨p, 6, none⟩ = some (.int .i64 x.proto) ∧ wx.cell? ⟨p, 7, none⟩ = some (.int .i64 x.port) ∧ wx.cell? ⟨p, 8, none⟩ = some (.slice a n c) ∧ wx.cell? ⟨p, 9, none⟩ = some (.int .u32 x.dip) ∧ wx.cell? ⟨p, 10, none⟩ = some (.int .u32 x.cvip) ∧ wx.cell? ⟨p, 11, none⟩ = some (.bool x.up)) ∧ (wx.cell? ⟨p + 1, 0, none⟩ = some (.int .i64 x.node) ∧ wx.cell? ⟨p + 1, 1, none⟩ = some (.int .i64 x.boot) ∧ wx.cell? ⟨p + 1, 2, none⟩ = some (.int .i64 x.seq) ∧ wx.cell? ⟨p + 1, 3, none⟩ = some (.int .i64 x.time) ∧ wx.cell? ⟨p + 1, 4, none⟩ = some (.int .i64 x.kind) ∧ wx.cell? ⟨p + 1, 5, none⟩ = some (.int .u32 x.vip) ∧ wx.cell? ⟨p + 1, 6, none⟩ = some (.int .i64 x.proto) ∧ wx.cell? ⟨p + 1, 7, none⟩ = some (.int .i64 x.port) ∧ wx.cell? ⟨p + 1, 8, none⟩ = some (.slice a2 n2 c2) ∧ wx.cell? ⟨p + 1, 9, none⟩ = some (.int .u32 x.dip) ∧ wx.cell? ⟨p + 1, 10, none⟩ = some (.int .u32 x.cvip) ∧ wx.cell? ⟨p + 1, 11, none⟩ = some (.bool x.up)) := by
    intro wx hx
    obtain ⟨k0, k1, k2, k3, k4, k5, k6, k7, k8, k9, k10, k11⟩ := (HA.out.later hx).at.lit
    obtain ⟨d0, d1, d2, d3, d4, d5, d6, d7, d8, d9, d10, d11⟩ := (HB.out.later hx).at.lit
    exact ⟨⟨k0, k1, k2, k3, k4, k5, k6, k7, k8, k9, k10, k11⟩, d0, d1, d2, d3, d4, d5, d6, d7, d8, d9, d10, d11⟩
  have HSK := Lib.hid hSK
  obtain ⟨⟨k0, k1, k2, k3, k4, k5, k6, k7, k8, k9, k10, k11⟩, d0, d1, d2, d3, d4, d5, d6, d7, d8, d9, d10, d11⟩ := hSK W (Below.refl _ _)
  have CC := Lib.hid (sameS_c x.vip x.proto x.port x.vip x.proto x.port x.es x.es a a2 n c n2 c2 W (HE.out.below HBW.out) (HF.out.below HBW.out) (by omega) true (by simp))
  clear hSK
  go_wp2_with fail
  refine CC.out.mono ?_
  rintro e w5 ⟨rfl, hb5⟩
  clear k0 k1 k2 k3 k4 k5 k6 k7 k8 k9 k10 k11 d0 d1 d2 d3 d4 d5 d6 d7 d8 d9 d10 d11
  obtain ⟨⟨k0, k1, k2, k3, k4, k5, k6, k7, k8, k9, k10, k11⟩, d0, d1, d2, d3, d4, d5, d6, d7, d8, d9, d10, d11⟩ := HSK.out w5 hb5
  have HZ := Lib.hid (bl_tr HBW.out hb5)
  clear hb5 CC
  go_wp2
  go_ret
  exact ⟨rfl, HZ.out⟩
end Go.Proofs.Ytndgdijiecgagaa
namespace Go.Proofs.Ytndgdijiecgagaa
open Go Go.RowKit
set_option linter.unusedVariables false
set_option linter.unusedSimpArgs false

set_option maxRecDepth 100000 in
set_option maxHeartbeats 8000000 in
theorem eqC_c (g : Nat) (eg : ∀ args w, (callFunc g args).run Try.prog w = .ok (.enter g args) w) (ls : List Cm) (vs us : List Value) (a a2 : Option Addr) (n c c2 : Nat) (w : World) (hI : InC w a n c ls vs) (hJ : InC w a2 n c2 ls us) (hn : n ≤ 4611686018427387904) (hes : ∀ x ∈ ls, x.es.length ≤ 64)
    (hg : ∀ (x : Cm) (a a2 : Option Addr) (n c n2 c2 : Nat) (w : World), InE w a n c x.es → InE w a2 n2 c2 x.es → n ≤ 64 → n2 ≤ 64 → Calls Try.prog g #[x.val (.slice a n c), x.val (.slice a2 n2 c2)] w fun e w' => e = .returned (.bool true) ∧ Below w.heap.size w w') :
    Calls Try.prog 73 #[.slice a n c, .slice a2 n c2, .func (.func g) #[] #[]] w fun e w' => e = .returned (.bool true) ∧ Below w.heap.size w w' := by
  have hlen := hI.len
  have hroom := hI.room
  have hroom2 := hJ.room
  have HI := Lib.hid hI
  have HJ := Lib.hid hJ
  have HES := Lib.hid hes
  have HP := Lib.hid hg
  have HB0 := Lib.hid (Below.refl w.heap.size w)
  clear hI hJ hes hg
  go_enter Try.func73, Try.ntmps73
  go_wp2
  go_loopg [7, 17] n (fun gg _ s8 wr => ∃ i : Nat, i ≤ n ∧ n - i ≤ gg ∧ s8 = .int .i64 i ∧ Hid (Below w.heap.size w wr))
  case atStart => exact ⟨0, by omega, by omega, rfl, HB0⟩
  case round =>
    obtain ⟨i, hi, hgg, rfl, HB⟩ := hrel
    obtain ⟨w2, rfl⟩ : ∃ v, v = wr := ⟨_, rfl⟩
    clear HB0
    by_cases hlt : i < n
    · have ii : (i : Int) < (n : Int) := by omega
      have i0 : (0 : Int) ≤ (i : Int) := by omega
      have ic : (i : Int) ≤ (c : Int) := by omega
      have ic2 : (i : Int) ≤ (c2 : Int) := by omega
      obtain ⟨b, off, rfl⟩ := HI.out.block (by omega)
      obtain ⟨b2, off2, rfl⟩ := HJ.out.block (by omega)
      have hI2 := HI.out.below HB.out
      have hJ2 := HJ.out.below HB.out
      obtain ⟨a5, n5, c5, hv, hE⟩ := hI2.ends i hlt
      obtain ⟨a6, n6, c6, hu, hF⟩ := hJ2.ends i hlt
      have hmem := memC (ls := ls) (i := i) (by omega)
      have CI := hI2.cell hlt
      rw [hv] at CI
      obtain ⟨x, ex⟩ : ∃ x, x = ls.getD i cm0 := ⟨_, rfl⟩
      rw [← ex] at CI hE hF hmem
      have h5 : n5 ≤ 64 := by rw [← hE.len]; exact HES.out x hmem
      have h6 : n6 ≤ 64 := by rw [← hF.len]; exact HES.out x hmem
      have CJ := Lib.hid (fun (wx : World) (hb : Below w2.heap.size w2 wx) => by
        have := (hJ2.below hb).cell hlt
        rw [hu, ← ex] at this
        exact this)
      obtain ⟨k0, k1, k2, k3, k4, k5, k6, k7, k8, k9, k10, k11⟩ := CI
      have HC := Lib.hid (fun (wx : World) (hb : Below w2.heap.size w2 wx) => HP.out x a5 a6 n5 c5 n6 c6 wx (hE.below hb) (hF.below hb) h5 h6)
      obtain ⟨W3, hW3⟩ : ∃ W, W = w2.alloc (x.obj (.slice a5 n5 c5)) := ⟨_, rfl⟩
      obtain ⟨p, hp⟩ : ∃ p, p = w2.heap.size := ⟨_, rfl⟩
      have hA := bxC_new w2 x (.slice a5 n5 c5)
      rw [← hW3, ← hp] at hA
      have hb3 : Below w2.heap.size w2 W3 := by rw [hW3]; exact bl_al (Below.refl _ _) _
      obtain ⟨W4, hW4⟩ : ∃ W, W = W3.alloc (x.obj (.slice a6 n6 c6)) := ⟨_, rfl⟩
      obtain ⟨q, hq⟩ : ∃ q, q = W3.heap.size := ⟨_, rfl⟩
      have hB := bxC_new W3 x (.slice a6 n6 c6)
      rw [← hW4, ← hq] at hB
      have hb34 : Below W3.heap.size W3 W4 := by rw [hW4]; exact bl_al (Below.refl _ _) _
      have hA4 := hA.later hb34
      have hb4 : Below w2.heap.size w2 W4 := bl_tr hb3 hb34
      have HC := Lib.hid (HP.out x a5 a6 n5 c5 n6 c6 W4 (hE.below hb4) (hF.below hb4) h5 h6)
      have HA := Lib.hid hA4
      have HBB := Lib.hid hB
      have HW := Lib.hid (And.intro hW3 hp)
      have HW2 := Lib.hid (And.intro hW4 hq)
      have H3 := Lib.hid hb3
      have H4 := Lib.hid (bl_tr HB.out hb4)
      clear ex hv hE hI2 hJ2 hu hF hmem hA hB hA4 hb3 hb34 hb4 hW3 hW4 hp hq
      go_upto_region 6 with fail
      rw [show w2.alloc (.cells #[.int .i64 x.node, .int .i64 x.boot, .int .i64 x.seq, .int .i64 x.time, .int .i64 x.kind, .int .u32 x.vip, .int .i64 x.proto, .int .i64 x.port, .slice a5 n5 c5, .int .u32 x.dip, .int .u32 x.cvip, .bool x.up] tyC) = W3 from HW.out.1.symm, ← HW.out.2]
      clear k0 k1 k2 k3 k4 k5 k6 k7 k8 k9 k10 k11
      obtain ⟨k0, k1, k2, k3, k4, k5, k6, k7, k8, k9, k10, k11⟩ := CJ.out W3 H3.out
      go_upto_region 7 with fail
      rw [show W3.alloc (.cells #[.int .i64 x.node, .int .i64 x.boot, .int .i64 x.seq, .int .i64 x.time, .int .i64 x.kind, .int .u32 x.vip, .int .i64 x.proto, .int .i64 x.port, .slice a6 n6 c6, .int .u32 x.dip, .int .u32 x.cvip, .bool x.up] tyC) = W4 from HW2.out.1.symm, ← HW2.out.2]
      clear k0 k1 k2 k3 k4 k5 k6 k7 k8 k9 k10 k11
      obtain ⟨k0, k1, k2, k3, k4, k5, k6, k7, k8, k9, k10, k11⟩ := HA.out.at.lit
      obtain ⟨d0, d1, d2, d3, d4, d5, d6, d7, d8, d9, d10, d11⟩ := HBB.out.at.lit
      go_wp2_with fail
      refine HC.out.mono ?_
      rintro e w5 ⟨rfl, hb5⟩
      have HB7 := Lib.hid (bl_tr H4.out hb5)
      clear k0 k1 k2 k3 k4 k5 k6 k7 k8 k9 k10 k11 d0 d1 d2 d3 d4 d5 d6 d7 d8 d9 d10 d11 hb5 HC HA HBB
      go_wp2
      go_roundg (n - (i + 1))
      case measure => omega
      case rel => exact ⟨i + 1, by omega, by omega, by go_num, HB7⟩
    · have ii : ¬ (i : Int) < (n : Int) := by omega
      obtain rfl : i = n := by omega
      go_wp2
      go_ret
      exact ⟨rfl, HB.out⟩
set_option maxRecDepth 100000 in
set_option maxHeartbeats 8000000 in
theorem same_c (ls : List Cm) (vs us : List Value) (a a2 : Option Addr) (n c c2 : Nat) (w : World) (hI : InC w a n c ls vs) (hJ : InC w a2 n c2 ls us) (hn : n ≤ 4611686018427387904) (hes : ∀ x ∈ ls, x.es.length ≤ 64) :
    Calls Try.prog 25 #[.slice a n c, .slice a2 n c2] w fun e w' => e = .returned (.bool true) ∧ Below w.heap.size w w' := by
  have C := Lib.hid (eqC_c 74 (fun _ _ => by kernel_rfl) ls vs us a a2 n c c2 w hI hJ hn hes (fun x a a2 n c n2 c2 w h1 h2 h3 h4 => like1_c x a a2 n c n2 c2 w h1 h2 h3 h4))
  clear hI hJ hes
  go_enter Try.func25, Try.ntmps25
  go_wp2_with fail
  refine C.out.mono ?_
  rintro e w1 ⟨rfl, hb⟩
  have HB := Lib.hid hb
  clear hb C
  go_wp2
  go_ret
  exact ⟨rfl, HB.out⟩
end Go.Proofs.Ytndgdijiecgagaa
