/- The program's Write. Condition: the row came in. -/
import Derived.Test.YtbkpkakjfhkfaaaVbL
namespace Go.Proofs.Ytbkpkakjfhkfaaa
open Go Go.RowKit
set_option linter.unusedVariables false
set_option linter.unusedSimpArgs false

structure GotW (w : World) (ls : List Cm) (e : Ending) (w' : World) : Prop where
  yes : GoodL ls → ∃ ao c, e = .returned (.tuple #[.slice ao (bytesL ls).length c, .nilIface]) ∧ w'.ownsRow w.heap.size 5 1 (.slice ao (bytesL ls).length c) (bytesL ls).length (u8s (bytesL ls))
  no : ¬ GoodL ls → e = .returned (.tuple #[.slice none 0 0, errnoF 9])
  bel : Below w.heap.size w w'
theorem nuT_new (w : World) (K : Nat → Prop) (B : Nat) (hB : B ≤ w.heap.size) (hK : ∀ k, K k → k < w.heap.size) : NuT (w.alloc (.cells #[.slice none 0 0] tyN)) B w.heap.size [] K := by
  refine ⟨none, 0, ?_, ?_, (fun e => by cases e), (fun k hk e => by cases e), hB, fun h => by have := hK _ h; omega, fun k hk => by have := hK k hk; simp; omega⟩
  · exact heap_alloc_new w _
  · exact ⟨rfl, .inl ⟨rfl, rfl⟩⟩
theorem taken_end {ls : List Cm} {n : Nat} (h : ls.length = n) : ls.take n = ls := List.take_of_length_le (by omega)
set_option maxRecDepth 100000 in
set_option maxHeartbeats 4000000 in
theorem wr_c (ls : List Cm) (vs : List Value) (a : Option Addr) (n c : Nat) (w : World) (hI : InC w a n c ls vs) (hn : n ≤ 4611686018427387904) :
    Calls Try.prog 17 #[.slice a n c] w (GotW w ls) := by
  have hlen := hI.len
  have hroom := hI.room
  have HI := Lib.hid hI
  have CK := Lib.hid (checkLog_c ls vs a n c w hI hn)
  by_cases hg : GoodL ls
  · rw [if_pos hg, nil_nilIface.1] at CK
    have q0 := nilNe
    have h256 := hg.1
    have hends := ends_good hg.2.1
    have HG := Lib.hid hg
    clear hI hg
    go_enter Try.func17, Try.ntmps17
    go_wp2_with fail
    refine CK.out.mono ?_
    rintro e w1 ⟨rfl, hb1⟩
    obtain ⟨W, hW⟩ : ∃ W, W = w1.alloc (.cells #[.slice none 0 0] tyN) := ⟨_, rfl⟩
    have hN := nuT_new w1 (fun k => k < w.heap.size) w.heap.size hb1.size (fun k hk => Nat.lt_of_lt_of_le hk hb1.size)
    rw [← hW] at hN
    have hb2 : Below w.heap.size w W := by rw [hW]; exact hb1.alloc hb1.size _
    obtain ⟨p, hp⟩ : ∃ p, p = w1.heap.size := ⟨_, rfl⟩
    rw [← hp] at hN
    have HW := Lib.hid (And.intro hW hp)
    have HN := Lib.hid hN
    have HB := Lib.hid hb2
    have HEN := Lib.hid hends
    clear CK hW hp hN hb1 hb2 hends
    go_upto_region 5 with fail
    rw [show w1.alloc (.cells #[.slice none 0 0] tyN) = W from HW.out.1.symm, ← HW.out.2]
    go_wp2_with fail
    refine (writeL_c [(n : Int)] _ rfl w.heap.size p [] _ 1 W HN.out (by intro b hb; simp at hb; omega) rfl (by omega) (by simp) HB.out.size).mono ?_
    rintro e w2 ⟨rfl, hN1, hk1, hb1⟩
    have HS0 : Hid (NuT w2 w.heap.size p (nb ((n : Int) :: numL (ls.take 0))) (fun k => k < w.heap.size) ∧ Below w.heap.size w w2) := Lib.hid ⟨hN1, HB.out.trans hb1⟩
    clear hN1 hk1 hb1 HN
    go_wp2
    go_loopw [7, 19] (fun _ iv wr => ∃ i : Nat, i ≤ n ∧ iv = .int .i64 i ∧ Hid (NuT wr w.heap.size p (nb ((n : Int) :: numL (ls.take i))) (fun k => k < w.heap.size) ∧ Below w.heap.size w wr)) (fun _ iv _ => n - (intOf iv).toNat)
    case atStart => exact ⟨0, by omega, rfl, HS0⟩
    case round =>
      obtain ⟨i, hi, rfl, HS⟩ := hrel
      obtain ⟨w3, rfl⟩ : ∃ v, v = wr := ⟨_, rfl⟩
      clear HS0
      by_cases hlt : i < n
      · have ii : (i : Int) < (n : Int) := by omega
        have i0 : (0 : Int) ≤ (i : Int) := by omega
        have ic : (i : Int) ≤ (c : Int) := by omega
        have hI2 := HI.out.below HS.out.2
        obtain ⟨b1, o1, rfl⟩ := HI.out.block (by omega)
        obtain ⟨k0, k1, k2, k3, k4, k5, k6, k7, k8, k9, k10, k11⟩ := hI2.cell hlt
        obtain ⟨a2, n2, c2, hv, hE0⟩ := HI.out.ends i hlt
        have hE := hE0.below HS.out.2
        have ht := HI.out.ty hlt
        rw [hv] at k8
        have hmem := memC (ls := ls) (i := i) (by omega)
        have HTK : Hid (ls.take (i + 1) = ls.take i ++ [ls.getD i cm0]) := Lib.hid (take_moreC ls (i := i) (by omega))
        have hle : (nb ((n : Int) :: numL (ls.take i))).length ≤ 1000000 := by
          have h1 := ends_good (l := ls.take i) (fun x hx => HG.out.2.1 x (List.mem_of_mem_take hx))
          rw [nb_len, List.length_cons, numL_len]
          rw [List.length_take] at h1 ⊢
          omega
        obtain ⟨x, hx⟩ : ∃ x, x = ls.getD i cm0 := ⟨_, rfl⟩
        rw [← hx] at k0 k1 k2 k3 k4 k5 k6 k7 k9 k10 k11 hE hE0 ht hmem HTK
        have hn2 : n2 ≤ 64 := by rw [← hE.len]; exact goodC_es (HG.out.2.1 x hmem)
        obtain ⟨w4, hw4⟩ : ∃ w4, w4 = w3.alloc (x.obj (.slice a2 n2 c2)) := ⟨_, rfl⟩
        have hA := cAt_new w3 x (.slice a2 n2 c2)
        have hb4 : Below w3.heap.size w3 w4 := by rw [hw4]; exact bl_al (Below.refl _ _) _
        obtain ⟨p4, hp4⟩ : ∃ p4, p4 = w3.heap.size := ⟨_, rfl⟩
        rw [← hp4, ← hw4] at hA
        have HW4 := Lib.hid (And.intro hw4 hp4)
        have HN4 := Lib.hid (HS.out.1.keep hb4).1
        have HB4 := Lib.hid (bl_tr HS.out.2 hb4)
        have HE4 := Lib.hid (hE.below hb4)
        have HKB := Lib.hid hE0.blk
        have HTY := Lib.hid ht
        have HLE := Lib.hid hle
        obtain ⟨d0, d1, d2, d3, d4, d5, d6, d7, d8, d9, d10, d11⟩ := hA.lit
        clear hx ht hE hv hI2 hmem hw4 hb4 hp4 hA hE0 hle
        go_upto_region 9 with fail
        rw [show w3.alloc (.cells #[.int .i64 x.node, .int .i64 x.boot, .int .i64 x.seq, .int .i64 x.time, .int .i64 x.kind, .int .u32 x.vip, .int .i64 x.proto, .int .i64 x.port, .slice a2 n2 c2, .int .u32 x.dip, .int .u32 x.cvip, .bool x.up] tyC) = w4 from HW4.out.1.symm, ← HW4.out.2]
        clear k0 k1 k2 k3 k4 k5 k6 k7 k8 k9 k10 k11
        go_wp2_with fail
        refine (wcmd_c x a2 n2 c2 w.heap.size p _ _ w4 HN4.out HE4.out HTY.out HKB.out hn2 HLE.out HB4.out.size).mono ?_
        rintro e w5 ⟨rfl, hN1, hk1, hb1⟩
        have HS5 : Hid (NuT w5 w.heap.size p (nb ((n : Int) :: numL (ls.take (i + 1)))) (fun k => k < w.heap.size) ∧ Below w.heap.size w w5) := Lib.hid ⟨by
          have e1 : nb ((n : Int) :: numL (ls.take (i + 1))) = nb ((n : Int) :: numL (ls.take i)) ++ nb (numC x) := by
            rw [HTK.out, numL_app, numL_one, nb_cons, nb_cons, nb_app, List.append_assoc]
          rw [e1]
          exact hN1, HB4.out.trans hb1⟩
        clear hN1 hk1 hb1 d0 d1 d2 d3 d4 d5 d6 d7 d8 d9 d10 d11
        go_wp2
        go_roundw
        case rel => exact ⟨i + 1, by omega, by go_num, HS5⟩
        case measure => simp [intOf]; omega
      · have ii : ¬ (i : Int) < (n : Int) := by omega
        obtain rfl : i = n := by omega
        have hT := HS.out.1
        rw [taken_end hlen] at hT
        have e1 : nb ((i : Int) :: numL ls) = bytesL ls := by unfold bytesL; rw [hlen]
        rw [e1] at hT
        obtain ⟨ao, c1, hS⟩ := hT
        have e0 := cell_of_one hS.here
        have HO := Lib.hid hS.own
        have HB3 := Lib.hid HS.out.2
        obtain ⟨m, hm⟩ : ∃ m, m = (bytesL ls).length := ⟨_, rfl⟩
        rw [← hm] at e0
        have HM := Lib.hid hm
        clear hS HS hm e1
        go_wp2
        go_ret2
        exact ⟨fun _ => ⟨ao, c1, by rw [HM.out]; rfl, HO.out⟩, fun h => absurd HG.out h, HB3.out⟩
  · rw [if_neg hg, nil_nilIface.2] at CK
    have q9 := nine_neq
    have HG := Lib.hid hg
    clear hI hg
    go_enter Try.func17, Try.ntmps17
    go_wp2_with fail
    refine CK.out.mono ?_
    rintro e w1 ⟨rfl, hb1⟩
    have HB := Lib.hid hb1
    clear CK hb1
    go_wp2
    go_ret2
    exact ⟨fun h => absurd h HG.out, fun _ => rfl, HB.out⟩
end Go.Proofs.Ytbkpkakjfhkfaaa
