/- The program's Check. Condition: the row came in. -/
import Derived.Test.YtkacbeighaccjaaRdS
import Derived.Test.YtkacbeighaccjaaRgS
namespace Go.Proofs.Ytkacbeighaccjaa
open Go Go.RowKit
set_option linter.unusedVariables false
set_option linter.unusedSimpArgs false

theorem twins_c (es : List En) (k : Nat) (d : Int) (g b off n c c' : Nat) (w : World) (hI : InE w (some ⟨b, off, none⟩) n c es) (hn : n ≤ 1048576) (hk : k ≤ n) (h0 : 0 < n) (hc : w.cell? ⟨g, 0, none⟩ = some (.int .u32 d)) :
    Calls Try.prog 47 #[.slice (some ⟨b, off, none⟩) k c', .func (.func 45) #[] #[.pointer (some ⟨g, 0, none⟩)]] w fun r w' => r = .returned (.bool ((es.take k).any (fun e => e.dip == d))) ∧ Below w.heap.size w w' := by
  have eg : ∀ args w, (callFunc 45 args).run Try.prog w = .ok (.enter 45 args) w := enters_of Try.func45 (by kernel_rfl) rfl
  have hl := hI.len
  have hg := block_lt_of_cell hc
  refine AnyQ.slices_ContainsFunc Try.containsE 3 Try.isAgg51 Try.sizeOf51 En.cs (fun _ => rfl) (fun e => e.dip == d) 45 #[.pointer (some ⟨g, 0, none⟩)] eg b off k c' es w ?_ (by omega) (by omega) (block_lt_of_cell (hI.cell h0).1) ?_
  · intro W x hb
    have hcW : W.cell? ⟨g, 0, none⟩ = some (.int .u32 d) := (hb.cell (p := ⟨g, 0, none⟩) hg).trans hc
    exact (twin_c x d g W hcW).mono (fun r w' h => ⟨h.1, bl_tr hb h.2⟩)
  · intro j hj i v hv
    have e1 : es[j]! = es.getD j en0 := by rw [getElem!_pos es j hj, List.getD_eq_getElem?_getD, List.getElem?_eq_getElem hj]; rfl
    rw [e1] at hv
    obtain ⟨c0, c1, c2⟩ := hI.cell (j := j) (by omega)
    have hi : i < 3 := by
      rcases Nat.lt_or_ge i 3 with h | h
      · exact h
      · rw [List.getElem?_eq_none (by simp [En.cs]; omega)] at hv; cases hv
    rcases (by omega : i = 0 ∨ i = 1 ∨ i = 2) with rfl | rfl | rfl
    · cases hv; exact c0
    · cases hv; exact c1
    · cases hv; exact c2
/-- What Check has seen. -/
theorem any_dip {es : List En} {k : Nat} {d : Int} : (es.take k).any (fun e => e.dip == d) = true ↔ d ∈ (es.take k).map (·.dip) := by
  rw [List.any_eq_true, List.mem_map]
  constructor
  · rintro ⟨e, he, h⟩
    exact ⟨e, he, by simpa using h⟩
  · rintro ⟨e, he, h⟩
    exact ⟨e, he, by simpa using h⟩
set_option maxRecDepth 100000 in
set_option maxHeartbeats 4000000 in
theorem rcheck_c (es : List En) (a : Option Addr) (n c : Nat) (w : World) (hI : InE w a n c es) (hn : n ≤ 1048576) (z : Int) (hz : CkZ es z) :
    Calls Try.prog 27 #[.slice a n c] w fun e w' => e = .returned (errR z) ∧ Below w.heap.size w w' := by
  have hlen := hI.len
  have HI := Lib.hid hI
  have HZ := Lib.hid hz
  have hroom := hI.room
  by_cases hl : 64 < n
  · have HE : Hid (z = 9) := Lib.hid (hz.2 (fun h => by have := h.1; omega))
    have il : (64 : Int) < (n : Int) := by omega
    clear hI hz
    go_enter Try.func27, Try.ntmps27
    go_wp2
    go_ret
    exact ⟨by rw [HE.out]; rfl, Below.refl _ _⟩
  · have il : ¬ (64 : Int) < (n : Int) := by omega
    have L0 : Hid (PreE es 0) := Lib.hid ⟨fun e he => by simp at he, by simp⟩
    have HB0 := Lib.hid (Below.refl w.heap.size w)
    clear hI hz
    go_enter Try.func27, Try.ntmps27
    go_wp2
    go_loopw [12] (fun iv wr => ∃ i : Nat, i ≤ n ∧ iv = .int .i64 i ∧ Hid (PreE es i) ∧ Hid (Below w.heap.size w wr)) (fun iv _ => n - (intOf iv).toNat)
    case atStart => exact ⟨0, by omega, rfl, L0, HB0⟩
    case round =>
      obtain ⟨i, hi, rfl, HP, HB⟩ := hrel
      obtain ⟨w2, rfl⟩ : ∃ v, v = wr := ⟨_, rfl⟩
      clear L0 HB0
      by_cases hlt : i < n
      · have hI2 := HI.out.below HB.out
        obtain ⟨b1, o1, rfl⟩ := HI.out.block (by omega)
        have ii : (i : Int) < (n : Int) := by omega
        have i0 : (0 : Int) ≤ (i : Int) := by omega
        have ic : (i : Int) ≤ (c : Int) := by omega
        obtain ⟨c0, c1, c2⟩ := hI2.cell hlt
        have ht := HI.out.typ _ (memE (es := es) (i := i) (by omega))
        obtain ⟨w3, hw3⟩ : ∃ w3, w3 = w2.alloc (es.getD i en0).obj := ⟨_, rfl⟩
        have hA := enAt_new w2 (es.getD i en0)
        have hb3 : Below w2.heap.size w2 w3 := by rw [hw3]; exact bl_al (Below.refl _ _) _
        rw [← hw3] at hA
        have HI3 := Lib.hid (hI2.below hb3)
        have HB3 := Lib.hid (bl_tr HB.out hb3)
        have HNo := Lib.hid (fun h : ¬ GoodE (es.getD i en0) => (fun hok : OkE es => h (hok.2.1 _ (memE (by omega))) : ¬ OkE es))
        have HDu := Lib.hid (dup_not (es := es) (i := i) (by omega))
        have HSt := Lib.hid (HP.out.step (by omega))
        obtain ⟨B, hB⟩ : ∃ B, B = w2.heap.size := ⟨_, rfl⟩
        rw [← hB] at hA
        obtain ⟨e, he⟩ : ∃ e, e = es.getD i en0 := ⟨_, rfl⟩
        have CE := Lib.hid (fun zb h => isEnd_c e w3 (he ▸ ht) zb h)
        rw [← he] at c0 c1 c2 hA HNo HDu HSt hw3
        have HA := Lib.hid hA
        have HW3 := Lib.hid (And.intro hw3 hB)
        obtain ⟨d, p, t⟩ := e
        obtain ⟨a0, a1, a2⟩ := hA
        clear hw3 hB he ht hb3 hI2
        by_cases hg : GoodE ⟨d, p, t⟩
        · have CE1 := Lib.hid (CE.out true ⟨fun _ => hg, fun _ => rfl⟩)
          have HG := Lib.hid hg
          obtain ⟨zb, hzb⟩ : ∃ zb, zb = (es.take i).any (fun e => e.dip == d) := ⟨_, rfl⟩
          have CT := Lib.hid (fun (W : World) (hb : Below w3.heap.size w3 W) (c' : Nat) => twins_c es i d B b1 o1 n c c' W (HI3.out.below hb) hn hi (by omega) ((hb.cell (p := ⟨B, 0, none⟩) (block_lt_of_cell HA.out.1)).trans HA.out.1))
          rw [← hzb] at CT
          have HZB := Lib.hid hzb
          clear hg hzb CE
          go_upto_region 6 with fail
          rw [show w2.alloc (.cells #[.int .u32 d, .int .i64 p, .int .i64 t] tyE) = w3 from HW3.out.1.symm, ← HW3.out.2]
          clear c0 c1 c2
          go_wp2_with fail
          refine CE1.out.mono ?_
          rintro r w4 ⟨rfl, hb4⟩
          have HB4 := Lib.hid hb4
          clear hb4
          go_wp2_with fail
          refine (CT.out w4 HB4.out c).mono ?_
          rintro r w5 ⟨rfl, hb5⟩
          have HB5 := Lib.hid (bl_tr HB3.out (bl_tr HB4.out hb5))
          clear hb5 CT
          cases zb with
          | true =>
            have HE : Hid (z = 9) := Lib.hid (HZ.out.2 (HDu.out (any_dip.1 HZB.out.symm)))
            go_wp2
            go_ret
            exact ⟨by rw [HE.out]; rfl, HB5.out⟩
          | false =>
            have HP2 : Hid (PreE es (i + 1)) := Lib.hid (HSt.out HG.out (fun h => by have := HZB.out; rw [any_dip.2 h] at this; simp at this))
            go_wp2
            go_roundw
            case rel => exact ⟨i + 1, by omega, by go_num, HP2, HB5⟩
            case measure => simp [intOf]; omega
        · have CE1 := Lib.hid (CE.out false ⟨fun h => by simp at h, fun h => absurd h hg⟩)
          have HE : Hid (z = 9) := Lib.hid (HZ.out.2 (HNo.out hg))
          clear hg CE
          go_upto_region 6 with fail
          rw [show w2.alloc (.cells #[.int .u32 d, .int .i64 p, .int .i64 t] tyE) = w3 from HW3.out.1.symm, ← HW3.out.2]
          clear c0 c1 c2
          go_wp2_with fail
          refine CE1.out.mono ?_
          rintro r w4 ⟨rfl, hb4⟩
          have HB4 := Lib.hid (bl_tr HB3.out hb4)
          clear hb4
          go_wp2
          go_ret
          exact ⟨by rw [HE.out]; rfl, HB4.out⟩
      · have ii : ¬ (i : Int) < (n : Int) := by omega
        have HE : Hid (z = 0) := Lib.hid (HZ.out.1 ⟨by omega, by have := HP.out.1; rwa [List.take_of_length_le (by omega)] at this, by have := HP.out.2; rwa [List.take_of_length_le (by omega)] at this⟩)
        go_wp2
        go_ret
        exact ⟨by rw [HE.out]; rfl, HB.out⟩
end Go.Proofs.Ytkacbeighaccjaa
