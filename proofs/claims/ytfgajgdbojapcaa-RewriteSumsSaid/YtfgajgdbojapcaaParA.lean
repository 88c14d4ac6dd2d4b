/- Contracts of packet's Parse and Flow. Conditions: the row came in, of at most 2^62 bytes. -/
import Derived.Test.YtfgajgdbojapcaaRdD
namespace Go.Proofs.Ytfgajgdbojapcaa
open Go Go.RowKit
set_option linter.unusedVariables false
set_option linter.unusedSimpArgs false

theorem is_short {l : List Int} (h : Is l) : (dec l).data.length ≤ 1480 := by
  have h1 := h.1.len
  unfold segLen at h1
  omega
set_option maxRecDepth 100000 in
set_option maxHeartbeats 1000000 in
theorem parse_no (l : List Int) (a : Option Addr) (n c : Nat) (w : World) (hI : In w a n c l) (hn : n ≤ 4611686018427387904) (h : ¬ Is l) :
    Calls Try.prog 22 #[.slice a n c] w fun e w' => e = .returned (.tuple #[zeroV, errno 2]) ∧ Below w.heap.size w w' := by
  obtain ⟨R, hR⟩ : ∃ R, w.alloc (.cells zeroCs 28) = R := ⟨_, rfl⟩
  have hB : Below w.heap.size w R := by rw [← hR]; exact bl_al (Below.refl _ _) _
  have hz : R.heap[w.heap.size]? = some (.cells zeroCs 28 (0, 0)) := by rw [← hR]; exact heap_alloc_new _ _
  have HR := Lib.hid hR
  have HB := Lib.hid hB
  have HZ := Lib.hid hz
  have C := Lib.hid (read_any l a n c R (hI.below hB) hn)
  have HN := Lib.hid h
  clear hI hn h hR hB hz
  go_enter Try.func22, Try.ntmps22
  go_wp2_with fail
  rw [HR.out]
  refine C.out.mono ?_
  rintro e w1 ⟨res, rfl, hres, hb⟩
  obtain rfl : res = .tuple #[zeroV, .bool false] := by
    rcases hres with ⟨_, h⟩ | ⟨h, _⟩
    · exact h
    · exact absurd h HN.out
  have HB1 := Lib.hid (bl_tr HB.out hb)
  have hz1 : w1.heap[w.heap.size]? = some (.cells zeroCs 28 (0, 0)) := (hb.block _ (lt_of_block HZ.out)).trans HZ.out
  have HX : Hid (Rd w w1.heap.size ⟨0, 0, 0, 0, 0, 0, 0, 0, 0, 0, 0, 0, []⟩ none 0 0 (w1.alloc (.cells zeroCs 28))) := Lib.hid ⟨heap_alloc_new _ _, by rw [heap_alloc_old _ _ (lt_of_block hz1)]; exact hz1, lt_of_block hz1, HB1.out.alloc HB1.out.size _⟩
  clear hres hb hz1 HB HZ HR C HB1
  go_upto_if 12 with fail
  obtain ⟨X, hX⟩ : ∃ X, X = w1.alloc (.cells zeroCs 28) := ⟨_, rfl⟩
  rw [← hX] at HX
  rw [← hX]
  obtain ⟨z0, z1, z2, z3, z4, z5, z6, z7, z8, z9, z10, z11, z12⟩ := HX.out.zk
  have zf := HX.out.zfree
  clear hX
  go_wp2
  refine bodyPost_ret (v := .tuple #[zeroV, errno 2]) (by simp [results, Try.results22, go_sem, z0, z1, z2, z3, z4, z5, z6, z7, z8, z9, z10, z11, z12]) rfl ⟨rfl, ?_⟩
  iterate 13 (refine Below.setCell ?_ (by first | exact Nat.le_refl _ | simp) _)
  exact HX.out.below

set_option maxRecDepth 100000 in
set_option maxHeartbeats 1000000 in
theorem parse_yes (l : List Int) (a : Option Addr) (n c : Nat) (w : World) (hI : In w a n c l) (hn : n ≤ 4611686018427387904) (h : Is l) :
    Calls Try.prog 22 #[.slice a n c] w fun e w' => ∃ ao k cp, e = .returned (.tuple #[(dec l).val ao k cp, .nilIface]) ∧ k = (dec l).data.length ∧ w'.ownsRow w.heap.size 5 1 (.slice ao k cp) k (u8s (dec l).data) ∧ Below w.heap.size w w' := by
  obtain ⟨R, hR⟩ : ∃ R, w.alloc (.cells zeroCs 28) = R := ⟨_, rfl⟩
  have hB : Below w.heap.size w R := by rw [← hR]; exact bl_al (Below.refl _ _) _
  have hz : R.heap[w.heap.size]? = some (.cells zeroCs 28 (0, 0)) := by rw [← hR]; exact heap_alloc_new _ _
  have HR := Lib.hid hR
  have HB := Lib.hid hB
  have HZ := Lib.hid hz
  have C := Lib.hid (read_any l a n c R (hI.below hB) hn)
  have HN := Lib.hid h
  have HSH := Lib.hid (is_short h)
  clear hI hn h hR hB hz
  go_enter Try.func22, Try.ntmps22
  go_wp2_with fail
  rw [HR.out]
  refine C.out.mono ?_
  rintro e w1 ⟨res, rfl, hres, hb⟩
  obtain ⟨D, hD⟩ : ∃ D, D = dec l := ⟨_, rfl⟩
  rw [← hD] at HSH
  have HDl := Lib.hid hD
  obtain ⟨ad, k, cp, rfl, hIn⟩ : ∃ ad k cp, res = .tuple #[D.val (some ad) k cp, .bool true] ∧ In w1 (some ad) k cp D.data := by
    rcases hres with ⟨h, _⟩ | ⟨_, h⟩
    · exact absurd HN.out h
    · rw [hD]; exact h
  have HB1 := Lib.hid (bl_tr HB.out hb)
  have HZ1 : Hid (w1.heap[w.heap.size]? = some (.cells zeroCs 28 (0, 0))) := Lib.hid ((hb.block _ (lt_of_block HZ.out)).trans HZ.out)
  have HIN := Lib.hid hIn
  have hk : k ≤ 1048576 := by have := hIn.len; have := HSH.out; omega
  have HKL := Lib.hid hIn.len.symm
  clear hres hb HB HZ HR C hD hIn HN HSH
  go_wp2_with fail
  have HX : Hid (Rd w w1.heap.size D (some ad) k cp (w1.alloc (D.obj (some ad) k cp))) := Lib.hid ⟨heap_alloc_new _ _, by rw [heap_alloc_old _ _ (lt_of_block HZ1.out)]; exact HZ1.out, lt_of_block HZ1.out, HB1.out.alloc HB1.out.size _⟩
  refine (clone_any D.data ad k cp _ (HIN.out.below (bl_al (Below.refl _ _) _)) hk).mono ?_
  rintro e w2 ⟨ao, c2, rfl, hown, hb⟩
  have HX2 := Lib.hid (HX.out.later hb)
  have hq : w1.heap.size < (w1.alloc (D.obj (some ad) k cp)).heap.size := by simp
  have hr := HX.out.lt
  have HQ := Lib.hid hq
  have HOW := Lib.hid hown
  obtain ⟨q, hqq⟩ : ∃ q, q = w1.heap.size := ⟨_, rfl⟩
  obtain ⟨bs, hbs⟩ : ∃ bs, bs = (w1.alloc (D.obj (some ad) k cp)).heap.size := ⟨_, rfl⟩
  rw [← hqq] at HX2 hr
  rw [← hqq, ← hbs] at HQ
  rw [← hbs] at HOW
  rw [← hqq]
  obtain ⟨x0, x1, x2, x3, x4, x5, x6, x7, x8, x9, x10, x11, x12⟩ := HX2.out.pk
  have xf := HX2.out.free
  obtain ⟨z0, z1, z2, z3, z4, z5, z6, z7, z8, z9, z10, z11, z12⟩ := HX2.out.zk
  have zf := HX2.out.zfree
  have hne : ¬ w.heap.size = q := by omega
  have hne2 : ¬ q = w.heap.size := by omega
  clear hown hb hq hqq hbs HX HZ1 HB1
  go_wp2
  refine bodyPost_ret (v := .tuple #[D.val ao k c2, .nilIface]) (by simp [results, Try.results22, go_sem, z0, z1, z2, z3, z4, z5, z6, z7, z8, z9, z10, z11, z12]) rfl ⟨ao, k, c2, by rw [HDl.out], by rw [← HDl.out]; exact HKL.out, ?_, ?_⟩
  · rw [← HDl.out]
    refine own_base (B := bs) ?_ (Nat.le_of_lt (Nat.lt_trans hr HQ.out))
    iterate 13 (refine ownsRow_setCell_below ?_ (by exact Nat.lt_trans hr HQ.out) _)
    exact ownsRow_setCell_below HOW.out HQ.out _
  · iterate 13 (refine Below.setCell ?_ (by first | exact Nat.le_refl _ | simp) _)
    refine Below.setCell (p := ⟨q, 12, none⟩) ?_ (Nat.le_of_lt hr) _
    exact HX2.out.below
end Go.Proofs.Ytfgajgdbojapcaa
