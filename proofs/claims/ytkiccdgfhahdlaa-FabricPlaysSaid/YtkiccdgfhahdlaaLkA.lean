/- Like and Same of like letters. Conditions: those stated. -/
import Derived.Test.YtkiccdgfhahdlaaRfP
import Derived.LoopTactic
import Derived.Deep.RegionHeld3
namespace Go.Proofs.Ytkiccdgfhahdlaa
open Go Go.RowKit
set_option linter.unusedVariables false
set_option linter.unusedSimpArgs false

set_option maxRecDepth 100000 in
set_option maxHeartbeats 1000000 in
theorem like_t (l : Lt) (a b : Option Addr) (n c k d : Nat) (w : World) (hA : At w (.slice a n c) l.bs) (hn : l.bs.length = n) (hB : At w (.slice b k d) l.bs) (hk : l.bs.length = k) :
    Calls Try.prog 20 #[l.val (.slice a n c), l.val (.slice b k d)] w fun e w' => e = .returned (.bool true) ∧ Tch Non w w' := by
  obtain ⟨X, hX⟩ : ∃ X, X = w.alloc (.cells #[.int .i64 l.id, .int .i64 l.frm, .int .i64 l.dst, .bool l.ctl, .slice a n c] tyL) := ⟨_, rfl⟩
  obtain ⟨Y, hY⟩ : ∃ Y, Y = X.alloc (.cells #[.int .i64 l.id, .int .i64 l.frm, .int .i64 l.dst, .bool l.ctl, .slice b k d] tyL) := ⟨_, rfl⟩
  have hT1 : Tch Non w X := by rw [hX]; exact tch_alloc _ _
  have hT2 : Tch Non X Y := by rw [hY]; exact tch_alloc _ _
  have hb : Below w.heap.size w Y := by rw [hY, hX]; exact bl_al (bl_al (Below.refl _ _) _) _
  have h1 : Bx Y w.heap.size l (.slice a n c) := Bx.keep (by rw [hX]; exact Bx.new w l _) hT2 (fun h => h)
  have h2 : Bx Y X.heap.size l (.slice b k d) := by rw [hY]; exact Bx.new X l _
  have hT := Lib.hid (hT1.trans hT2)
  have s1 := str_of (hA.below hb) hn
  have s2 := str_of (hB.below hb) hk
  obtain ⟨s, hs⟩ : ∃ s, s = strOfNums l.bs := ⟨_, rfl⟩
  rw [← hs] at s1 s2
  obtain ⟨p, hp⟩ : ∃ p, p = w.heap.size := ⟨_, rfl⟩
  have hxs : X.heap.size = w.heap.size + 1 := by rw [hX]; simp
  rw [hxs] at h2
  obtain ⟨q, hq⟩ : ∃ q, q = w.heap.size + 1 := ⟨_, rfl⟩
  rw [← hp] at h1
  rw [← hq] at h2
  obtain ⟨a0, a1, a2, a3, a4⟩ := h1.cell
  obtain ⟨b0, b1, b2, b3, b4⟩ := h2.cell
  have HX := Lib.hid hX
  have HY := Lib.hid hY
  have HP := Lib.hid hp
  have HQ := Lib.hid hq
  clear hA hB hn hk hT1 hT2 hb h1 h2 hs hp hq hX hY hxs
  obtain ⟨i, f, t, ct, bs⟩ := l
  unfold Lt.val
  simp only at a0 a1 a2 a3 b0 b1 b2 b3 HX HY
  have q1 : (i == i) = true := by simp
  have q2 : (f == f) = true := by simp
  have q3 : (t == t) = true := by simp
  have q4 : (ct == ct) = true := by simp
  go_enter Try.func20, Try.ntmps20
  go_upto_region 1 with fail
  rw [← HX.out, ← HY.out, ← HQ.out, ← HP.out]
  clear HX HY HP HQ
  go_wp2
  go_ret
  exact ⟨rfl, hT.out⟩
end Go.Proofs.Ytkiccdgfhahdlaa
