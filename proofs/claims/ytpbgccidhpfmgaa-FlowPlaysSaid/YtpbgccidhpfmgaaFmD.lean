/- The program's table: Get. Conditions: as each states. -/
import Derived.Test.YtpbgccidhpfmgaaFmC
import Derived.Deep.RegionHeld3
import Derived.Deep.RegionWith
namespace Go.Proofs.Ytpbgccidhpfmgaa
open Go Go.RowKit Go.Maps
set_option linter.unusedVariables false
set_option linter.unusedSimpArgs false

/-- A struct's two boxes of a call: the flow, the result. -/
theorem get_boxes (w : World) (f : Fl) : ∃ W, (w.alloc f.obj).alloc (.cells zeroE tyE) = W ∧ FlAt W w.heap.size f ∧ BxE W (w.heap.size + 1) en0 ∧ Below w.heap.size w W ∧ W.heap.size = w.heap.size + 2 := by
  have hs1 : (w.alloc f.obj).heap.size = w.heap.size + 1 := by simp
  refine ⟨_, rfl, flAt_below (flAt_new w f) (bl_al (Below.refl _ _) _) (by simp), ?_, bl_al (bl_al (Below.refl _ _) _) _, by simp⟩
  rw [← hs1]
  exact zero_new _
theorem bl_dr {B : Nat} {w w' : World} (h : Below B w w') : Below B w w'.drew := ⟨h.os, h.tape, h.output, h.size, h.block⟩
set_option maxRecDepth 100000 in
set_option maxHeartbeats 2000000 in
theorem tget_t (B p : Nat) (F : Nat → Prop) (qt qu : Int) (l : List En) (f : Fl) (w : World) (h : TSt w B F p qt qu l) (hB : B ≤ w.heap.size) (hn : l.length ≤ 1048576) (hf : FitF f) :
    Calls Try.prog 19 #[.pointer (some ⟨p, 0, none⟩), f.val] w fun e w' => e = .returned (getR (findE f l)) ∧ TTo TSt w B F p qt qu l w' := by
  obtain ⟨b, hF, hne, hc, hm⟩ := h.map
  obtain ⟨W, hW, ff, hz, hb1, hsz⟩ := get_boxes w f
  have hcW := hc.tch (tch_new hb1) (fun h => h)
  have hmW := hm.tch (tch_new hb1) (fun h => h)
  have c2 := hcW.cs.2.2.1
  obtain ⟨x, hx⟩ : ∃ x, x = (findE f l).getD en0 := ⟨_, rfl⟩
  have hR : Hid (getR (findE f l) = .tuple #[x.val, .bool (findE f l).isSome]) := Lib.hid (by rw [hx]; rfl)
  obtain ⟨s, hs⟩ : ∃ s, s = (findE f l).isSome := ⟨_, rfl⟩
  have hl1 : ∀ X : World, X.heap[b]? = W.heap[b]? → (Instr.lookup tyM (.map (some b)) f.val true).run Try.prog X = .ok (.tuple #[x.val, .bool s]) X := fun X hX => by
    rw [(hmW.block hX).look hf, hx, hs]
  have k1 := hl1 W.drew rfl
  have k2 := hl1 (W.alloc (.cells zeroE tyE)).drew ((MapKept.heap_alloc _ _).2 b hmW.lt)
  have k3 := hl1 W rfl
  have k4 := hl1 (W.alloc (.cells zeroE tyE)) ((MapKept.heap_alloc _ _).2 b hmW.lt)
  have hO := orE_c p
  obtain ⟨q, hq⟩ : ∃ q, q = w.heap.size := ⟨_, rfl⟩
  rw [← hq] at ff hz hsz
  obtain ⟨d0, d1, d2, d3, d4⟩ := ff
  have HW := Lib.hid hW
  have HQ := Lib.hid hq
  have HS := Lib.hid hs
  have HT := Lib.hid h
  have HB := Lib.hid hb1
  have HZ := Lib.hid hz
  have hpl : p < W.heap.size := hcW.lt
  clear hl1 hcW hmW hc hm h hW hb1 hq hs hx hz hne
  go_enter Try.func19, Try.ntmps19
  go_upto_region 1 with fail
  rw [HW.out, ← HQ.out]
  have hS0 : W.drew.cell? ⟨p, 2, none⟩ = some (.map (some b)) ∧ W.drew.cell? ⟨q, 0, none⟩ = some (.int .i64 f.p) ∧ W.drew.cell? ⟨q, 1, none⟩ = some (.int .u32 f.s) ∧ W.drew.cell? ⟨q, 2, none⟩ = some (.int .i64 f.sp) ∧ W.drew.cell? ⟨q, 3, none⟩ = some (.int .u32 f.d) ∧ W.drew.cell? ⟨q, 4, none⟩ = some (.int .i64 f.dp) := ⟨c2, d0, d1, d2, d3, d4⟩
  go_region_held3 (fun wx => wx.cell? ⟨p, 2, none⟩ = some (.map (some b)) ∧ wx.cell? ⟨q, 0, none⟩ = some (.int .i64 f.p) ∧ wx.cell? ⟨q, 1, none⟩ = some (.int .u32 f.s) ∧ wx.cell? ⟨q, 2, none⟩ = some (.int .i64 f.sp) ∧ wx.cell? ⟨q, 3, none⟩ = some (.int .u32 f.d) ∧ wx.cell? ⟨q, 4, none⟩ = some (.int .i64 f.dp)) (first | (with_reducible exact hS0) | go_keep | fail)
    (first | (go_at_call 56; (with_reducible refine (hO _).mono ?_); rintro e w5 ⟨rfl, rfl⟩) | fail)
  all_goals (
    obtain ⟨W2, hW2⟩ : ∃ v, v = W.alloc x.obj := ⟨_, rfl⟩
    have hx2 : BxE W2 (q + 2) x := by rw [hW2, ← hsz]; exact BxE.new W x
    have hz2 : BxE W2 (q + 1) en0 := by rw [hW2]; exact HZ.out.keep (tch_new (bl_al (Below.refl _ _) _)) (fun h => h)
    have HB2 : Hid (Below w.heap.size w W2) := Lib.hid (by rw [hW2]; exact bl_al HB.out _)
    rw [← hW2]
    obtain ⟨e0, e1, e2, e3, e4, e5, e6, e7, e8, e9⟩ := hx2.cs
    obtain ⟨b0, b1, b2, b3, b4, b5, b6, b7, b8, b9⟩ := hz2.cs
    have bf := hz2.free
    obtain ⟨W3, hW3⟩ : ∃ v, v = stE W2 (q + 1) x := ⟨_, rfl⟩
    have hx3 : BxE W3 (q + 1) x := by rw [hW3]; exact hz2.set x
    have HB3 : Hid (Below w.heap.size w W3) := Lib.hid (by rw [hW3]; exact bl_st HB2.out (by rw [HQ.out]; omega) x)
    dsimp only [stE] at hW3
    have HW3 := Lib.hid hW3
    clear hx2 hz2 hW2 hW3 k1 k2 k3 k4 hS0 d0 d1 d2 d3 d4 c2 hO
    go_wp2
    rw [← HW3.out]
    obtain ⟨a0, a1, a2, a3, a4, a5, a6, a7, a8, a9⟩ := hx3.cs
    refine bodyPost_ret (v := .tuple #[x.val, .bool s]) (by simp [results, Try.results19, go_sem, a0, a1, a2, a3, a4, a5, a6, a7, a8, a9]) rfl ?_
    exact ⟨by rw [hR.out, HS.out], HT.out.stay (bl_dr HB3.out)⟩)
theorem look_nilM {w : World} {f : Fl} (hf : FitF f) : (Instr.lookup tyM (.map none) f.val true).run Try.prog w = .ok (.tuple #[en0.val, .bool false]) w := by
  obtain ⟨kl, hk⟩ := keyF hf
  exact Maps.look_nil true lawF Try.underlying106 (zeroM w) hk
set_option maxRecDepth 100000 in
set_option maxHeartbeats 2000000 in
theorem tgetN_t (f : Fl) (w : World) (hf : FitF f) : Calls Try.prog 19 #[.pointer none, f.val] w fun e w' => e = .returned (getR none) ∧ Below w.heap.size w w' := by
  obtain ⟨W, hW, ff, hz, hb1, hsz⟩ := get_boxes w f
  have k1 := fun X : World => look_nilM (w := X) hf
  have hO := Lib.hid (fun U => orE_n U)
  obtain ⟨q, hq⟩ : ∃ q, q = w.heap.size := ⟨_, rfl⟩
  rw [← hq] at ff hz hsz
  have HFF := Lib.hid ff
  obtain ⟨d0, d1, d2, d3, d4⟩ := ff
  have HW := Lib.hid hW
  have HQ := Lib.hid hq
  have HB := Lib.hid hb1
  have HZ := Lib.hid hz
  clear hW hb1 hq hz
  go_enter Try.func19, Try.ntmps19
  go_upto_region 1 with fail
  rw [HW.out, ← HQ.out]
  go_region_with (go_at_call 56; refine (hO.out _).mono ?_; rintro e w5 ⟨rfl, rfl⟩)
  all_goals first
    | (
      obtain ⟨W2, hW2⟩ : ∃ v, v = (W.alloc tbl0).alloc en0.obj := ⟨_, rfl⟩
      have hs1 : (W.alloc tbl0).heap.size = q + 2 + 1 := by simp [hsz]
      have hx2 : BxE W2 (q + 2 + 1) en0 := by rw [hW2, ← hs1]; exact BxE.new (W.alloc tbl0) en0
      have hz2 : BxE W2 (q + 1) en0 := by rw [hW2]; exact HZ.out.keep (tch_new (bl_al (bl_al (Below.refl _ _) _) _)) (fun h => h)
      have HB2 : Hid (Below w.heap.size w W2) := Lib.hid (by rw [hW2]; exact bl_al (bl_al HB.out _) _)
      rw [← hW2]
      obtain ⟨e0, e1, e2, e3, e4, e5, e6, e7, e8, e9⟩ := hx2.cs
      obtain ⟨b0, b1, b2, b3, b4, b5, b6, b7, b8, b9⟩ := hz2.cs
      have bf := hz2.free
      obtain ⟨W3, hW3⟩ : ∃ v, v = stE W2 (q + 1) en0 := ⟨_, rfl⟩
      have hx3 : BxE W3 (q + 1) en0 := by rw [hW3]; exact hz2.set en0
      have HB3 : Hid (Below w.heap.size w W3) := Lib.hid (by rw [hW3]; exact bl_st HB2.out (by rw [HQ.out]; omega) en0)
      dsimp only [stE] at hW3
      have HW3 := Lib.hid hW3
      clear hx2 hz2 hW2 hW3 k1 d0 d1 d2 d3 d4 hO hs1
      go_wp2
      rw [← HW3.out]
      obtain ⟨a0, a1, a2, a3, a4, a5, a6, a7, a8, a9⟩ := hx3.cs
      refine bodyPost_ret (v := .tuple #[en0.val, .bool false]) (by simp [results, Try.results19, go_sem, a0, a1, a2, a3, a4, a5, a6, a7, a8, a9]) rfl ?_
      exact ⟨rfl, bl_dr HB3.out⟩)
    | (
      obtain ⟨W2, hW2⟩ : ∃ v, v = (W.alloc en0.obj).alloc tbl0 := ⟨_, rfl⟩
      have hs1 : (W.alloc tbl0).heap.size = q + 2 + 1 := by simp [hsz]
      have hx2 : BxE W2 (q + 2) en0 := by rw [hW2, ← hsz]; exact (BxE.new W en0).keep (tch_new (bl_al (Below.refl _ _) _)) (fun h => h)
      have hz2 : BxE W2 (q + 1) en0 := by rw [hW2]; exact HZ.out.keep (tch_new (bl_al (bl_al (Below.refl _ _) _) _)) (fun h => h)
      have HB2 : Hid (Below w.heap.size w W2) := Lib.hid (by rw [hW2]; exact bl_al (bl_al HB.out _) _)
      rw [← hW2]
      obtain ⟨e0, e1, e2, e3, e4, e5, e6, e7, e8, e9⟩ := hx2.cs
      obtain ⟨b0, b1, b2, b3, b4, b5, b6, b7, b8, b9⟩ := hz2.cs
      have bf := hz2.free
      obtain ⟨W3, hW3⟩ : ∃ v, v = stE W2 (q + 1) en0 := ⟨_, rfl⟩
      have hx3 : BxE W3 (q + 1) en0 := by rw [hW3]; exact hz2.set en0
      have HB3 : Hid (Below w.heap.size w W3) := Lib.hid (by rw [hW3]; exact bl_st HB2.out (by rw [HQ.out]; omega) en0)
      dsimp only [stE] at hW3
      have HW3 := Lib.hid hW3
      clear hx2 hz2 hW2 hW3 k1 d0 d1 d2 d3 d4 hO hs1
      go_wp2
      rw [← HW3.out]
      obtain ⟨a0, a1, a2, a3, a4, a5, a6, a7, a8, a9⟩ := hx3.cs
      refine bodyPost_ret (v := .tuple #[en0.val, .bool false]) (by simp [results, Try.results19, go_sem, a0, a1, a2, a3, a4, a5, a6, a7, a8, a9]) rfl ?_
      exact ⟨rfl, bl_dr HB3.out⟩)
end Go.Proofs.Ytpbgccidhpfmgaa
