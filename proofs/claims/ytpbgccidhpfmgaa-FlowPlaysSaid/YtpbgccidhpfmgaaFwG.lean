/- The document's table: Get; lists of entries, of flows, compared. Conditions: at most 2^20 entries. -/
import Derived.Test.YtpbgccidhpfmgaaFwF
namespace Go.Proofs.Ytpbgccidhpfmgaa
open Go Go.RowKit
set_option linter.unusedVariables false
set_option linter.unusedSimpArgs false

def getR (o : Option En) : Value := .tuple #[(o.getD en0).val, .bool o.isSome]
abbrev zeroE : Array Value := #[.int .i64 0, .int .u32 0, .int .i64 0, .int .u32 0, .int .i64 0, .int .u32 0, .int .i64 0, .bool false, .bool false, .int .i64 0]
theorem zero_new (w : World) : BxE (w.alloc (.cells zeroE tyE)) w.heap.size en0 := BxE.new w en0
theorem bl_st {w W : World} {q : Nat} (h : Below w.heap.size w W) (hq : w.heap.size ≤ q) (e : En) : Below w.heap.size w (stE W q e) :=
  h.trans ((stE_tch W q e).below (fun k hk => by subst hk; exact hq) h.size)
set_option maxRecDepth 100000 in
set_option maxHeartbeats 2000000 in
theorem refGet_c (B m : Nat) (F : Nat → Prop) (qt qu : Int) (l : List En) (f : Fl) (w : World) (hR : RtS w B F m qt qu l) (hn : l.length ≤ 1048576) :
    Calls Try.prog 20 #[.pointer (some ⟨m, 0, none⟩), f.val] w fun e w' => e = .returned (getR (findE f l)) ∧ Below w.heap.size w w' := by
  obtain ⟨ao, n, c, hM, _⟩ := hR.here
  have hlen := ownE_len hM.row
  obtain ⟨W, hW⟩ : ∃ W, W = (w.alloc f.obj).alloc (.cells zeroE tyE) := ⟨_, rfl⟩
  have hb1 : Below w.heap.size w W := by rw [hW]; exact bl_al (bl_al (Below.refl _ _) _) _
  have hs1 : (w.alloc f.obj).heap.size = w.heap.size + 1 := by simp
  have hz : BxE W (w.heap.size + 1) en0 := by rw [hW, ← hs1]; exact zero_new _
  have hf : FlAt W w.heap.size f := by
    rw [hW]
    exact flAt_below (flAt_new w f) (bl_al (Below.refl _ _) _) (by simp)
  have hMW := hM.keep (tch_new hb1) (fun h => h) (fun _ _ h => h)
  have CF := Lib.hid (refFind_c B m n c qt qu f l ao W hMW (by omega))
  obtain ⟨p, hp⟩ : ∃ p, p = w.heap.size := ⟨_, rfl⟩
  rw [← hp] at hz hf
  obtain ⟨d0, d1, d2, d3, d4⟩ := hf
  have HW := Lib.hid hW
  have HP := Lib.hid hp
  have HB1 := Lib.hid hb1
  have HZ := Lib.hid hz
  have HM := Lib.hid hMW
  clear hR hM hW hb1 hz hMW hp hs1
  go_enter Try.func20, Try.ntmps20
  go_upto_region 1 with fail
  rw [← HW.out, ← HP.out]
  go_wp2_with fail
  refine CF.out.mono ?_
  rintro e w1 ⟨⟨k, rfl, hF⟩, hb⟩
  have HBB := Lib.hid (HB1.out.trans (hb.mono HB1.out.size))
  have hz1 := HZ.out.keep (tch_new hb) (fun h => h)
  have hM1 := HM.out.keep (tch_new hb) (fun h => h) (fun _ _ h => h)
  obtain ⟨b0, b1, b2, b3, b4, b5, b6, b7, b8, b9⟩ := hz1.at
  have bf := hz1.free
  have q0 := hM1.c0
  clear CF hb d0 d1 d2 d3 d4
  rcases hF with ⟨rfl, h1⟩ | ⟨i, rfl, h2, _, h1⟩
  · have H1 := Lib.hid h1
    have HQ := Lib.hid (bl_st HBB.out (q := p + 1) (by rw [HP.out]; omega) en0)
    clear hz1 hM1 h1
    go_wp2
    refine bodyPost_ret (v := getR none) (by simp [results, Try.results20, go_sem, b0, b1, b2, b3, b4, b5, b6, b7, b8, b9, getR, en0, fl0]) rfl ?_
    exact ⟨by rw [H1.out], HQ.out⟩
  · have H1 := Lib.hid h1
    obtain ⟨g, rfl, _, hE⟩ := ownE_cell hM1.row (j := i) (by omega)
    obtain ⟨x, hx⟩ : ∃ x, x = l.getD i en0 := ⟨_, rfl⟩
    rw [← hx] at hE H1
    obtain ⟨c0, c1, c2, c3, c4, c5, c6, c7, c8, c9⟩ := hE
    have ii : (i : Int) < (n : Int) := by omega
    have i0 : (0 : Int) ≤ (i : Int) := by omega
    have HQ := Lib.hid (bl_st HBB.out (q := p + 1) (by rw [HP.out]; omega) x)
    clear hz1 hM1 h1 hx
    go_wp2
    refine bodyPost_ret (v := getR (some x)) (by simp [results, Try.results20, go_sem, b0, b1, b2, b3, b4, b5, b6, b7, b8, b9, getR]) rfl ?_
    exact ⟨by rw [H1.out], HQ.out⟩
end Go.Proofs.Ytpbgccidhpfmgaa
