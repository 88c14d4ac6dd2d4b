/- The document's Choose. Conditions: the row came in; the flow's addresses fit their kinds. -/
import Derived.Test.YtkacbeighaccjaaRgE
import Derived.Deep.RegionHeld3
namespace Go.Proofs.Ytkacbeighaccjaa
open Go Go.RowKit
set_option linter.unusedVariables false
set_option linter.unusedSimpArgs false

/-- An end's scores: the greatest first, so each stands with its sign turned; whose it is. -/
def scE (f : Fl) (e : En) (j : Nat) : Int := hashF (e.dip * 256 + j) f
def nW (e : En) : Nat := min e.wt.toNat 16
def scO (f : Fl) (e : En) (i j : Nat) : List Wy := (List.range j).map (fun j => (-(scE f e j), (i : Int)))
def scP (f : Fl) (es : List En) (i : Nat) : List Wy := (List.range i).flatMap (fun i => scO f (es.getD i en0) i (nW (es.getD i en0)))
/-- Which one is chosen; -1: none. -/
def Chosen (f : Fl) (es : List En) (k : Int) : Prop := ∃ top, BestW (scP f es es.length) k top
theorem scO_step (f : Fl) (e : En) (i j : Nat) : scO f e i (j + 1) = scO f e i j ++ [(-(scE f e j), (i : Int))] := by
  unfold scO
  rw [List.range_succ, List.map_append]
  rfl
theorem scP_step (f : Fl) (es : List En) (i : Nat) : scP f es (i + 1) = scP f es i ++ scO f (es.getD i en0) i (nW (es.getD i en0)) := by
  unfold scP
  rw [List.range_succ, List.flatMap_append]
  simp
theorem nW_iff (e : En) (j : Nat) : j < nW e ↔ (j : Int) < e.wt ∧ (j : Int) < 16 := by
  unfold nW
  omega
def TyF (f : Fl) : Prop := (0 ≤ f.s ∧ f.s < 4294967296) ∧ (0 ≤ f.d ∧ f.d < 4294967296)
theorem flAt_cells {w : World} {b : Nat} {f : Fl} (h : FlAt w b f) : w.cell? ⟨b, 0, none⟩ = some (.int .i64 f.p) ∧ w.cell? ⟨b, 1, none⟩ = some (.int .u32 f.s) ∧ w.cell? ⟨b, 2, none⟩ = some (.int .i64 f.sp) ∧ w.cell? ⟨b, 3, none⟩ = some (.int .u32 f.d) ∧ w.cell? ⟨b, 4, none⟩ = some (.int .i64 f.dp) := h
set_option maxRecDepth 100000 in
set_option maxHeartbeats 4000000 in
theorem refChoose_t (f : Fl) (es : List En) (a : Option Addr) (n c : Nat) (w : World) (hI : InE w a n c es) (hn : n ≤ 4611686018427387904) (hf : TyF f) :
    Calls Try.prog 26 #[f.val, .slice a n c] w fun e w' => (∃ k : Int, e = .returned (.int .i64 k) ∧ k < n ∧ Chosen f es k) ∧ Below w.heap.size w w' := by
  obtain ⟨W, hW⟩ : ∃ W, W = w.alloc f.obj := ⟨_, rfl⟩
  have HFl : Hid (FlAt W w.heap.size f) := Lib.hid (by rw [hW]; exact flAt_new w f)
  have hbW : Below w.heap.size w W := by rw [hW]; exact bl_al (Below.refl _ _) _
  have HLW : Hid (w.heap.size < W.heap.size) := Lib.hid (by rw [hW]; simp)
  have HI := Lib.hid (hI.below hbW)
  have HBW := Lib.hid hbW
  have CH := Lib.hid (fun (s : Int) (W : World) => refHash s f W hf.1 hf.2)
  obtain ⟨q, hq⟩ : ∃ q, q = w.heap.size := ⟨_, rfl⟩
  rw [← hq] at HFl HLW
  have HW := Lib.hid (And.intro hW hq)
  have C0 : Hid (BestW (scP f es 0) (-1) (-0)) := Lib.hid (.inl ⟨rfl, rfl⟩)
  clear hI hW hbW hf hq
  unfold Fl.val at CH
  go_enter Try.func26, Try.ntmps26
  go_upto_region 1 with fail
  rw [← HW.out.1, ← HW.out.2]
  go_wp2
  go_loopw [5, 6, 7] (fun bv tv iv wr => ∃ (i : Nat) (best top : Int), i ≤ n ∧ iv = .int .i64 i ∧ bv = .int .i64 best ∧ tv = .int .u64 top ∧ best < i ∧ Hid (BestW (scP f es i) best (-top)) ∧ Hid (Below W.heap.size W wr)) (fun _ _ iv _ => n - (intOf iv).toNat)
  case atStart => exact ⟨0, -1, 0, by omega, rfl, rfl, rfl, by omega, C0, Lib.hid (Below.refl _ _)⟩
  case round =>
    obtain ⟨i, best, top, hi, rfl, rfl, rfl, hbi, HC, HB⟩ := hrel
    obtain ⟨w2, rfl⟩ : ∃ v, v = wr := ⟨_, rfl⟩
    clear C0
    have hlen := HI.out.len
    have i0 : (0 : Int) ≤ (i : Int) := by omega
    by_cases hli : i < n
    · obtain ⟨b1, o1, rfl⟩ := HI.out.block (by omega)
      have ii : (i : Int) < (n : Int) := by omega
      have HTy := Lib.hid (HI.out.typ _ (memE (es := es) (i := i) (by omega)))
      have HSt := Lib.hid (scP_step f es i)
      obtain ⟨e, he⟩ : ∃ e, e = es.getD i en0 := ⟨_, rfl⟩
      have HE := Lib.hid he
      rw [← he] at HTy HSt
      have C1 : Hid (BestW (scP f es i ++ scO f e i 0) best (-top)) := Lib.hid (by
        have : scO f e i 0 = [] := rfl
        rw [this, List.append_nil]
        exact HC.out)
      have hb2 : best ≤ i := by omega
      clear he HC hbi
      go_wp2
      go_loopw [5, 6, 8] (fun bv tv jv wr => ∃ (j : Nat) (best top : Int), j ≤ nW e ∧ jv = .int .i64 j ∧ bv = .int .i64 best ∧ tv = .int .u64 top ∧ best ≤ i ∧ Hid (BestW (scP f es i ++ scO f e i j) best (-top)) ∧ Hid (Below W.heap.size W wr)) (fun _ _ jv _ => nW e - (intOf jv).toNat)
      case atStart => exact ⟨0, best, top, by omega, rfl, rfl, rfl, hb2, C1, HB⟩
      case round =>
        clear C1 HB hb2
        obtain ⟨j, best, top, hj, rfl, rfl, rfl, hb2, HC, HB⟩ := hrel
        obtain ⟨w3, rfl⟩ : ∃ v, v = wr := ⟨_, rfl⟩
        obtain ⟨c1, c2, c3⟩ := (HI.out.below HB.out).cell hli
        rw [← HE.out] at c1 c2 c3
        have hnw := nW_iff e j
        obtain ⟨d, hd⟩ : ∃ d, d = e.dip := ⟨_, rfl⟩
        obtain ⟨t, ht⟩ : ∃ t, t = e.wt := ⟨_, rfl⟩
        have d0 := HTy.out.1
        rw [← hd] at c1 d0
        rw [← ht] at c3 hnw
        have HD := Lib.hid hd
        clear hd ht
        by_cases hlj : j < nW e
        · have j1 : (j : Int) < t := (hnw.1 hlj).1
          have j2 : (j : Int) < 16 := (hnw.1 hlj).2
          have j0 : (0 : Int) ≤ (j : Int) := by omega
          have d1 := d0.1
          have d2 := d0.2
          have HWR := Lib.hid (show IntKind.u64.wrap (IntKind.u64.wrap (IntKind.u64.wrap d * 256) + IntKind.u64.wrap (j : Int)) = d * 256 + (j : Int) by rw [IntWalk.u64_in d (by omega), IntWalk.u64_in (j : Int) (by omega), IntWalk.u64_in (d * 256) (by omega), IntWalk.u64_in _ (by omega)])
          have hdr := (Below.refl w3.heap.size w3).drew
          have hfl := flAt_cells (flAt_below HFl.out (HB.out.drew) HLW.out)
          have cd : w3.drew.cell? ⟨b1, o1 + i * 3, none⟩ = some (.int .u32 d) := c1
          have hS0 : w3.drew.cell? ⟨b1, o1 + i * 3, none⟩ = some (.int .u32 d) ∧ w3.drew.cell? ⟨q, 0, none⟩ = some (.int .i64 f.p) ∧ w3.drew.cell? ⟨q, 1, none⟩ = some (.int .u32 f.s) ∧ w3.drew.cell? ⟨q, 2, none⟩ = some (.int .i64 f.sp) ∧ w3.drew.cell? ⟨q, 3, none⟩ = some (.int .u32 f.d) ∧ w3.drew.cell? ⟨q, 4, none⟩ = some (.int .i64 f.dp) := ⟨cd, hfl⟩
          have HSt2 := Lib.hid (scO_step f e i j)
          have HSC : Hid (scE f e j = hashF (d * 256 + (j : Int)) f) := Lib.hid (by unfold scE; rw [HD.out])
          clear hfl cd
          go_upto_region 9 with fail
          go_region_held3 (fun wx => wx.cell? ⟨b1, o1 + i * 3, none⟩ = some (.int .u32 d) ∧ wx.cell? ⟨q, 0, none⟩ = some (.int .i64 f.p) ∧ wx.cell? ⟨q, 1, none⟩ = some (.int .u32 f.s) ∧ wx.cell? ⟨q, 2, none⟩ = some (.int .i64 f.sp) ∧ wx.cell? ⟨q, 3, none⟩ = some (.int .u32 f.d) ∧ wx.cell? ⟨q, 4, none⟩ = some (.int .i64 f.dp)) (first | (with_reducible exact hS0) | (with_reducible assumption) | fail)
            (first | (go_at_call 44; (with_reducible refine (CH.out _ _).mono ?_); rintro e w7 ⟨rfl, hb7⟩; have hS7 := flAt_below (flAt_below HFl.out (HB.out.drew) HLW.out) (hb7) (Nat.lt_of_lt_of_le HLW.out HB.out.size); have cS7 := (hb7.cell (p := ⟨b1, o1 + i * 3, none⟩) (block_lt_of_cell hS0.1)).trans hS0.1; have hT7 := And.intro cS7 (flAt_cells hS7)) | fail)
          all_goals
            rename_i hHeld
            have HB7 : Hid (Below W.heap.size W w7) := Lib.hid (HB.out.trans (bl_tr hdr hb7 |>.mono HB.out.size))
            obtain ⟨s, hs⟩ : ∃ s, s = hashF (d * 256 + (j : Int)) f := ⟨_, rfl⟩
            rw [← hs] at HSC
            rw [HWR.out, ← hs]
            clear hHeld hs hS7 cS7 hT7 hb7 hS0 hdr c1 c2 c3 HB
            by_cases q1 : best < 0
            · have HC2 : Hid (BestW (scP f es i ++ scO f e i (j + 1)) (i : Int) (-s)) := Lib.hid (by rw [HSt2.out, ← List.append_assoc, HSC.out]; exact HC.out.first q1 i0)
              clear HC HSt2 HSC
              go_wp2
              go_roundw
              case rel => exact ⟨j + 1, i, s, by omega, by go_num, rfl, rfl, by omega, HC2, HB7⟩
              case measure => simp [intOf]; omega
            · by_cases q2 : top < s
              · have HC2 : Hid (BestW (scP f es i ++ scO f e i (j + 1)) (i : Int) (-s)) := Lib.hid (by rw [HSt2.out, ← List.append_assoc, HSC.out]; exact HC.out.less q1 i0 (.inl (by omega)))
                clear HC HSt2 HSC
                go_wp2
                go_roundw
                case rel => exact ⟨j + 1, i, s, by omega, by go_num, rfl, rfl, by omega, HC2, HB7⟩
                case measure => simp [intOf]; omega
              · have HC2 : Hid (BestW (scP f es i ++ scO f e i (j + 1)) best (-top)) := Lib.hid (by rw [HSt2.out, ← List.append_assoc, HSC.out]; exact HC.out.more q1 (by omega))
                clear HC HSt2 HSC
                go_wp2
                go_roundw
                case rel => exact ⟨j + 1, best, top, by omega, by go_num, rfl, rfl, by omega, HC2, HB7⟩
                case measure => simp [intOf]; omega
        · have hjn : j = nW e := by omega
          have HC2 : Hid (BestW (scP f es (i + 1)) best (-top)) := Lib.hid (by rw [HSt.out, ← hjn]; exact HC.out)
          have hno : ¬ ((j : Int) < t ∧ (j : Int) < 16) := fun h => hlj (hnw.2 h)
          clear HC HSt hnw hjn hlj hj
          by_cases q1 : (j : Int) < t
          · have q2 : ¬ (j : Int) < 16 := fun h => hno ⟨q1, h⟩
            clear hno
            go_wp2
            go_roundw
            case rel => exact ⟨i + 1, best, top, by omega, by go_num, rfl, rfl, by omega, HC2, HB⟩
            case measure => simp [intOf]; omega
          · clear hno
            go_wp2
            go_roundw
            case rel => exact ⟨i + 1, best, top, by omega, by go_num, rfl, rfl, by omega, HC2, HB⟩
            case measure => simp [intOf]; omega
    · have HE : Hid (Chosen f es best) := Lib.hid ⟨_, by have := HC.out; rw [show i = es.length by omega] at this; exact this⟩
      have ii : ¬ (i : Int) < (n : Int) := by omega
      have HBx : Hid (Below w.heap.size w w2) := Lib.hid (bl_tr HBW.out HB.out)
      go_wp2
      go_ret
      exact ⟨⟨best, rfl, by omega, HE.out⟩, HBx.out⟩
end Go.Proofs.Ytkacbeighaccjaa
