/- RoundFull's walk. Conditions: those stated. -/
import Derived.Test.YtbkpkakjfhkfaaaRoM
import Derived.Test.YtbkpkakjfhkfaaaRoN
import Derived.Deep.RegionHeld3
namespace Go.Proofs.Ytbkpkakjfhkfaaa
open Go Go.RowKit
set_option linter.unusedVariables false
set_option linter.unusedSimpArgs false

/-- Three rounds and a log, none of which shares a block with another. -/
structure Fu4 (w1 w : World) (f : Nat → Nat) (pa pc pd : Nat) (ra rc rd : Rd) (ls : List Cm) (aF : Option Addr) (cF : Nat) (vF : List Value) : Prop where
  a : ROn w1 w pa ra (Kf f w.heap.size 1)
  c : ROn w1 w pc rc (Kf f w.heap.size 2)
  d : ROn w1 w pd rd (Kf f w.heap.size 3)
  l : Lone w1 w f ls aF cF vF
section
variable {w1 w w' : World} {f : Nat → Nat} {pa pc pd : Nat} {ra rc rd r2 : Rd} {ls : List Cm} {aF : Option Addr} {cF : Nat} {vF : List Value} {e : Ending}
theorem Fu4.bel (h : Fu4 w1 w f pa pc pd ra rc rd ls aF cF vF) : Below w1.heap.size w1 w := h.a.bel
theorem Fu4.beside (h : Fu4 w1 w f pa pc pd ra rc rd ls aF cF vF) (hb : Below w.heap.size w w') : Fu4 w1 w' (upd f w.heap.size 0) pa pc pd ra rc rd ls aF cF vF :=
  ⟨h.a.beside hb (by decide), h.c.beside hb (by decide), h.d.beside hb (by decide), h.l.beside hb 0⟩
theorem Fu4.doA (h : Fu4 w1 w f pa pc pd ra rc rd ls aF cF vF) (hs : StO w1 w pa r2 (Kf f w.heap.size 1) e w') : Fu4 w1 w' (upd f w.heap.size 1) pa pc pd r2 rc rd ls aF cF vF :=
  ⟨hs.2.1.self, h.c.another hs.2.1.bel hs.2.2 (by decide), h.d.another hs.2.1.bel hs.2.2 (by decide), h.l.another h.bel hs.2.1.bel hs.2.2 (by decide)⟩
theorem Fu4.doC (h : Fu4 w1 w f pa pc pd ra rc rd ls aF cF vF) (hs : StO w1 w pc r2 (Kf f w.heap.size 2) e w') : Fu4 w1 w' (upd f w.heap.size 2) pa pc pd ra r2 rd ls aF cF vF :=
  ⟨h.a.another hs.2.1.bel hs.2.2 (by decide), hs.2.1.self, h.d.another hs.2.1.bel hs.2.2 (by decide), h.l.another h.bel hs.2.1.bel hs.2.2 (by decide)⟩
theorem Fu4.doD (h : Fu4 w1 w f pa pc pd ra rc rd ls aF cF vF) (hs : StO w1 w pd r2 (Kf f w.heap.size 3) e w') : Fu4 w1 w' (upd f w.heap.size 3) pa pc pd ra rc r2 ls aF cF vF :=
  ⟨h.a.another hs.2.1.bel hs.2.2 (by decide), h.c.another hs.2.1.bel hs.2.2 (by decide), hs.2.1.self, h.l.another h.bel hs.2.1.bel hs.2.2 (by decide)⟩
end
theorem own_litC (w : World) (B : Nat) (hB : B ≤ w.heap.size) : (w.alloc (.cells #[] tyC)).ownsRow B tyC 12 (.slice (some ⟨w.heap.size, 0, none⟩) 0 0) 0 [] :=
  ⟨rfl, .inr ⟨w.heap.size, 0, _, rfl, hB, heap_alloc_new w _, Nat.le_refl _, by unfold maxLen; omega, by simp, by simp⟩⟩
theorem inC_boxU (w : World) (x : Cm) (hx : TyC x) (ao : Option Addr) (n c : Nat) (hE : InE w ao n c x.es) : InC (w.alloc (x.obj (.slice ao n c))) (some ⟨w.heap.size, 0, none⟩) 1 1 [x] [.slice ao n c] := by
  refine ⟨rfl, rfl, Nat.le_refl _, (fun e => by cases e), .inr ⟨w.heap.size, 0, rfl, fun t u hu => ?_⟩, fun j hj => ?_, fun c hc => by rw [List.mem_singleton] at hc; rw [hc]; exact hx⟩
  · rw [World.cell?_alloc_mark, Nat.zero_add]
    have : (x.arr (.slice ao n c)) = (cellsC [x] [.slice ao n c]).toArray := by simp [cellsC, Cm.cs]
    rw [this, List.getElem?_toArray]
    exact hu
  · obtain rfl : j = 0 := by omega
    exact ⟨ao, n, c, rfl, hE.below (bl_al (Below.refl _ _) _)⟩
/-- The log is made. -/
def FuS (w1 wr : World) (rv : Value) (i : Nat) : Prop := (∃ ao c vs, rv = .slice ao i c ∧ OwC wr w1.heap.size (fuL i) ao c vs) ∧ Below w1.heap.size w1 wr
theorem ty316 : TyB ⟨3, 16⟩ := ⟨⟨by decide, by decide⟩, ⟨by decide, by decide⟩⟩
theorem ty116 : TyB ⟨1, 16⟩ := ⟨⟨by decide, by decide⟩, ⟨by decide, by decide⟩⟩
set_option maxRecDepth 100000 in
set_option maxHeartbeats 16000000 in
theorem roundFull_t (z s : Int) (w : World) :
    Calls Try.prog 12 #[.int .i64 z, .int .i64 s] w fun e w' => e = .returned (.bool true) ∧ Below w.heap.size w w' := by
  obtain ⟨i0, hi0, hz0, hz1, hz2⟩ := info_parts infoC
  have CA := Lib.hid (alive2_c w)
  have q0 := nilEl
  have q1 := nilNe
  go_enter Try.func12, Try.ntmps12
  go_wp2_with fail
  refine CA.out.mono ?_
  rintro e w1 ⟨rfl, hb1⟩
  have HB1 := Lib.hid hb1
  clear hb1 CA
  have S0 : Hid (FuS w1 (w1.alloc (.cells #[] tyC)) (.slice (some ⟨w1.heap.size, 0, none⟩) 0 0) 0) := Lib.hid ⟨⟨some ⟨w1.heap.size, 0, none⟩, 0, [], rfl, ⟨own_litC w1 _ (Nat.le_refl _), rfl, fun j hj => absurd hj (Nat.not_lt_zero j)⟩⟩, bl_al (Below.refl _ _) _⟩
  go_wp2
  go_loopw [5, 6] (fun rv iv wr => ∃ i : Nat, i ≤ 256 ∧ iv = .int .i64 i ∧ Hid (FuS w1 wr rv i)) (fun _ iv _ => 256 - (intOf iv).toNat)
  case atStart => exact ⟨0, by omega, rfl, S0⟩
  case round =>
    obtain ⟨i, hi, rfl, HH⟩ := hrel
    obtain ⟨w3, rfl⟩ : ∃ v, v = wr := ⟨_, rfl⟩
    clear S0
    obtain ⟨⟨ao, cm, vm, erv, hO⟩, hB3⟩ := HH.out
    subst erv
    clear HH
    by_cases hlt : i < 256
    · have ii : (i : Int) < 256 := by omega
      have i0' : (0 : Int) ≤ (i : Int) := by omega
      obtain ⟨d, hd⟩ : ∃ d : Int, d = (i : Int) % 8 := ⟨_, rfl⟩
      have hd0 : 0 ≤ d ∧ d < 8 := by omega
      have vt1 : ((i : Int)).tmod 8 = d := by rw [Int.tmod_eq_emod_of_nonneg i0']; exact hd.symm
      have vt2 : ∀ [Inhabited Nat], IntKind.i64.wrap d = d := by intro _; exact IntWalk.i64_in _ (by omega)
      have vt3 : ∀ [Inhabited Nat], IntKind.i64.wrap (16 + d) = 16 + d := by intro _; exact IntWalk.i64_in _ (by omega)
      have CH0 := health2_c (16 + d) i w3
      obtain ⟨x, hx⟩ : ∃ x, x = hl2 (16 + d) i := ⟨_, rfl⟩
      rw [← hx] at CH0
      have CH := Lib.hid CH0
      have HX : Hid (x = fuC i ∧ x.es = []) := Lib.hid ⟨by rw [hx, hd]; rfl, by rw [hx]; rfl⟩
      have HO := Lib.hid hO
      have HB3 := Lib.hid hB3
      have HLN : Hid ((fuL i).length = i) := Lib.hid (fuL_len i)
      clear hd hx CH0 hO hB3
      go_wp2_with fail
      refine CH.out.mono ?_
      rintro e w4 ⟨rfl, hb4⟩
      have HO4 := Lib.hid (HO.out.later hb4)
      have HB4 := Lib.hid (HB3.out.trans (hb4.mono HB3.out.size))
      have HOO : Hid ((w4.alloc (.cells (x.arr (.slice none 0 0)) tyC)).ownsRow w1.heap.size tyC 12 (.slice ao i cm) i (cellsC (fuL i) vm)) := Lib.hid (by have := HO4.out.own; rw [HLN.out] at this; exact this.alloc _)
      have HNN := Lib.hid (cs_new w4 x (.slice none 0 0))
      have HO1 := Lib.hid (cs_one1 x (v := .slice none 0 0) rfl)
      have hws : w1.heap.size ≤ (w4.alloc (.cells (x.arr (.slice none 0 0)) tyC)).heap.size := by have := HB4.out.size; simp; omega
      clear hb4 CH HO HB3
      go_wp2_with (at_builtin; refine wpList_append_own _ rfl (.tmp 24) (.tmp 30) 22 rfl w1.heap.size tyC i0 _ 12 104 Try.underlying22 hi0 hz0 hz1 hz2 rfl (by decide) _ i (cellsC (fuL i) vm) rfl HOO.out ⟨w4.heap.size, 0, none⟩ 1 1 (x.cs (.slice none 0 0)) rfl rfl HNN.out HO1.out (by unfold maxLen; omega) (by omega) hws ?_)
      intro v8 w8 hown8 hg8 _
      obtain ⟨a8, c8, rfl⟩ := own_form hown8
      have HF : Hid (FuS w1 w8 (.slice a8 (i + 1) c8) (i + 1)) := Lib.hid (by
        refine ⟨⟨a8, c8, vm ++ [.slice none 0 0], rfl, ?_⟩, (HB4.out.alloc HB4.out.size _).grown hg8 (by have := HB4.out.size; simp; omega) (fun k hk => (HOO.out.lt k hk).1)⟩
        rw [fuL_more, ← HX.out.1]
        refine (HO4.out.later (bl_al (Below.refl w4.heap.size w4) (.cells (x.arr (.slice none 0 0)) tyC))).more (x := x) (a2 := none) (c2 := 0) (by rw [HX.out.2]; rfl) (by rw [HX.out.2]; exact ⟨rfl, .inl ⟨rfl, rfl⟩⟩) ?_ (by rw [HLN.out]; exact hg8)
        rw [HLN.out]
        exact hown8)
      clear hown8 hg8 HOO HNN HO1 HO4 HB4 hws
      go_wp2
      go_roundw
      case rel => exact ⟨i + 1, by omega, by go_num, HF⟩
      case measure => simp [intOf]; omega
    · have ii : ¬ (i : Int) < 256 := by omega
      obtain rfl : i = 256 := by omega
      obtain ⟨X, hX⟩ : ∃ X, X = IntKind.u64.wrap z := ⟨_, rfl⟩
      have hX0 : 0 ≤ X := by rw [hX, IntKind.wrap_u64]; omega
      have m0 : ∀ [Inhabited Nat], IntKind.u64.wrap z = X := by intro _; exact hX.symm
      obtain ⟨k, hk⟩ : ∃ k : Nat, (k : Int) = X % 256 := ⟨(X % 256).toNat, by omega⟩
      have hk256 : k < 256 := by omega
      have k0 : (0 : Int) ≤ (k : Int) := by omega
      have k1 : (k : Int) < 256 := by omega
      have vr1 : X.tmod 256 = (k : Int) := by rw [Int.tmod_eq_emod_of_nonneg hX0]; exact hk.symm
      have vr2 : ∀ [Inhabited Nat], IntKind.u64.wrap (k : Int) = (k : Int) := by intro _; exact IntWalk.u64_in _ (by omega)
      have vr3 : ∀ [Inhabited Nat], IntKind.i64.wrap (k : Int) = (k : Int) := by intro _; exact IntWalk.i64_in _ (by omega)
      have vr4 : ∀ [Inhabited Nat], IntKind.i64.wrap ((k : Int) + 1) = (k : Int) + 1 := by intro _; exact IntWalk.i64_in _ (by omega)
      have HOF := Lib.hid hO
      have HB5 := Lib.hid hB3
      clear hX hk hO hB3
      obtain ⟨w7, hw7⟩ : ∃ w7, w7 = w3.alloc (Bl.obj ⟨3, 16⟩) := ⟨_, rfl⟩
      have hA7 := bxB_new w3 ⟨3, 16⟩
      rw [← hw7] at hA7
      obtain ⟨q, hq⟩ : ∃ q, q = w3.heap.size := ⟨_, rfl⟩
      rw [← hq] at hA7
      have hb37 : Below w3.heap.size w3 w7 := by rw [hw7]; exact bl_al (Below.refl _ _) _
      have HA7 := Lib.hid hA7
      have HB7 := Lib.hid (HB5.out.trans (hb37.mono HB5.out.size))
      have HO7 := Lib.hid (HOF.out.later hb37)
      have HW7 : Hid (w3.alloc (.cells #[.int .i64 3, .int .i64 16] tyB2) = w7 ∧ w3.heap.size = q) := Lib.hid ⟨hw7.symm, hq.symm⟩
      clear hq hw7 hA7 hb37
      go_upto_region 10 with fail
      rw [HW7.out.1, HW7.out.2]
      by_cases hneg : s < 0
      · have HF := Lib.hid (HB1.out.trans (HB7.out.mono HB1.out.size))
        go_wp2
        go_ret
        exact ⟨rfl, HF.out⟩
      · by_cases hbig : s > 1099511627776
        · have HF := Lib.hid (HB1.out.trans (HB7.out.mono HB1.out.size))
          go_wp2
          go_ret
          exact ⟨rfl, HF.out⟩
        · have hTm : IsTm s := ⟨by omega, by omega⟩
          obtain ⟨d0, d1⟩ := HA7.out.at
          obtain ⟨w8, hw8⟩ : ∃ w8, w8 = w7.alloc ((cLs s).obj (.slice none 0 0)) := ⟨_, rfl⟩
          have hb8 : Below w7.heap.size w7 w8 := by rw [hw8]; exact bl_al (Below.refl _ _) _
          have hI8 := inC_box w7 (cLs s) (cLs_ty hTm) rfl
          rw [← hw8] at hI8
          have CN := Lib.hid (newR_c 1 (by decide) ⟨3, 16⟩ ty316 [cLs s] _ _ 1 1 w8 hI8 (by simp) (cLs_good hTm))
          have HB8 := Lib.hid (HB7.out.trans (hb8.mono HB7.out.size))
          have HO8 := Lib.hid (HO7.out.later hb8)
          have HA8 := Lib.hid (HA7.out.later hb8)
          have HW8 : Hid (w7.alloc (.cells #[.int .i64 17, .int .i64 1, .int .i64 s, .int .i64 0, .int .i64 4, .int .u32 0, .int .i64 0, .int .i64 0, .slice none 0 0, .int .u32 167837696, .int .u32 0, .bool false] tyC) = w8) := Lib.hid hw8.symm
          clear hw8 hb8 hI8
          go_upto_region 12 with fail
          go_wp2_with fail
          rw [HW8.out]
          refine CN.out.mono ?_
          rintro e w9 ⟨pa, rfl, hRa, hb9⟩
          have hpa : ((some (⟨pa, 0, none⟩ : Addr)) == none) = false := rfl
          have HRa := Lib.hid (hRa.fresh (x := 1) (f := fun _ => 0) HB8.out)
          have HL9 := Lib.hid ((⟨HO8.out, fun k hk => rfl⟩ : Lone w1 w8 (fun _ => 0) (fuL 256) ao cm vm).beside hb9 1)
          have HA9 := Lib.hid (HA8.out.later hb9)
          have HB9 := Lib.hid (HB8.out.trans (hb9.mono HB8.out.size))
          clear hRa hb9 CN d0 d1
          -- the command at k
          have hIF := HL9.out.own.in (fuL_ty (Nat.le_refl _))
          rw [show (fuL 256).length = 256 from fuL_len 256] at hIF
          obtain ⟨bF, oF, rfl⟩ := hIF.block (by decide)
          have hc := hIF.cell hk256
          obtain ⟨ak, nk, ck, hvk, hEk⟩ := hIF.ends k hk256
          rw [fuL_at hk256] at hc hEk
          rw [hvk] at hc
          obtain ⟨x, hx⟩ : ∃ x, x = fuC k := ⟨_, rfl⟩
          rw [← hx] at hc hEk
          have HXX := Lib.hid hx
          have HEk := Lib.hid hEk
          obtain ⟨e0, e1, e2, e3, e4, e5, e6, e7, e8, e9, e10, e11⟩ := hc
          have hA9 := HA9.out.at
          have HTX : Hid (TyC x ∧ GoodL [x]) := Lib.hid (by rw [hx]; exact ⟨fuC_ty hk256, hl2_good (by unfold IsMgr; omega) (by unfold IsTm; omega)⟩)
          clear hx hIF hvk hEk
          go_upto_region 13 with fail
          have hS0 : w9.drew.cell? ⟨q, 0, none⟩ = some (.int .i64 3) ∧ w9.drew.cell? ⟨q, 1, none⟩ = some (.int .i64 16) ∧ w9.drew.cell? ⟨bF, oF + k * 12, none⟩ = some (.int .i64 x.node) ∧ w9.drew.cell? ⟨bF, oF + k * 12 + 1, none⟩ = some (.int .i64 x.boot) ∧ w9.drew.cell? ⟨bF, oF + k * 12 + 2, none⟩ = some (.int .i64 x.seq) ∧ w9.drew.cell? ⟨bF, oF + k * 12 + 3, none⟩ = some (.int .i64 x.time) ∧ w9.drew.cell? ⟨bF, oF + k * 12 + 4, none⟩ = some (.int .i64 x.kind) ∧ w9.drew.cell? ⟨bF, oF + k * 12 + 5, none⟩ = some (.int .u32 x.vip) ∧ w9.drew.cell? ⟨bF, oF + k * 12 + 6, none⟩ = some (.int .i64 x.proto) ∧ w9.drew.cell? ⟨bF, oF + k * 12 + 7, none⟩ = some (.int .i64 x.port) ∧ w9.drew.cell? ⟨bF, oF + k * 12 + 8, none⟩ = some (.slice ak nk ck) ∧ w9.drew.cell? ⟨bF, oF + k * 12 + 9, none⟩ = some (.int .u32 x.dip) ∧ w9.drew.cell? ⟨bF, oF + k * 12 + 10, none⟩ = some (.int .u32 x.cvip) ∧ w9.drew.cell? ⟨bF, oF + k * 12 + 11, none⟩ = some (.bool x.up) := ⟨hA9.1, hA9.2, e0, e1, e2, e3, e4, e5, e6, e7, e8, e9, e10, e11⟩
          have hS2 : ∀ o : Obj, ((w9.alloc o).drew).cell? ⟨q, 0, none⟩ = some (.int .i64 3) ∧ ((w9.alloc o).drew).cell? ⟨q, 1, none⟩ = some (.int .i64 16) ∧ ((w9.alloc o).drew).cell? ⟨bF, oF + k * 12, none⟩ = some (.int .i64 x.node) ∧ ((w9.alloc o).drew).cell? ⟨bF, oF + k * 12 + 1, none⟩ = some (.int .i64 x.boot) ∧ ((w9.alloc o).drew).cell? ⟨bF, oF + k * 12 + 2, none⟩ = some (.int .i64 x.seq) ∧ ((w9.alloc o).drew).cell? ⟨bF, oF + k * 12 + 3, none⟩ = some (.int .i64 x.time) ∧ ((w9.alloc o).drew).cell? ⟨bF, oF + k * 12 + 4, none⟩ = some (.int .i64 x.kind) ∧ ((w9.alloc o).drew).cell? ⟨bF, oF + k * 12 + 5, none⟩ = some (.int .u32 x.vip) ∧ ((w9.alloc o).drew).cell? ⟨bF, oF + k * 12 + 6, none⟩ = some (.int .i64 x.proto) ∧ ((w9.alloc o).drew).cell? ⟨bF, oF + k * 12 + 7, none⟩ = some (.int .i64 x.port) ∧ ((w9.alloc o).drew).cell? ⟨bF, oF + k * 12 + 8, none⟩ = some (.slice ak nk ck) ∧ ((w9.alloc o).drew).cell? ⟨bF, oF + k * 12 + 9, none⟩ = some (.int .u32 x.dip) ∧ ((w9.alloc o).drew).cell? ⟨bF, oF + k * 12 + 10, none⟩ = some (.int .u32 x.cvip) ∧ ((w9.alloc o).drew).cell? ⟨bF, oF + k * 12 + 11, none⟩ = some (.bool x.up) := fun o => ⟨cell_later (show Below w9.drew.heap.size w9.drew (w9.alloc o).drew from bl_al (Below.refl w9.drew.heap.size w9.drew) o) hS0.1, cell_later (show Below w9.drew.heap.size w9.drew (w9.alloc o).drew from bl_al (Below.refl w9.drew.heap.size w9.drew) o) hS0.2.1, cell_later (show Below w9.drew.heap.size w9.drew (w9.alloc o).drew from bl_al (Below.refl w9.drew.heap.size w9.drew) o) hS0.2.2.1, cell_later (show Below w9.drew.heap.size w9.drew (w9.alloc o).drew from bl_al (Below.refl w9.drew.heap.size w9.drew) o) hS0.2.2.2.1, cell_later (show Below w9.drew.heap.size w9.drew (w9.alloc o).drew from bl_al (Below.refl w9.drew.heap.size w9.drew) o) hS0.2.2.2.2.1, cell_later (show Below w9.drew.heap.size w9.drew (w9.alloc o).drew from bl_al (Below.refl w9.drew.heap.size w9.drew) o) hS0.2.2.2.2.2.1, cell_later (show Below w9.drew.heap.size w9.drew (w9.alloc o).drew from bl_al (Below.refl w9.drew.heap.size w9.drew) o) hS0.2.2.2.2.2.2.1, cell_later (show Below w9.drew.heap.size w9.drew (w9.alloc o).drew from bl_al (Below.refl w9.drew.heap.size w9.drew) o) hS0.2.2.2.2.2.2.2.1, cell_later (show Below w9.drew.heap.size w9.drew (w9.alloc o).drew from bl_al (Below.refl w9.drew.heap.size w9.drew) o) hS0.2.2.2.2.2.2.2.2.1, cell_later (show Below w9.drew.heap.size w9.drew (w9.alloc o).drew from bl_al (Below.refl w9.drew.heap.size w9.drew) o) hS0.2.2.2.2.2.2.2.2.2.1, cell_later (show Below w9.drew.heap.size w9.drew (w9.alloc o).drew from bl_al (Below.refl w9.drew.heap.size w9.drew) o) hS0.2.2.2.2.2.2.2.2.2.2.1, cell_later (show Below w9.drew.heap.size w9.drew (w9.alloc o).drew from bl_al (Below.refl w9.drew.heap.size w9.drew) o) hS0.2.2.2.2.2.2.2.2.2.2.2.1, cell_later (show Below w9.drew.heap.size w9.drew (w9.alloc o).drew from bl_al (Below.refl w9.drew.heap.size w9.drew) o) hS0.2.2.2.2.2.2.2.2.2.2.2.2.1, cell_later (show Below w9.drew.heap.size w9.drew (w9.alloc o).drew from bl_al (Below.refl w9.drew.heap.size w9.drew) o) hS0.2.2.2.2.2.2.2.2.2.2.2.2.2⟩
          obtain ⟨w10, hw10⟩ : ∃ w10, w10 = (w9.alloc (x.obj (.slice ak nk ck))).drew := ⟨_, rfl⟩
          have hI10 := (inC_boxU w9 x HTX.out.1 ak nk ck HEk.out).below (Below.refl _ _).drew
          have CN := Lib.hid (newR_c 1 (by decide) ⟨3, 16⟩ ty316 [x] _ _ 1 1 (w9.alloc (x.obj (.slice ak nk ck))).drew hI10 (by simp) HTX.out.2)
          have hb910 : Below w9.heap.size w9 w10 := by rw [hw10]; exact (bl_al (Below.refl _ _) _).drew
          have HB910 := Lib.hid hb910
          have HW10 := Lib.hid hw10
          have hS3 : w10.cell? ⟨q, 0, none⟩ = some (.int .i64 3) ∧ w10.cell? ⟨q, 1, none⟩ = some (.int .i64 16) ∧ w10.cell? ⟨bF, oF + k * 12, none⟩ = some (.int .i64 x.node) ∧ w10.cell? ⟨bF, oF + k * 12 + 1, none⟩ = some (.int .i64 x.boot) ∧ w10.cell? ⟨bF, oF + k * 12 + 2, none⟩ = some (.int .i64 x.seq) ∧ w10.cell? ⟨bF, oF + k * 12 + 3, none⟩ = some (.int .i64 x.time) ∧ w10.cell? ⟨bF, oF + k * 12 + 4, none⟩ = some (.int .i64 x.kind) ∧ w10.cell? ⟨bF, oF + k * 12 + 5, none⟩ = some (.int .u32 x.vip) ∧ w10.cell? ⟨bF, oF + k * 12 + 6, none⟩ = some (.int .i64 x.proto) ∧ w10.cell? ⟨bF, oF + k * 12 + 7, none⟩ = some (.int .i64 x.port) ∧ w10.cell? ⟨bF, oF + k * 12 + 8, none⟩ = some (.slice ak nk ck) ∧ w10.cell? ⟨bF, oF + k * 12 + 9, none⟩ = some (.int .u32 x.dip) ∧ w10.cell? ⟨bF, oF + k * 12 + 10, none⟩ = some (.int .u32 x.cvip) ∧ w10.cell? ⟨bF, oF + k * 12 + 11, none⟩ = some (.bool x.up) := by rw [hw10]; exact hS2 _
          clear hI10 hw10 hb910 hA9
          go_region_held3 (fun wx => wx.cell? ⟨q, 0, none⟩ = some (.int .i64 3) ∧ wx.cell? ⟨q, 1, none⟩ = some (.int .i64 16) ∧ wx.cell? ⟨bF, oF + k * 12, none⟩ = some (.int .i64 x.node) ∧ wx.cell? ⟨bF, oF + k * 12 + 1, none⟩ = some (.int .i64 x.boot) ∧ wx.cell? ⟨bF, oF + k * 12 + 2, none⟩ = some (.int .i64 x.seq) ∧ wx.cell? ⟨bF, oF + k * 12 + 3, none⟩ = some (.int .i64 x.time) ∧ wx.cell? ⟨bF, oF + k * 12 + 4, none⟩ = some (.int .i64 x.kind) ∧ wx.cell? ⟨bF, oF + k * 12 + 5, none⟩ = some (.int .u32 x.vip) ∧ wx.cell? ⟨bF, oF + k * 12 + 6, none⟩ = some (.int .i64 x.proto) ∧ wx.cell? ⟨bF, oF + k * 12 + 7, none⟩ = some (.int .i64 x.port) ∧ wx.cell? ⟨bF, oF + k * 12 + 8, none⟩ = some (.slice ak nk ck) ∧ wx.cell? ⟨bF, oF + k * 12 + 9, none⟩ = some (.int .u32 x.dip) ∧ wx.cell? ⟨bF, oF + k * 12 + 10, none⟩ = some (.int .u32 x.cvip) ∧ wx.cell? ⟨bF, oF + k * 12 + 11, none⟩ = some (.bool x.up)) (first | (with_reducible exact hS0) | (with_reducible assumption) | (with_reducible exact hS2 _) | fail)
            (first
              | (go_at_call 47; (refine CN.out.mono ?_); rw [← HW10.out]; rintro e w11 ⟨pc, rfl, hRc, hb11⟩; have hS1 := (show w11.cell? ⟨q, 0, none⟩ = some (.int .i64 3) ∧ w11.cell? ⟨q, 1, none⟩ = some (.int .i64 16) ∧ w11.cell? ⟨bF, oF + k * 12, none⟩ = some (.int .i64 x.node) ∧ w11.cell? ⟨bF, oF + k * 12 + 1, none⟩ = some (.int .i64 x.boot) ∧ w11.cell? ⟨bF, oF + k * 12 + 2, none⟩ = some (.int .i64 x.seq) ∧ w11.cell? ⟨bF, oF + k * 12 + 3, none⟩ = some (.int .i64 x.time) ∧ w11.cell? ⟨bF, oF + k * 12 + 4, none⟩ = some (.int .i64 x.kind) ∧ w11.cell? ⟨bF, oF + k * 12 + 5, none⟩ = some (.int .u32 x.vip) ∧ w11.cell? ⟨bF, oF + k * 12 + 6, none⟩ = some (.int .i64 x.proto) ∧ w11.cell? ⟨bF, oF + k * 12 + 7, none⟩ = some (.int .i64 x.port) ∧ w11.cell? ⟨bF, oF + k * 12 + 8, none⟩ = some (.slice ak nk ck) ∧ w11.cell? ⟨bF, oF + k * 12 + 9, none⟩ = some (.int .u32 x.dip) ∧ w11.cell? ⟨bF, oF + k * 12 + 10, none⟩ = some (.int .u32 x.cvip) ∧ w11.cell? ⟨bF, oF + k * 12 + 11, none⟩ = some (.bool x.up) from ⟨cell_later hb11 hS3.1, cell_later hb11 hS3.2.1, cell_later hb11 hS3.2.2.1, cell_later hb11 hS3.2.2.2.1, cell_later hb11 hS3.2.2.2.2.1, cell_later hb11 hS3.2.2.2.2.2.1, cell_later hb11 hS3.2.2.2.2.2.2.1, cell_later hb11 hS3.2.2.2.2.2.2.2.1, cell_later hb11 hS3.2.2.2.2.2.2.2.2.1, cell_later hb11 hS3.2.2.2.2.2.2.2.2.2.1, cell_later hb11 hS3.2.2.2.2.2.2.2.2.2.2.1, cell_later hb11 hS3.2.2.2.2.2.2.2.2.2.2.2.1, cell_later hb11 hS3.2.2.2.2.2.2.2.2.2.2.2.2.1, cell_later hb11 hS3.2.2.2.2.2.2.2.2.2.2.2.2.2⟩))
              | fail)
          all_goals
            clear e0 e1 e2 e3 e4 e5 e6 e7 e8 e9 e10 e11 hS0 hS1 hS2 hS3
            have hpc : ((some (⟨pc, 0, none⟩ : Addr)) == none) = false := rfl
            have HRa11 := Lib.hid ((HRa.out.beside HB910.out (y := 0) (by decide)).beside hb11 (y := 2) (by decide))
            have HL11 := Lib.hid ((HL9.out.beside HB910.out 0).beside hb11 2)
            have HB10 := Lib.hid (HB9.out.trans (HB910.out.mono HB9.out.size))
            have HRc11 := Lib.hid (hRc.fresh (x := 2) (f := upd (upd (fun _ => 0) w8.heap.size 1) w9.heap.size 0) HB10.out)
            have HB11 := Lib.hid (HB10.out.trans (hb11.mono HB10.out.size))
            have HA11 := Lib.hid (HA9.out.later (bl_tr HB910.out hb11))
            clear hRc hb11 CN
            obtain ⟨d0, d1⟩ := HA11.out.at
            have CN := Lib.hid (newR_c 1 (by decide) ⟨3, 16⟩ ty316 [] [] none 0 0 w11 (inC_nil w11) (by decide) (by decide))
            go_wp2_with fail
            refine CN.out.mono ?_
            rintro e w12 ⟨pd, rfl, hRd, hb12⟩
            have hpd : ((some (⟨pd, 0, none⟩ : Addr)) == none) = false := rfl
            clear d0 d1 CN
            obtain ⟨f12, h12⟩ : ∃ f, Fu4 w1 w12 f pa pc pd (newR 1 ⟨3, 16⟩ [cLs s]) (newR 1 ⟨3, 16⟩ [x]) (newR 1 ⟨3, 16⟩ []) (fuL 256) (some ⟨bF, oF, none⟩) cm vm := ⟨_, HRa11.out.beside hb12 (y := 3) (by decide), HRc11.out.beside hb12 (y := 3) (by decide), hRd.fresh (x := 3) HB11.out, HL11.out.beside hb12 3⟩
            have H12 := Lib.hid h12
            clear hRd hb12 h12
            -- a is told
            have hIA := H12.out.l.own.in (fuL_ty (Nat.le_refl _))
            rw [show (fuL 256).length = 256 from fuL_len 256] at hIA
            obtain ⟨a1, b1, v1, a2, b2, v2, hX⟩ := H12.out.a
            have CP := Lib.hid (promiseR_c w1 w12 pa _ _ _ _ _ _ _ _ 16 ⟨1, 16⟩ ty116 (fuL 256) vm _ 256 cm hX hIA (H12.out.l.away (by decide)) (by decide))
            rw [fu_prom] at CP
            clear hX hIA
            go_wp2_with fail
            refine CP.out.mono ?_
            intro e w13 hP
            obtain ⟨f13, h13⟩ : ∃ f, Fu4 w1 w13 f pa pc pd _ _ _ _ _ _ _ := ⟨_, H12.out.doA hP⟩
            obtain ⟨rfl, _, _⟩ := hP
            rw [fu_a s]
            have H13 := Lib.hid h13
            clear h13 CP
            -- c is told
            have hIC := H13.out.l.own.in (fuL_ty (Nat.le_refl _))
            rw [show (fuL 256).length = 256 from fuL_len 256] at hIC
            obtain ⟨a1, b1, v1, a2, b2, v2, hX⟩ := H13.out.c
            have CP := Lib.hid (promiseR_c w1 w13 pc _ _ _ _ _ _ _ _ 16 ⟨1, 16⟩ ty116 (fuL 256) vm _ 256 cm hX hIC (H13.out.l.away (by decide)) (by decide))
            rw [fu_prom] at CP
            clear hX hIC
            go_wp2_with fail
            refine CP.out.mono ?_
            intro e w14 hP
            obtain ⟨f14, h14⟩ : ∃ f, Fu4 w1 w14 f pa pc pd _ _ _ _ _ _ _ := ⟨_, H13.out.doC hP⟩
            obtain ⟨rfl, _, _⟩ := hP
            have hfc := fu_c hk256
            rw [← HXX.out] at hfc
            rw [hfc.1]
            have HFC := Lib.hid hfc.2
            have H14 := Lib.hid h14
            clear h14 CP hfc
            -- d is told
            have hID := H14.out.l.own.in (fuL_ty (Nat.le_refl _))
            rw [show (fuL 256).length = 256 from fuL_len 256] at hID
            obtain ⟨a1, b1, v1, a2, b2, v2, hX⟩ := H14.out.d
            have CP := Lib.hid (promiseR_c w1 w14 pd _ _ _ _ _ _ _ _ 16 ⟨1, 16⟩ ty116 (fuL 256) vm _ 256 cm hX hID (H14.out.l.away (by decide)) (by decide))
            rw [fu_prom] at CP
            clear hX hID
            go_wp2_with fail
            refine CP.out.mono ?_
            intro e w15 hP
            obtain ⟨f15, h15⟩ : ∃ f, Fu4 w1 w15 f pa pc pd _ _ _ _ _ _ _ := ⟨_, H14.out.doD hP⟩
            obtain ⟨rfl, _, _⟩ := hP
            rw [fu_d.1]
            have H15 := Lib.hid h15
            clear h15 CP
            -- what they say
            obtain ⟨a1, b1, v1, a2, b2, v2, hX⟩ := H15.out.a
            have CL := Lib.hid (log_cR w15 hX)
            clear hX
            go_wp2_with fail
            refine CL.out.mono ?_
            intro e w16 hL
            have he := hL.2.1 (fun h => by rw [fu_a] at h; rcases h with h | h <;> cases h)
            subst he
            obtain ⟨f16, h16⟩ : ∃ f, Fu4 w1 w16 f pa pc pd _ _ _ _ _ _ _ := ⟨_, H15.out.beside hL.2.2⟩
            have H16 := Lib.hid h16
            clear h16 hL CL
            obtain ⟨a1, b1, v1, a2, b2, v2, hX⟩ := H16.out.c
            have CPl := Lib.hid (place_cR w16 hX)
            rw [HFC.out] at CPl
            clear hX
            go_wp2_with fail
            refine CPl.out.mono ?_
            rintro e w17 ⟨rfl, hb17⟩
            obtain ⟨f17, h17⟩ : ∃ f, Fu4 w1 w17 f pa pc pd _ _ _ _ _ _ _ := ⟨_, H16.out.beside hb17⟩
            have H17 := Lib.hid h17
            clear h17 hb17 CPl
            obtain ⟨a1, b1, v1, a2, b2, v2, hX⟩ := H17.out.d
            have CL := Lib.hid (log_cR w17 hX)
            clear hX
            go_wp2_with fail
            refine CL.out.mono ?_
            intro e w18 hL
            obtain ⟨⟨al, cl, vl, rfl, _⟩, hb18⟩ := hL.1 (.inl fu_d.1)
            rw [fu_d.2]
            obtain ⟨f18, h18⟩ : ∃ f, Fu4 w1 w18 f pa pc pd _ _ _ _ _ _ _ := ⟨_, H17.out.beside hb18⟩
            have H18 := Lib.hid h18
            clear h18 hL hb18 CL
            obtain ⟨a1, b1, v1, a2, b2, v2, hX⟩ := H18.out.a
            have CA := Lib.hid (acceptedR_c w1 w18 pa _ _ _ _ _ _ _ _ 16 hX)
            rw [fu_acc] at CA
            clear hX
            go_wp2_with fail
            refine CA.out.mono ?_
            intro e w19 hP
            obtain ⟨f19, h19⟩ : ∃ f, Fu4 w1 w19 f pa pc pd _ _ _ _ _ _ _ := ⟨_, H18.out.doA hP⟩
            obtain ⟨rfl, _, _⟩ := hP
            rw [fu_a s]
            have H19 := Lib.hid h19
            clear h19 CA
            obtain ⟨a1, b1, v1, a2, b2, v2, hX⟩ := H19.out.a
            have CM := Lib.hid (missing_cR w19 hX)
            clear hX
            go_wp2_with fail
            refine CM.out.mono ?_
            intro e wz hM
            have he := hM.2.1 (fun h => by rw [fu_a] at h; rcases h with h | h <;> cases h)
            subst he
            have HF := Lib.hid (HB1.out.trans ((H19.out.beside hM.2.2).bel.mono HB1.out.size))
            clear hM CM
            go_wp2
            go_ret
            exact ⟨rfl, HF.out⟩
end Go.Proofs.Ytbkpkakjfhkfaaa
