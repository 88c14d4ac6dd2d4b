/- The program's pick, Of, Prune. Conditions: the row came in. -/
import Derived.Test.YtanajblldlgalaaDoorLdI
import Derived.Laws.AppendOwnNone
namespace Go.Proofs.YtanajblldlgalaaDoor
open Go Go.RowKit
set_option linter.unusedVariables false
set_option linter.unusedSimpArgs false

theorem own_blkL {w : World} {B n size : Nat} {e : TypeId} {v : Value} {xs : List Value} (h : w.ownsRow B e size v n xs) {k : Nat} (hk : v.ownBlock = some k) : B ≤ k := (h.lt k hk).1
theorem filt_more {p : Ls → Bool} {l : List Ls} {i : Nat} (hi : i < l.length) : (l.take (i + 1)).filter p = (l.take i).filter p ++ (if p (l.getD i ls0) then [l.getD i ls0] else []) := by
  rw [take_moreL l hi, List.filter_append, List.filter_cons]
  split <;> simp
/-- Some of a row of leases, in their order, in a row of the call's own. -/
def PkL (B : Nat) (w : World) (v : Value) (l : List Ls) : Prop := w.ownsRow B tyL 4 v l.length (cellsL l)
theorem PkL.below {B : Nat} {w w' : World} {v : Value} {l : List Ls} (h : PkL B w v l) (hb : Below w.heap.size w w') : PkL B w' v l := owns_bel h hb
theorem pkL_nil (B : Nat) (w : World) : PkL B w (.slice none 0 0) [] := ⟨rfl, .inl ⟨rfl, rfl⟩⟩
theorem PkL.inL {B : Nat} {w : World} {v : Value} {l : List Ls} (h : PkL B w v l) (ht : ∀ x ∈ l, TyL x) : ∃ ao c, v = .slice ao l.length c ∧ InL w ao l.length c l := own_isL h ht
theorem PkL.base {B B' : Nat} {w : World} {v : Value} {l : List Ls} (h : PkL B w v l) (hb : B' ≤ B) : PkL B' w v l := own_base h hb
set_option maxRecDepth 100000 in
set_option maxHeartbeats 4000000 in
theorem pick_c (p : Ls → Bool) (g : Nat) (cb : Array Value) (eg : ∀ args w, (callFunc g args).run Tryd.prog w = .ok (.enter g args) w) (l : List Ls) (a : Option Addr) (n c : Nat) (w : World) (hI : InL w a n c l) (hn : n ≤ 1048576) (hp : PredL g cb p l w) :
    Calls Tryd.prog 48 #[.slice a n c, .func (.func g) #[] cb] w fun e w' => (∃ v, e = .returned v ∧ PkL w.heap.size w' v (l.filter p)) ∧ Below w.heap.size w w' := by
  obtain ⟨i0, hi0, hz0, hz1, hz2⟩ := info_parts infoL
  have hlen := hI.len
  have HI := Lib.hid hI
  have HP := Lib.hid hp
  have HN : Hid (l.take n = l) := Lib.hid (List.take_of_length_le (by omega))
  have P0 : Hid (PkL w.heap.size w (.slice none 0 0) ((l.take 0).filter p)) := Lib.hid (pkL_nil _ _)
  clear hI hp
  go_enter Tryd.func48, Tryd.ntmps48
  go_wp2
  go_loopw [5, 10] (fun pv iv wr => ∃ (i : Nat) (v : Value), v = pv ∧ i ≤ n ∧ iv = .int .i64 i ∧ Hid (PkL w.heap.size wr v ((l.take i).filter p)) ∧ Hid (Below w.heap.size w wr)) (fun _ iv _ => n - (intOf iv).toNat)
  case atStart => exact ⟨0, _, rfl, by omega, rfl, P0, Lib.hid (Below.refl _ _)⟩
  case round =>
    obtain ⟨i, v, rfl, hi, rfl, HK, HB⟩ := hrel
    obtain ⟨w2, rfl⟩ : ∃ v, v = wr := ⟨_, rfl⟩
    clear P0
    by_cases hlt : i < n
    · have ii : (i : Int) < (n : Int) := by omega
      have j0 : (0 : Int) ≤ (i : Int) := by omega
      obtain ⟨b, off, rfl⟩ := HI.out.block (by omega)
      have hx := (HI.out.below HB.out).cell hlt
      have ht := HI.out.ty hlt
      have HM := Lib.hid (filt_more (p := p) (l := l) (i := i) (by omega))
      have HL : Hid (((l.take i).filter p).length ≤ i) := Lib.hid (Nat.le_trans (List.length_filter_le _ _) (by rw [List.length_take]; omega))
      obtain ⟨x, ex⟩ : ∃ x, x = l.getD i ls0 := ⟨_, rfl⟩
      rw [← ex] at hx ht HM
      obtain ⟨m, hm⟩ : ∃ m, m = (l.take i).filter p := ⟨_, rfl⟩
      rw [← hm] at HK HM HL
      obtain ⟨w3, q, hw3, hq3, hA, hb3, hq4⟩ := boxed w2 x
      have HB3 := Lib.hid (bl_tr HB.out hb3)
      have HK3 := Lib.hid (HK.out.below hb3)
      have hc := HP.out w3 HB3.out x ht
      have HW3 := Lib.hid (And.intro hw3 hq3)
      have HQ4 := Lib.hid hq4
      obtain ⟨c0, c1, c2, c3⟩ := hx
      obtain ⟨a0, a1, a2, a3⟩ := hA
      obtain ⟨z, hz⟩ : ∃ z, z = p x := ⟨_, rfl⟩
      rw [← hz] at hc HM
      obtain ⟨x0, x1, x2, x3⟩ := x
      have HCc := Lib.hid hc
      clear ex ht hw3 hq3 hb3 hm hz hq4 HK HB hc
      go_upto_region 5 with fail
      rw [show w2.alloc (.cells #[.int .u32 x0, .int .i64 x1, .int .u32 x2, .int .i64 x3] tyL) = w3 from HW3.out.1.symm, ← HW3.out.2]
      clear c0 c1 c2 c3
      go_wp2_with fail
      refine HCc.out.mono ?_
      rintro e w4 ⟨rfl, hb4⟩
      have HB4 := Lib.hid (bl_tr HB3.out hb4)
      have HK4 := Lib.hid (HK3.out.below hb4)
      have d0 := (hb4.cell (p := ⟨q, 0, none⟩) HQ4.out).trans a0
      have d1 := (hb4.cell (p := ⟨q, 1, none⟩) HQ4.out).trans a1
      have d2 := (hb4.cell (p := ⟨q, 2, none⟩) HQ4.out).trans a2
      have d3 := (hb4.cell (p := ⟨q, 3, none⟩) HQ4.out).trans a3
      clear hb4 HCc a0 a1 a2 a3 HB3 HK3
      cases z with
      | false =>
        have HK5 : Hid (PkL w.heap.size w4 v ((l.take (i + 1)).filter p)) := Lib.hid (by
          rw [HM.out]
          simpa using HK4.out)
        clear HM HK4
        go_wp2
        go_roundw
        case rel => exact ⟨i + 1, _, rfl, by omega, by go_num, HK5, HB4⟩
        case measure => simp [intOf]; omega
      | true =>
        have HNew := Lib.hid (ls_new w4 ⟨x0, x1, x2, x3⟩)
        have HOwn : Hid ((w4.alloc (.cells #[.int .u32 x0, .int .i64 x1, .int .u32 x2, .int .i64 x3] tyL)).ownsRow w.heap.size tyL 4 v m.length (cellsL m)) := Lib.hid (HK4.out.alloc _)
        have hs4 := HB4.out.size
        go_wp2_with (at_builtin; refine append_any rfl _ _ 22 rfl w.heap.size tyL i0 (.agg #[.int .u32 0, .int .i64 0, .int .u32 0, .int .i64 0]) 4 32 Tryd.underlying22 hi0 hz0 hz1 hz2 rfl (by decide) _ _ _ rfl HOwn.out (some ⟨w4.heap.size, 0, none⟩) 1 1 (Ls.cs ⟨x0, x1, x2, x3⟩) rfl ?c0 rfl ?c1 (cs_one _) ?c2 ?c3 ?c4 ?_)
        case c0 => intro e; cases e
        case c1 => intro ad h; cases h; exact HNew.out
        case c2 => have := HL.out; unfold maxLen; omega
        case c3 => have := HL.out; omega
        case c4 => simp; omega
        intro v2 w5 ho5 hg5
        have HB5 := Lib.hid ((HB4.out.alloc hs4 (.cells #[.int .u32 x0, .int .i64 x1, .int .u32 x2, .int .i64 x3] tyL)).grown hg5 (by simp; omega) (fun k hk => own_blkL HOwn.out hk))
        have HK5 : Hid (PkL w.heap.size w5 v2 ((l.take (i + 1)).filter p)) := Lib.hid (by
          rw [HM.out, if_pos trivial]
          unfold PkL
          rw [List.length_append, cellsL_app, cellsL_one]
          exact ho5)
        clear ho5 hg5 HOwn HNew HK4 HM d0 d1 d2 d3
        go_wp2
        go_roundw
        case rel => exact ⟨i + 1, _, rfl, by omega, by go_num, HK5, HB5⟩
        case measure => simp [intOf]; omega
    · have ii : ¬ (i : Int) < (n : Int) := by omega
      obtain rfl : i = n := by omega
      go_wp2
      go_ret
      exact ⟨⟨_, rfl, by have := HK.out; rwa [HN.out] at this⟩, HB.out⟩
theorem enOf : ∀ args w, (callFunc 49 args).run Tryd.prog w = .ok (.enter 49 args) w := enters_of Tryd.func49 (by kernel_rfl) rfl
theorem enPr : ∀ args w, (callFunc 50 args).run Tryd.prog w = .ok (.enter 50 args) w := enters_of Tryd.func50 (by kernel_rfl) rfl
theorem enLa : ∀ args w, (callFunc 53 args).run Tryd.prog w = .ok (.enter 53 args) w := enters_of Tryd.func53 (by kernel_rfl) rfl
theorem enFi : ∀ args w, (callFunc 45 args).run Tryd.prog w = .ok (.enter 45 args) w := enters_of Tryd.func45 (by kernel_rfl) rfl
theorem enRe : ∀ args w, (callFunc 37 args).run Tryd.prog w = .ok (.enter 37 args) w := enters_of Tryd.func37 (by kernel_rfl) rfl
theorem cell_keep {w W : World} {g : Nat} {u : Value} (h : w.cell? ⟨g, 0, none⟩ = some u) (hb : Below w.heap.size w W) : W.cell? ⟨g, 0, none⟩ = some u := (hb.cell (p := ⟨g, 0, none⟩) (block_lt_of_cell h)).trans h
theorem box1 (w : World) (u : Value) (t : TypeId) : ∃ W q, W = w.alloc (.cells #[u] t) ∧ q = w.heap.size ∧ W.cell? ⟨q, 0, none⟩ = some u ∧ Below w.heap.size w W := ⟨_, _, rfl, rfl, cells_new w [u] t (0, 0) 0 u rfl, bl_al (Below.refl _ _) _⟩
theorem prune_c (l : List Ls) (now : Int) (a : Option Addr) (n c : Nat) (w : World) (hI : InL w a n c l) (hn : n ≤ 1048576) :
    Calls Tryd.prog 24 #[.slice a n c, .int .i64 now] w fun e w' => (∃ v, e = .returned v ∧ PkL w.heap.size w' v (prL now l)) ∧ Below w.heap.size w w' := by
  obtain ⟨W, q, hW, hq, hc, hb⟩ := box1 w (.int .i64 now) 3
  have C := Lib.hid (pick_c (livL now) 50 #[.pointer (some ⟨q, 0, none⟩)] enPr l a n c W (hI.below hb) hn (fun W2 h2 x hx => pruneC_c x now q W2 (cell_keep hc h2)))
  have HB := Lib.hid hb
  have HW := Lib.hid (And.intro hW hq)
  clear hW hq hc hb hI
  go_enter Tryd.func24, Tryd.ntmps24
  go_upto_region 1 with fail
  rw [show w.alloc (.cells #[.int .i64 now] 3) = W from HW.out.1.symm, ← HW.out.2]
  go_wp2_with fail
  refine C.out.mono ?_
  rintro e w1 ⟨⟨v, rfl, hK⟩, hb1⟩
  have HB1 := Lib.hid (bl_tr HB.out hb1)
  have HK := Lib.hid (PkL.base hK HB.out.size)
  clear hb1 hK C
  go_wp2
  go_ret
  exact ⟨⟨v, rfl, HK.out⟩, HB1.out⟩
theorem box2 (w : World) (u v : Value) (t s : TypeId) : ∃ W q r, W = (w.alloc (.cells #[u] t)).alloc (.cells #[v] s) ∧ q = w.heap.size ∧ r = w.heap.size + 1 ∧ W.cell? ⟨q, 0, none⟩ = some u ∧ W.cell? ⟨r, 0, none⟩ = some v ∧ Below w.heap.size w W := by
  obtain ⟨W1, q, h1, h2, h3, h4⟩ := box1 w u t
  obtain ⟨W2, r, k1, k2, k3, k4⟩ := box1 W1 v s
  exact ⟨W2, q, r, by rw [k1, h1], h2, by rw [k2, h1]; simp, cell_keep h3 k4, k3, bl_tr h4 k4⟩
theorem of_c (l : List Ls) (dip now : Int) (a : Option Addr) (n c : Nat) (w : World) (hI : InL w a n c l) (hn : n ≤ 1048576) :
    Calls Tryd.prog 22 #[.slice a n c, .int .u32 dip, .int .i64 now] w fun e w' => (∃ v, e = .returned v ∧ PkL w.heap.size w' v (ofL dip now l)) ∧ Below w.heap.size w w' := by
  obtain ⟨W, q, r, hW, hq, hr, h1, h2, hb⟩ := box2 w (.int .u32 dip) (.int .i64 now) 24 3
  have C := Lib.hid (pick_c (isO dip now) 49 #[.pointer (some ⟨q, 0, none⟩), .pointer (some ⟨r, 0, none⟩)] enOf l a n c W (hI.below hb) hn (fun W2 h3 x hx => ofC_c x dip now q r W2 (cell_keep h1 h3) (cell_keep h2 h3)))
  have HB := Lib.hid hb
  have HW := Lib.hid (And.intro hW (And.intro hq hr))
  clear hW hq hr h1 h2 hb hI
  go_enter Tryd.func22, Tryd.ntmps22
  go_upto_region 1 with fail
  rw [← HW.out.1, ← HW.out.2.2, ← HW.out.2.1]
  go_wp2_with fail
  refine C.out.mono ?_
  rintro e w1 ⟨⟨v, rfl, hK⟩, hb1⟩
  have HB1 := Lib.hid (bl_tr HB.out hb1)
  have HK := Lib.hid (PkL.base hK HB.out.size)
  clear hb1 hK C
  go_wp2
  go_ret
  exact ⟨⟨v, rfl, HK.out⟩, HB1.out⟩
end Go.Proofs.YtanajblldlgalaaDoor
