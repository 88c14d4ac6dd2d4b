/- Contracts of the statements' mine and kept, of towpathnum's Num; what Grant and Renew leave, opened. Conditions: the rows came in. -/
import Derived.Test.YtanajblldlgalaaDoorLdG
import Derived.Test.YtanajblldlgalaaDoorRfF
import Derived.Test.YtanajblldlgalaaDoorLsQ
namespace Go.Proofs.YtanajblldlgalaaDoor
open Go Go.RowKit
set_option linter.unusedVariables false
set_option linter.unusedSimpArgs false

def ErrZ (k : Int) : Prop := k = 0 ∨ k = 5 ∨ k = 6 ∨ k = 7 ∨ k = 9
theorem numL_c (k : Int) (hk : ErrZ k) (w : World) : Calls Tryd.prog 14 #[errL k] w fun e w' => e = .returned (.int .i64 k) ∧ w = w' := by
  rcases hk with rfl | rfl | rfl | rfl | rfl
  · rw [show errL 0 = Value.nilIface from rfl]
    go_enter Tryd.func14, Tryd.ntmps14
    go_wp2
    go_ret
    exact ⟨rfl, rfl⟩
  · have ta : ∀ w : World, (Instr.typeAssert (errnoL 5) 32 54 true).run Tryd.prog w = .ok (.tuple #[.int .i64 5, .bool true]) w := fun _ => by kernel_rfl
    rw [show errL 5 = errnoL 5 from rfl]
    go_enter Tryd.func14, Tryd.ntmps14
    go_wp2
    go_ret
    exact ⟨rfl, rfl⟩
  · have ta : ∀ w : World, (Instr.typeAssert (errnoL 6) 32 54 true).run Tryd.prog w = .ok (.tuple #[.int .i64 6, .bool true]) w := fun _ => by kernel_rfl
    rw [show errL 6 = errnoL 6 from rfl]
    go_enter Tryd.func14, Tryd.ntmps14
    go_wp2
    go_ret
    exact ⟨rfl, rfl⟩
  · have ta : ∀ w : World, (Instr.typeAssert (errnoL 7) 32 54 true).run Tryd.prog w = .ok (.tuple #[.int .i64 7, .bool true]) w := fun _ => by kernel_rfl
    rw [show errL 7 = errnoL 7 from rfl]
    go_enter Tryd.func14, Tryd.ntmps14
    go_wp2
    go_ret
    exact ⟨rfl, rfl⟩
  · have ta : ∀ w : World, (Instr.typeAssert (errnoL 9) 32 54 true).run Tryd.prog w = .ok (.tuple #[.int .i64 9, .bool true]) w := fun _ => by kernel_rfl
    rw [show errL 9 = errnoL 9 from rfl]
    go_enter Tryd.func14, Tryd.ntmps14
    go_wp2
    go_ret
    exact ⟨rfl, rfl⟩
theorem GoodL.ty {x : Ls} (h : GoodL x) : TyL x := by
  obtain ⟨h1, h2, h3, h4, h5⟩ := h
  unfold IsDip at h1
  unfold IsVipA at h2
  unfold OkFst at h3
  refine ⟨by omega, ?_, by omega, ?_⟩
  · unfold i64b; omega
  · unfold i64b; omega
theorem with_len (x : Ls) (l : List Ls) : (withL x l).length ≤ l.length + 1 := by
  have := with_count (fun _ => true) x l
  simp only [List.countP_true, Bool.true_and, if_true] at this
  omega
theorem grant_out (l : List Ls) (vip dip now : Int) : ErrZ (grantL l vip dip now).2.2 ∧ ((grantL l vip dip now).2.2 ≠ 0 → grantL l vip dip now = ([], ls0, (grantL l vip dip now).2.2)) ∧ ((grantL l vip dip now).2.2 = 0 → OkL (grantL l vip dip now).1 ∧ GoodL (grantL l vip dip now).2.1 ∧ (grantL l vip dip now).1.length ≤ l.length + 1) := by
  refine ⟨?_, ?_, fun h => ?_⟩
  · unfold grantL ErrZ
    split
    · split
      · simp
      · split <;> simp
    · simp
  · unfold grantL
    split
    · split
      · simp
      · split <;> simp
    · simp
  · have hg := grant_good (L' := (grantL l vip dip now).1) (g := (grantL l vip dip now).2.1) (z := (grantL l vip dip now).2.2) rfl h
    obtain ⟨_, _, _, _, _, k, _, _, h4⟩ := grant_is (L' := (grantL l vip dip now).1) (g := (grantL l vip dip now).2.1) (z := (grantL l vip dip now).2.2) rfl h
    refine ⟨hg.2, hg.1, ?_⟩
    rw [h4]
    exact with_len _ _
theorem renew_out (l : List Ls) (vip first dip now : Int) : ErrZ (renewL l vip first dip now).2.2 ∧ ((renewL l vip first dip now).2.2 ≠ 0 → renewL l vip first dip now = ([], ls0, (renewL l vip first dip now).2.2)) ∧ ((renewL l vip first dip now).2.2 = 0 → OkL (renewL l vip first dip now).1 ∧ GoodL (renewL l vip first dip now).2.1 ∧ (renewL l vip first dip now).1.length ≤ l.length + 1) := by
  refine ⟨?_, ?_, fun h => ?_⟩
  · unfold renewL ErrZ
    split
    · split <;> simp
    · simp
  · unfold renewL
    split
    · split <;> simp
    · simp
  · obtain ⟨h1, h2, h3, h4, y, hy, q1, q2, q3, q4⟩ := renew_is (L' := (renewL l vip first dip now).1) (g := (renewL l vip first dip now).2.1) (z := (renewL l vip first dip now).2.2) rfl h
    have hyg := h2.1 y hy
    have hg : GoodL (renewL l vip first dip now).2.1 := by
      rw [h3]
      refine ⟨by rw [← q3]; exact hyg.1, by rw [← q1]; exact hyg.2.1, by rw [← q2]; exact hyg.2.2.1, ?_, ?_⟩
      · show 0 ≤ now + 64
        have := h1.1
        omega
      · show now + 64 ≤ 1099511627840
        have := h1.2
        omega
    refine ⟨by rw [h4]; exact h2.with hg, hg, ?_⟩
    rw [h4]
    exact with_len _ _
/-- What Grant and Renew leave, opened. -/
theorem OutG.get {w w' : World} {L : List Ls} {g : Ls} {z : Int} {e : Ending} (h : OutG w (L, g, z) e w') (ht : ∀ x ∈ L, TyL x) : ∃ ao c, e = .returned (.tuple #[.slice ao L.length c, .agg #[.int .u32 g.vip, .int .i64 g.first, .int .u32 g.dip, .int .i64 g.exp], errL z]) ∧ InL w' ao L.length c L ∧ w'.ownsRow w.heap.size tyL 4 (.slice ao L.length c) L.length (cellsL L) ∧ Below w.heap.size w w' := by
  obtain ⟨⟨v, he, hK⟩, hb⟩ := h
  obtain ⟨ao, c, rfl, hI⟩ := PkL.inL hK ht
  exact ⟨ao, c, he, hI, hK, hb⟩
theorem OutR.get {w w' : World} {L : List Ls} {g : Ls} {z : Int} {e : Ending} (h : OutR w (L, g, z) e w') (ht : ∀ x ∈ L, TyL x) : ∃ ao c, e = .returned (.tuple #[.slice ao L.length c, .agg #[.int .u32 g.vip, .int .i64 g.first, .int .u32 g.dip, .int .i64 g.exp], .int .i64 z]) ∧ InL w' ao L.length c L ∧ Below w.heap.size w w' := by
  obtain ⟨⟨v, he, hK⟩, hb⟩ := h
  obtain ⟨ao, c, rfl, hI⟩ := PkL.inL hK ht
  exact ⟨ao, c, he, hI, hb⟩
theorem out_ty {L : List Ls} {g : Ls} {z : Int} {l : List Ls} (h : (z ≠ 0 → (L, g, z) = ([], ls0, z)) ∧ (z = 0 → OkL L ∧ GoodL g ∧ L.length ≤ l.length + 1)) : (∀ x ∈ L, TyL x) ∧ L.length ≤ l.length + 1 := by
  by_cases hz : z = 0
  · obtain ⟨h1, _, h3⟩ := h.2 hz
    exact ⟨fun x hx => (h1.1 x hx).ty, h3⟩
  · have := h.1 hz
    simp only [Prod.mk.injEq] at this
    rw [this.1]
    exact ⟨fun x hx => by simp at hx, by simp⟩
/-- A copy with its mark. -/
structure MkL (w : World) (g n : Nat) (l : List Ls) : Prop where
  row : InL w (some ⟨g, 0, none⟩) n (n + 1) l
  mark : w.cell? ⟨g, n * 4 + 1, none⟩ = some (.int .i64 (-77))
theorem MkL.below {w w' : World} {g n : Nat} {l : List Ls} (h : MkL w g n l) (hb : Below w.heap.size w w') : MkL w' g n l :=
  ⟨h.row.below hb, (hb.cell (p := ⟨g, n * 4 + 1, none⟩) (block_lt_of_cell h.mark)).trans h.mark⟩
def mkX : Ls := ⟨0, -77, 0, 0⟩
theorem mark_inL {w : World} {B g n c : Nat} {l : List Ls} (h : w.ownsRow B tyL 4 (.slice (some ⟨g, 0, none⟩) (n + 1) c) (n + 1) (cellsL (l ++ [mkX]))) (hl : l.length = n) (ht : ∀ x ∈ l, TyL x) :
    InL w (some ⟨g, 0, none⟩) n c l ∧ w.cell? ⟨g, n * 4 + 1, none⟩ = some (.int .i64 (-77)) := by
  have h1 := own_inL h (fun x hx => by
    rw [List.mem_append, List.mem_singleton] at hx
    rcases hx with hx | hx
    · exact ht x hx
    · rw [hx]
      refine ⟨?_, ?_, ?_, ?_⟩ <;> (show _ ∧ _; decide))
  constructor
  · have h2 := h1.take n (by omega)
    have e : (l ++ [mkX]).take n = l := by rw [← hl, List.take_left]
    rwa [e] at h2
  · have h2 := (h1.cell (j := n) (by omega)).2.1
    rw [Nat.zero_add] at h2
    rw [h2, List.getD_eq_getElem?_getD, List.getElem?_append_right (by omega), hl, Nat.sub_self]
    rfl
set_option maxRecDepth 100000 in
set_option maxHeartbeats 2000000 in
theorem mineL_c (l : List Ls) (a : Option Addr) (n cap : Nat) (w : World) (hA : InL w a n cap l) (hn : n ≤ 1048576) :
    Calls Tryd.prog 10 #[.slice a n cap] w fun e w' => ∃ g, e = .returned (.slice (some ⟨g, 0, none⟩) n (n + 1)) ∧ MkL w' g n l ∧ w.heap.size ≤ g ∧ Below w.heap.size w w' := by
  obtain ⟨i0, hi0, hz0, hz1, hz2⟩ := info_parts infoL
  have HA := Lib.hid hA
  clear hA
  go_enter Tryd.func10, Tryd.ntmps10
  go_wp2_with (first | (refine wpList_make_own w rfl _ _ 22 rfl w.heap.size tyL i0 (.agg #[.int .u32 0, .int .i64 0, .int .u32 0, .int .i64 0]) 4 Tryd.underlying22 hi0 hz0 hz1 .i64 .i64 ((n : Int) + 1) (n + 1) rfl rfl (by omega) (by rw [hz2]; omega) (by unfold maxLen; omega) (Nat.le_refl _) ?_))
  intro w1 hown1 hg1
  have HB1 := Lib.hid ((Below.refl w.heap.size w).grown hg1 (Nat.le_refl _) (fun k hk => by cases hk))
  have HA1 := Lib.hid (HA.out.below HB1.out)
  clear hg1
  go_wp2_with (first | (at_builtin; refine wpList_append_fits_any w1 rfl (.tmp 6) (.tmp 7) 22 rfl w.heap.size tyL i0 4 Tryd.underlying22 hi0 hz1 w.heap.size 0 (n + 1) [] rfl hown1 a n cap (cellsL l) rfl ?c1 HA1.out.zero HA1.out.cells (cellsL_one1 l) ?c2 ?_))
  case c1 => rw [cellsL_len, HA1.out.len]
  case c2 => omega
  intro w2 hown2 hg2
  have HB2 := Lib.hid (HB1.out.grown hg2 HB1.out.size (fun k hk => by cases hk; exact Nat.le_refl _))
  have HO2 := Lib.hid hown2
  have hs2 := HB2.out.size
  clear hown1 hg2 HA1 HB1
  go_wp2_with (first | (at_builtin; refine wpList_append_fits _ rfl (.tmp 8) (.tmp 10) 22 rfl w.heap.size tyL i0 4 Tryd.underlying22 hi0 hz1 w.heap.size n (n + 1) (cellsL l) rfl (HO2.out.alloc _) ⟨w2.heap.size, 0, none⟩ 1 1 mkX.cs rfl rfl ?c5 (cs_one _) ?c4 ?_))
  case c5 => exact ls_new w2 mkX
  case c4 => omega
  intro w3 hown3 hg3
  have HB3 := Lib.hid ((HB2.out.alloc hs2 (.cells #[.int .u32 0, .int .i64 (-77), .int .u32 0, .int .i64 0] tyL)).grown hg3 (by simp; omega) (fun k hk => by cases hk; exact Nat.le_refl _))
  have HO3 : Hid (MkL w3 w.heap.size n l) := Lib.hid (by
    rw [show mkX.cs = cellsL [mkX] from (cellsL_one mkX).symm, ← cellsL_app] at hown3
    have h := mark_inL hown3 HA.out.len HA.out.typ
    exact ⟨h.1, h.2⟩)
  clear hown2 hown3 hg3 HO2 HB2
  go_wp2
  go_ret
  exact ⟨_, rfl, HO3.out, Nat.le_refl _, HB3.out⟩
set_option maxRecDepth 100000 in
theorem keptL_c (l : List Ls) (a : Option Addr) (n cap g : Nat) (w : World) (hM : MkL w g n l) (hA : InL w a n cap l) (hn : n ≤ 1048576) :
    Calls Tryd.prog 15 #[.slice (some ⟨g, 0, none⟩) n (n + 1), .slice a n cap] w fun e w' => e = .returned (.bool true) ∧ Below w.heap.size w w' := by
  have CI := Lib.hid (refSame_c l l (some ⟨g, 0, none⟩) a n n (n + 1) cap w hM.row hA (by omega) (by omega))
  rw [decide_eq_true rfl] at CI
  have HM := Lib.hid hM
  have v1 : ∀ [Inhabited Nat], IntKind.i64.wrap ((n : Int) + 1) = (n : Int) + 1 := by intro _; exact IntWalk.i64_in _ (by omega)
  clear hM hA
  go_enter Tryd.func15, Tryd.ntmps15
  go_wp2_with fail
  refine CI.out.mono ?_
  rintro e w1 ⟨rfl, hb⟩
  have c := (HM.out.below hb).mark
  have HB := Lib.hid hb
  clear hb CI
  go_wp2
  go_ret
  exact ⟨rfl, HB.out⟩
theorem al1 : grantL [] 16843009 167837697 5 = ([⟨16843009, 1024, 167837697, 69⟩], ⟨16843009, 1024, 167837697, 69⟩, 0) := by kernel_rfl
theorem al2 : grantL [⟨16843009, 1024, 167837697, 69⟩] 16843009 167837698 6 = ([⟨16843009, 1024, 167837697, 69⟩, ⟨16843009, 1032, 167837698, 70⟩], ⟨16843009, 1032, 167837698, 70⟩, 0) := by kernel_rfl
theorem al3 : findL 16843009 1033 70 [⟨16843009, 1024, 167837697, 69⟩, ⟨16843009, 1032, 167837698, 70⟩] = some ⟨16843009, 1032, 167837698, 70⟩ := by kernel_rfl
end Go.Proofs.YtanajblldlgalaaDoor
