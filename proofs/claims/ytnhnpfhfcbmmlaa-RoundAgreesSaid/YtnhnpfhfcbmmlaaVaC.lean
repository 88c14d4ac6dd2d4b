/- Small calls: managers, times, vips, homes; the program's and the document's. Conditions: those stated. The program's Check of ends, and the document's. Condition: the row came in. slices.Equal over ends, sameService, isService. Conditions: the rows came in. saysGood and Check of a command. Conditions: the command's ends came in. -/
import Derived.Test.YtnhnpfhfcbmmlaaVtM
import Derived.Test.YtnhnpfhfcbmmlaaSbL
import Derived.LoopTactic
import Derived.Deep.LoopGhost
import Derived.Shelf.Abstract
import Derived.Deep.CutRange
namespace Go.Proofs.Ytnhnpfhfcbmmlaa
open Go Go.RowKit
set_option linter.unusedVariables false
set_option linter.unusedSimpArgs false

theorem homeR_any (a : Int) (w : World) : Calls Try.prog 106 #[.int .u32 a] w fun e w' => (∃ h v : Int, e = .returned (.tuple #[.int .i64 h, .int .i64 v, .bool (decide (IsDip a))])) ∧ w = w' := by
  by_cases h : IsDip a
  · refine (refHome_ok a h w).mono ?_
    rintro e w1 ⟨rfl, rfl⟩
    exact ⟨⟨_, _, by rw [decide_eq_true h]⟩, rfl⟩
  · refine (refHome_no a h w).mono ?_
    rintro e w1 ⟨rfl, rfl⟩
    exact ⟨⟨_, _, by rw [decide_eq_false h]⟩, rfl⟩
theorem home_any (a : Int) (ha : u32c a) (w : World) : Calls Try.prog 102 #[.int .u32 a] w fun e w' => (∃ h v : Int, e = .returned (.tuple #[.int .i64 h, .int .i64 v, .bool (decide (IsDip a))])) ∧ Below w.heap.size w w' := by
  by_cases h : IsDip a
  · refine (home_ok a h w).mono ?_
    rintro e w1 ⟨rfl, hb⟩
    exact ⟨⟨_, _, by rw [decide_eq_true h]⟩, hb⟩
  · refine (home_no a ha.1 ha.2 h w).mono ?_
    rintro e w1 ⟨rfl, hb⟩
    exact ⟨⟨_, _, by rw [decide_eq_false h]⟩, hb⟩
theorem mgr_c (n : Int) (hn : i64c n) (w : World) : Calls Try.prog 62 #[.int .i64 n] w fun e w' => e = .returned (.bool (decide (IsMgr n))) ∧ w = w' := by
  by_cases h : IsNode n
  · have K := Lib.hid (kind_ok n h)
    by_cases hm : IsMgr n
    · rw [decide_eq_true hm]
      have e1 : kd n = 16 := by unfold kd; unfold IsMgr at hm; omega
      rw [e1] at K
      clear hm h hn e1
      go_enter Try.func62, Try.ntmps62
      go_wp2_with fail
      refine (K.out _).mono ?_
      rintro e w1 ⟨rfl, rfl⟩
      go_wp2
      go_ret
      exact ⟨rfl, rfl⟩
    · rw [decide_eq_false hm]
      have e1 : kd n ≠ 16 := by unfold kd; unfold IsMgr at hm; unfold IsNode at h; omega
      obtain ⟨k, hk⟩ : ∃ k, k = kd n := ⟨_, rfl⟩
      rw [← hk] at K e1
      have e2 : (k == 16) = false := by simp [e1]
      clear hm h hn e1 hk
      go_enter Try.func62, Try.ntmps62
      go_wp2_with fail
      refine (K.out _).mono ?_
      rintro e w1 ⟨rfl, rfl⟩
      go_wp2
      go_ret
      exact ⟨rfl, rfl⟩
  · have K := Lib.hid (kind_no n hn.2 h)
    rw [decide_eq_false (fun hm => h (by unfold IsMgr at hm; unfold IsNode; omega))]
    clear h hn
    go_enter Try.func62, Try.ntmps62
    go_wp2_with fail
    refine (K.out _).mono ?_
    rintro e w1 ⟨rfl, rfl⟩
    go_wp2
    go_ret
    exact ⟨rfl, rfl⟩
theorem time_c (n : Int) (w : World) : Calls Try.prog 63 #[.int .i64 n] w fun e w' => e = .returned (.bool (decide (IsTm n))) ∧ w = w' := by
  by_cases h0 : 0 ≤ n
  · by_cases h1 : n ≤ 1099511627776
    · rw [decide_eq_true (show IsTm n from ⟨h0, h1⟩)]
      go_enter Try.func63, Try.ntmps63
      go_wp2
      go_ret
      exact ⟨rfl, rfl⟩
    · rw [decide_eq_false (fun h : IsTm n => h1 h.2)]
      have h2 : 1099511627776 < n := by omega
      go_enter Try.func63, Try.ntmps63
      go_wp2
      go_ret
      exact ⟨rfl, rfl⟩
  · rw [decide_eq_false (fun h : IsTm n => h0 h.1)]
    have h2 : n < 0 := by omega
    go_enter Try.func63, Try.ntmps63
    go_wp2
    go_ret
    exact ⟨rfl, rfl⟩
theorem timeR_c (n : Int) (w : World) : Calls Try.prog 65 #[.int .i64 n] w fun e w' => e = .returned (.bool (decide (IsTm n))) ∧ w = w' := by
  by_cases h0 : 0 ≤ n
  · by_cases h1 : n ≤ 1099511627776
    · rw [decide_eq_true (show IsTm n from ⟨h0, h1⟩)]
      go_enter Try.func65, Try.ntmps65
      go_wp2
      go_ret
      exact ⟨rfl, rfl⟩
    · rw [decide_eq_false (fun h : IsTm n => h1 h.2)]
      have h2 : 1099511627776 < n := by omega
      go_enter Try.func65, Try.ntmps65
      go_wp2
      go_ret
      exact ⟨rfl, rfl⟩
  · rw [decide_eq_false (fun h : IsTm n => h0 h.1)]
    have h2 : n < 0 := by omega
    go_enter Try.func65, Try.ntmps65
    go_wp2
    go_ret
    exact ⟨rfl, rfl⟩
theorem mgrR_c (n : Int) (w : World) : Calls Try.prog 30 #[.int .i64 n] w fun e w' => e = .returned (.bool (decide (IsMgr n))) ∧ w = w' := by
  by_cases h0 : 16 ≤ n
  · by_cases h1 : n ≤ 23
    · rw [decide_eq_true (show IsMgr n from ⟨h0, h1⟩)]
      go_enter Try.func30, Try.ntmps30
      go_wp2
      go_ret
      exact ⟨rfl, rfl⟩
    · rw [decide_eq_false (fun h : IsMgr n => h1 h.2)]
      have h2 : 23 < n := by omega
      go_enter Try.func30, Try.ntmps30
      go_wp2
      go_ret
      exact ⟨rfl, rfl⟩
  · rw [decide_eq_false (fun h : IsMgr n => h0 h.1)]
    have h2 : n < 16 := by omega
    go_enter Try.func30, Try.ntmps30
    go_wp2
    go_ret
    exact ⟨rfl, rfl⟩
theorem machR_c (a : Int) (w : World) : Calls Try.prog 69 #[.int .u32 a] w fun e w' => e = .returned (.bool (decide (IsDip a))) ∧ w = w' := by
  have H := Lib.hid (homeR_any a)
  go_enter Try.func69, Try.ntmps69
  go_wp2_with fail
  refine (H.out _).mono ?_
  rintro e w1 ⟨⟨h, v, rfl⟩, rfl⟩
  go_wp2
  go_ret
  exact ⟨rfl, rfl⟩
theorem vip_cases (f : Int) : (f < 1 ∨ 223 < f ∨ f = 10 ∨ f = 127) ∨ (1 ≤ f ∧ f ≤ 223 ∧ f ≠ 10 ∧ f ≠ 127) := by omega
theorem vip_c (a : Int) (ha : u32c a) (w : World) : Calls Try.prog 104 #[.int .u32 a] w fun e w' => e = .returned (.bool (decide (IsVp a))) ∧ Below w.heap.size w w' := by
  have S := Lib.hid (split_any a ha.1 ha.2)
  have E : decide (IsVp a) = decide (1 ≤ a / 16777216 ∧ a / 16777216 ≤ 223 ∧ a / 16777216 ≠ 10 ∧ a / 16777216 ≠ 127) := rfl
  rw [E]
  have e0 := at0
  obtain ⟨f, hf⟩ : ∃ f, f = a / 16777216 := ⟨_, rfl⟩
  rw [← hf] at S ⊢
  clear hf ha E
  rcases vip_cases f with (h | h | h | h) | ⟨h1, h2, h3, h4⟩
  · rw [decide_eq_false (by omega)]
    go_enter Try.func104, Try.ntmps104
    go_wp2_with fail
    refine (S.out _).mono ?_
    rintro e w1 ⟨rfl, hb⟩
    go_wp2
    go_ret
    exact ⟨rfl, hb⟩
  · rw [decide_eq_false (by omega)]
    have h0 : 1 ≤ f := by omega
    go_enter Try.func104, Try.ntmps104
    go_wp2_with fail
    refine (S.out _).mono ?_
    rintro e w1 ⟨rfl, hb⟩
    go_wp2
    go_ret
    exact ⟨rfl, hb⟩
  · subst h
    rw [decide_eq_false (by omega)]
    go_enter Try.func104, Try.ntmps104
    go_wp2_with fail
    refine (S.out _).mono ?_
    rintro e w1 ⟨rfl, hb⟩
    go_wp2
    go_ret
    exact ⟨rfl, hb⟩
  · subst h
    rw [decide_eq_false (by omega)]
    go_enter Try.func104, Try.ntmps104
    go_wp2_with fail
    refine (S.out _).mono ?_
    rintro e w1 ⟨rfl, hb⟩
    go_wp2
    go_ret
    exact ⟨rfl, hb⟩
  · rw [decide_eq_true ⟨h1, h2, h3, h4⟩]
    have b3 : (f != 10) = true := by simp [h3]
    have b4 : (f != 127) = true := by simp [h4]
    clear h3 h4
    go_enter Try.func104, Try.ntmps104
    go_wp2_with fail
    refine (S.out _).mono ?_
    rintro e w1 ⟨rfl, hb⟩
    go_wp2
    go_ret
    exact ⟨rfl, hb⟩
theorem byte0_c (a : Int) (ha : u32c a) (w : World) : Calls Try.prog 105 #[.int .u32 a, .int .i64 0] w fun e w' => e = .returned (.int .i64 (a / 16777216)) ∧ w = w' := by
  obtain ⟨h0, h1⟩ := ha
  obtain ⟨f, hf⟩ : ∃ f, f = a / 16777216 := ⟨_, rfl⟩
  have f0 : 0 ≤ f ∧ f < 256 := by omega
  rw [← hf]
  have g1 : Int.tmod f 256 = f := Int.tmod_eq_of_lt f0.1 f0.2
  have g2 : Int.tmod (a / 16777216) 256 = a / 16777216 := by rw [← hf]; exact g1
  go_enter Try.func105, Try.ntmps105
  go_wp2
  go_ret
  refine ⟨?_, rfl⟩
  rw [hf]
  rfl
theorem vipR_c (a : Int) (ha : u32c a) (w : World) : Calls Try.prog 66 #[.int .u32 a] w fun e w' => e = .returned (.bool (decide (IsVp a))) ∧ w = w' := by
  have S := Lib.hid (byte0_c a ha)
  have E : decide (IsVp a) = decide (1 ≤ a / 16777216 ∧ a / 16777216 ≤ 223 ∧ a / 16777216 ≠ 10 ∧ a / 16777216 ≠ 127) := rfl
  rw [E]
  obtain ⟨f, hf⟩ : ∃ f, f = a / 16777216 := ⟨_, rfl⟩
  rw [← hf] at S ⊢
  clear hf ha E
  rcases vip_cases f with (h | h | h | h) | ⟨h1, h2, h3, h4⟩
  · rw [decide_eq_false (by omega)]
    go_enter Try.func66, Try.ntmps66
    go_wp2_with fail
    refine (S.out _).mono ?_
    rintro e w1 ⟨rfl, rfl⟩
    go_wp2
    go_ret
    exact ⟨rfl, rfl⟩
  · rw [decide_eq_false (by omega)]
    have h0 : 1 ≤ f := by omega
    go_enter Try.func66, Try.ntmps66
    go_wp2_with fail
    refine (S.out _).mono ?_
    rintro e w1 ⟨rfl, rfl⟩
    go_wp2
    go_ret
    exact ⟨rfl, rfl⟩
  · subst h
    rw [decide_eq_false (by omega)]
    go_enter Try.func66, Try.ntmps66
    go_wp2_with fail
    refine (S.out _).mono ?_
    rintro e w1 ⟨rfl, rfl⟩
    go_wp2
    go_ret
    exact ⟨rfl, rfl⟩
  · subst h
    rw [decide_eq_false (by omega)]
    go_enter Try.func66, Try.ntmps66
    go_wp2_with fail
    refine (S.out _).mono ?_
    rintro e w1 ⟨rfl, rfl⟩
    go_wp2
    go_ret
    exact ⟨rfl, rfl⟩
  · rw [decide_eq_true ⟨h1, h2, h3, h4⟩]
    have b3 : (f != 10) = true := by simp [h3]
    have b4 : (f != 127) = true := by simp [h4]
    clear h3 h4
    go_enter Try.func66, Try.ntmps66
    go_wp2_with fail
    refine (S.out _).mono ?_
    rintro e w1 ⟨rfl, rfl⟩
    go_wp2
    go_ret
    exact ⟨rfl, rfl⟩
end Go.Proofs.Ytnhnpfhfcbmmlaa
namespace Go.Proofs.Ytnhnpfhfcbmmlaa
open Go Go.RowKit
set_option linter.unusedVariables false
set_option linter.unusedSimpArgs false


def En.obj (e : En) : Obj := .cells #[.int .u32 e.dip, .int .i64 e.port, .int .i64 e.wt] tyE
theorem enAt_new (w : World) (e : En) : (w.alloc e.obj).cell? ⟨w.heap.size, 0, none⟩ = some (.int .u32 e.dip) ∧ (w.alloc e.obj).cell? ⟨w.heap.size, 1, none⟩ = some (.int .i64 e.port) ∧ (w.alloc e.obj).cell? ⟨w.heap.size, 2, none⟩ = some (.int .i64 e.wt) := by
  simp [En.obj, go_sem]
set_option maxRecDepth 100000 in
theorem isEnd_c (e : En) (w : World) (ht : TyEn e) (z : Bool) (hz : z = true ↔ GoodE e) :
    Calls Try.prog 135 #[e.val] w fun r w' => r = .returned (.bool z) ∧ Below w.heap.size w w' := by
  obtain ⟨W, hW⟩ : ∃ W, W = w.alloc e.obj := ⟨_, rfl⟩
  have hA := enAt_new w e
  rw [← hW] at hA
  have HBW : Hid (Below w.heap.size w W) := Lib.hid (by rw [hW]; exact bl_al (Below.refl _ _) _)
  have HLW : Hid (w.heap.size < W.heap.size) := Lib.hid (by rw [hW]; simp)
  obtain ⟨q, hq⟩ : ∃ q, q = w.heap.size := ⟨_, rfl⟩
  rw [← hq] at hA HLW
  have HW := Lib.hid (And.intro hW hq)
  obtain ⟨d, p, t⟩ := e
  obtain ⟨c0, c1, c2⟩ := hA
  have HT := Lib.hid ht.1
  have HG := Lib.hid (And.intro hz.1 hz.2)
  clear hW hq ht hz
  have HOK := Lib.hid (fun h => home_ok d h W)
  have HNO := Lib.hid (fun h => home_no d HT.out.1 HT.out.2 h W)
  by_cases qd : IsDip d
  · have CH := Lib.hid (HOK.out qd)
    have HQ := Lib.hid qd
    clear qd HOK HNO
    go_enter Try.func135, Try.ntmps135
    go_upto_region 1 with fail
    rw [show w.alloc (.cells #[.int .u32 d, .int .i64 p, .int .i64 t] tyE) = W from HW.out.1.symm, ← HW.out.2]
    go_wp2_with fail
    refine CH.out.mono ?_
    rintro r w1 ⟨rfl, hb⟩
    have HB := Lib.hid (HBW.out.trans (hb.mono HBW.out.size))
    have d1 := (hb.cell (p := ⟨q, 1, none⟩) (block_lt_of_cell c1)).trans c1
    have d2 := (hb.cell (p := ⟨q, 2, none⟩) (block_lt_of_cell c2)).trans c2
    clear hb CH c0 c1 c2
    by_cases q1 : p < 0
    · have HZ : Hid (z = false) := Lib.hid (Bool.eq_false_iff.2 (fun h => by have := (HG.out.1 h).2.1; simp only at this; omega))
      go_wp2
      go_ret
      exact ⟨by rw [HZ.out]; rfl, HB.out⟩
    by_cases q2 : 65535 < p
    · have HZ : Hid (z = false) := Lib.hid (Bool.eq_false_iff.2 (fun h => by have := (HG.out.1 h).2.1; simp only at this; omega))
      go_wp2
      go_ret
      exact ⟨by rw [HZ.out]; rfl, HB.out⟩
    by_cases q3 : t < 1
    · have HZ : Hid (z = false) := Lib.hid (Bool.eq_false_iff.2 (fun h => by have := (HG.out.1 h).2.2; simp only at this; omega))
      go_wp2
      go_ret
      exact ⟨by rw [HZ.out]; rfl, HB.out⟩
    by_cases q4 : 16 < t
    · have HZ : Hid (z = false) := Lib.hid (Bool.eq_false_iff.2 (fun h => by have := (HG.out.1 h).2.2; simp only at this; omega))
      go_wp2
      go_ret
      exact ⟨by rw [HZ.out, show decide (t ≤ 16) = false from decide_eq_false (by omega)]; rfl, HB.out⟩
    have HZ : Hid (z = true) := Lib.hid (HG.out.2 ⟨HQ.out, ⟨by simp only; omega, by simp only; omega⟩, by simp only; omega, by simp only; omega⟩)
    go_wp2
    go_ret
    exact ⟨by rw [HZ.out]; rfl, HB.out⟩
  · have CH := Lib.hid (HNO.out qd)
    have HZ : Hid (z = false) := Lib.hid (Bool.eq_false_iff.2 (fun h => qd (HG.out.1 h).1))
    clear qd HOK HNO
    go_enter Try.func135, Try.ntmps135
    go_upto_region 1 with fail
    rw [show w.alloc (.cells #[.int .u32 d, .int .i64 p, .int .i64 t] tyE) = W from HW.out.1.symm, ← HW.out.2]
    go_wp2_with fail
    refine CH.out.mono ?_
    rintro r w1 ⟨rfl, hb⟩
    have HB := Lib.hid (HBW.out.trans (hb.mono HBW.out.size))
    clear hb CH c0 c1 c2
    go_wp2
    go_ret
    exact ⟨by rw [HZ.out]; rfl, HB.out⟩
/-- The closure of Check: an end with this one's machine. -/
theorem twin_c (e : En) (d : Int) (g : Nat) (w : World) (hc : w.cell? ⟨g, 0, none⟩ = some (.int .u32 d)) :
    Calls Try.prog 134 #[e.val, .pointer (some ⟨g, 0, none⟩)] w fun r w' => r = .returned (.bool (e.dip == d)) ∧ Below w.heap.size w w' := by
  have hl := block_lt_of_cell hc
  have hA := (enAt_new w e).1
  have hc2 : (w.alloc e.obj).cell? ⟨g, 0, none⟩ = some (.int .u32 d) := ((bl_al (Below.refl _ _) _).cell (p := ⟨g, 0, none⟩) hl).trans hc
  obtain ⟨W, hW⟩ : ∃ W, W = w.alloc e.obj := ⟨_, rfl⟩
  have HBW : Hid (Below w.heap.size w W) := Lib.hid (by rw [hW]; exact bl_al (Below.refl _ _) _)
  rw [← hW] at hA hc2
  obtain ⟨q, hq⟩ : ∃ q, q = w.heap.size := ⟨_, rfl⟩
  rw [← hq] at hA
  have HW := Lib.hid (And.intro hW hq)
  obtain ⟨x, p, t⟩ := e
  clear hW hq hc hl
  go_enter Try.func134, Try.ntmps134
  go_upto_region 1 with fail
  rw [show w.alloc (.cells #[.int .u32 x, .int .i64 p, .int .i64 t] tyE) = W from HW.out.1.symm, ← HW.out.2]
  go_wp2
  go_ret
  exact ⟨rfl, HBW.out⟩
/-- What a function value answers, from a world on. -/
def PredE (g : Nat) (cb : Array Value) (p : En → Bool) (l : List En) (w : World) : Prop :=
  ∀ (W : World), Below w.heap.size w W → ∀ x, TyEn x → Calls Try.prog g (#[x.val] ++ cb) W fun e w' => e = .returned (.bool (p x)) ∧ Below W.heap.size W w'
theorem PredE.later {g : Nat} {cb : Array Value} {p : En → Bool} {l : List En} {w W : World} (h : PredE g cb p l w) (hb : Below w.heap.size w W) : PredE g cb p l W := fun W2 h2 x hx => h W2 (bl_tr hb h2) x hx
/-- The place of the first lease of which it holds. -/
def IdxE (p : En → Bool) (l : List En) (k : Int) : Prop := (k = -1 ∧ l.find? p = none) ∨ ∃ i : Nat, k = i ∧ i < l.length ∧ p (l.getD i en0) = true ∧ l.find? p = some (l.getD i en0)
theorem findE_hit {p : En → Bool} {l : List En} {i : Nat} (hi : i < l.length) (h : (l.take i).find? p = none) (e : p (l.getD i en0) = true) : l.find? p = some (l.getD i en0) := by
  have h1 : l = l.take i ++ l.getD i en0 :: l.drop (i + 1) := by
    conv => lhs; rw [← List.take_append_drop i l]
    rw [List.drop_eq_getElem_cons hi, List.getD_eq_getElem?_getD, List.getElem?_eq_getElem hi]
    rfl
  generalize l.getD i en0 = x at h1 e ⊢
  rw [h1, List.find?_append, h, Option.none_or, List.find?_cons_of_pos e]
theorem findE_miss {p : En → Bool} {l : List En} {i : Nat} (hi : i < l.length) (h : (l.take i).find? p = none) (e : p (l.getD i en0) = false) : (l.take (i + 1)).find? p = none := by
  rw [take_moreE l hi, List.find?_append, h, Option.none_or, List.find?_cons_of_neg (by rw [e]; exact Bool.false_ne_true)]
  rfl
set_option maxRecDepth 100000 in
set_option maxHeartbeats 2000000 in
theorem indexE_c (p : En → Bool) (g : Nat) (cb : Array Value) (eg : ∀ args w, (callFunc g args).run Try.prog w = .ok (.enter g args) w) (l : List En) (a : Option Addr) (n c : Nat) (w : World) (hI : InE w a n c l) (hn : n ≤ 1048576) (hp : PredE g cb p l w) :
    Calls Try.prog 137 #[.slice a n c, .func (.func g) #[] cb] w fun e w' => (∃ k : Int, e = .returned (.int .i64 k) ∧ IdxE p l k) ∧ Below w.heap.size w w' := by
  have hlen := hI.len
  have HI := Lib.hid hI
  have HP := Lib.hid hp
  have F0 : Hid ((l.take 0).find? p = none) := Lib.hid rfl
  have HN : Hid (l.take n = l) := Lib.hid (List.take_of_length_le (by omega))
  clear hI hp
  go_enter Try.func137, Try.ntmps137
  go_wp2
  go_loopg [5, 8] n (fun gg _ s8 wr => ∃ i : Nat, i ≤ n ∧ n - i ≤ gg ∧ s8 = .int .i64 i ∧ Hid ((l.take i).find? p = none) ∧ Hid (Below w.heap.size w wr))
  case atStart => exact ⟨0, by omega, by omega, rfl, F0, Lib.hid (Below.refl _ _)⟩
  case round =>
    obtain ⟨i, hi, hgg, rfl, HF, HB⟩ := hrel
    obtain ⟨w2, rfl⟩ : ∃ v, v = wr := ⟨_, rfl⟩
    clear F0
    by_cases hlt : i < n
    · have ii : (i : Int) < (n : Int) := by omega
      have i0 : (0 : Int) ≤ (i : Int) := by omega
      obtain ⟨b, off, rfl⟩ := HI.out.block (by omega)
      have hx := (HI.out.below HB.out).cell hlt
      have ht := HI.out.typ _ (memE (es := l) (i := i) (by omega))
      have HH := Lib.hid (fun e => findE_hit (p := p) (l := l) (i := i) (by omega) HF.out e)
      have HM := Lib.hid (fun e => findE_miss (p := p) (l := l) (i := i) (by omega) HF.out e)
      obtain ⟨x, ex⟩ : ∃ x, x = l.getD i en0 := ⟨_, rfl⟩
      rw [← ex] at hx ht HH HM
      have HX := Lib.hid ex
      have hc := HP.out w2 HB.out x ht
      obtain ⟨c0, c1, c2⟩ := hx
      clear ex ht
      cases hq : p x with
      | true =>
        rw [hq] at hc
        have HR : Hid (IdxE p l i) := Lib.hid (.inr ⟨i, rfl, by omega, by rw [← HX.out]; exact hq, by rw [← HX.out]; exact HH.out hq⟩)
        clear hq HH HM
        go_wp2_with fail
        refine hc.mono ?_
        rintro e w' ⟨rfl, hb'⟩
        have HB2 := Lib.hid (bl_tr HB.out hb')
        clear hb' hc
        go_wp2
        go_ret
        exact ⟨⟨i, rfl, HR.out⟩, HB2.out⟩
      | false =>
        rw [hq] at hc
        have HF2 := Lib.hid (HM.out hq)
        clear hq HH HM
        go_wp2_with fail
        refine hc.mono ?_
        rintro e w' ⟨rfl, hb'⟩
        have HB2 := Lib.hid (bl_tr HB.out hb')
        clear hb' hc
        go_wp2
        go_roundg (n - (i + 1))
        case measure => omega
        case rel => exact ⟨i + 1, by omega, by omega, by go_num, HF2, HB2⟩
    · have ii : ¬ (i : Int) < (n : Int) := by omega
      obtain rfl : i = n := by omega
      go_wp2
      go_ret
      exact ⟨⟨-1, rfl, .inl ⟨rfl, by have := HF.out; rwa [HN.out] at this⟩⟩, HB.out⟩
theorem containsE_c (p : En → Bool) (g : Nat) (cb : Array Value) (eg : ∀ args w, (callFunc g args).run Try.prog w = .ok (.enter g args) w) (l : List En) (a : Option Addr) (n c : Nat) (w : World) (hI : InE w a n c l) (hn : n ≤ 1048576) (hp : PredE g cb p l w) :
    Calls Try.prog 136 #[.slice a n c, .func (.func g) #[] cb] w fun e w' => e = .returned (.bool (l.any p)) ∧ Below w.heap.size w w' := by
  have C := Lib.hid (indexE_c p g cb eg l a n c w hI hn hp)
  clear hI hp
  go_enter Try.func136, Try.ntmps136
  go_wp2_with fail
  refine C.out.mono ?_
  rintro e w1 ⟨⟨k, rfl, hk⟩, hb⟩
  have HB := Lib.hid hb
  clear hb C
  rcases hk with ⟨rfl, h2⟩ | ⟨i, rfl, h1, h2, h3⟩
  · have HE : Hid (l.any p = false) := Lib.hid (by
      rw [List.find?_eq_none] at h2
      exact List.any_eq_false.2 h2)
    clear h2
    go_wp2
    go_ret
    exact ⟨by rw [HE.out]; rfl, HB.out⟩
  · have HE : Hid (l.any p = true) := Lib.hid (List.any_eq_true.2 ⟨_, memE h1, h2⟩)
    have i0 : (0 : Int) ≤ (i : Int) := by omega
    clear h1 h2 h3
    go_wp2
    go_ret
    exact ⟨by rw [HE.out]; simp, HB.out⟩

theorem twins_c (es : List En) (k : Nat) (d : Int) (g b off n c c' : Nat) (w : World) (hI : InE w (some ⟨b, off, none⟩) n c es) (hn : n ≤ 1048576) (hk : k ≤ n) (h0 : 0 < n) (hc : w.cell? ⟨g, 0, none⟩ = some (.int .u32 d)) (hcc : k ≤ c') :
    Calls Try.prog 136 #[.slice (some ⟨b, off, none⟩) k c', .func (.func 134) #[] #[.pointer (some ⟨g, 0, none⟩)]] w fun r w' => r = .returned (.bool ((es.take k).any (fun e => e.dip == d))) ∧ Below w.heap.size w w' := by
  have eg : ∀ args w, (callFunc 134 args).run Try.prog w = .ok (.enter 134 args) w := enters_of Try.func134 (by kernel_rfl) rfl
  have hg := block_lt_of_cell hc
  have h2 := hI.take k hk
  have h3 : InE w (some ⟨b, off, none⟩) k c' (es.take k) := ⟨h2.len, hcc, (fun e => by cases e), h2.here, h2.typ⟩
  refine containsE_c (fun e => e.dip == d) 134 #[.pointer (some ⟨g, 0, none⟩)] eg (es.take k) (some ⟨b, off, none⟩) k c' w h3 (by omega) (fun W hb x hx => ?_)
  have hcW : W.cell? ⟨g, 0, none⟩ = some (.int .u32 d) := (hb.cell (p := ⟨g, 0, none⟩) hg).trans hc
  exact twin_c x d g W hcW
def CkE (es : List En) (z : Int) : Prop := (OkE es → z = 0) ∧ (¬ OkE es → z = 9)
/-- What Check has seen. -/
theorem any_dip {es : List En} {k : Nat} {d : Int} : (es.take k).any (fun e => e.dip == d) = true ↔ d ∈ (es.take k).map (·.dip) := by
  rw [List.any_eq_true, List.mem_map]
  constructor
  · rintro ⟨e, he, h⟩
    exact ⟨e, he, by simpa using h⟩
  · rintro ⟨e, he, h⟩
    exact ⟨e, he, by simpa using h⟩
set_option maxRecDepth 100000 in
set_option maxHeartbeats 4000000 in
theorem rcheck_c (es : List En) (a : Option Addr) (n c : Nat) (w : World) (hI : InE w a n c es) (hn : n ≤ 4611686018427387904) (z : Int) (hz : CkE es z) :
    Calls Try.prog 125 #[.slice a n c] w fun e w' => e = .returned (errF z) ∧ Below w.heap.size w w' := by
  have hlen := hI.len
  have HI := Lib.hid hI
  have HZ := Lib.hid hz
  have hroom := hI.room
  by_cases hl : 64 < n
  · have HE : Hid (z = 9) := Lib.hid (hz.2 (fun h => by have := h.1; omega))
    have il : (64 : Int) < (n : Int) := by omega
    clear hI hz
    go_enter Try.func125, Try.ntmps125
    go_wp2
    go_ret
    exact ⟨by rw [HE.out]; rfl, Below.refl _ _⟩
  · have il : ¬ (64 : Int) < (n : Int) := by omega
    have L0 : Hid (PreE es 0) := Lib.hid ⟨fun e he => by simp at he, by simp⟩
    have HB0 := Lib.hid (Below.refl w.heap.size w)
    clear hI hz
    go_enter Try.func125, Try.ntmps125
    go_wp2
    go_loopw [12] (fun iv wr => ∃ i : Nat, i ≤ n ∧ iv = .int .i64 i ∧ Hid (PreE es i) ∧ Hid (Below w.heap.size w wr)) (fun iv _ => n - (intOf iv).toNat)
    case atStart => exact ⟨0, by omega, rfl, L0, HB0⟩
    case round =>
      obtain ⟨i, hi, rfl, HP, HB⟩ := hrel
      obtain ⟨w2, rfl⟩ : ∃ v, v = wr := ⟨_, rfl⟩
      clear L0 HB0
      by_cases hlt : i < n
      · have hI2 := HI.out.below HB.out
        obtain ⟨b1, o1, rfl⟩ := HI.out.block (by omega)
        have ii : (i : Int) < (n : Int) := by omega
        have i0 : (0 : Int) ≤ (i : Int) := by omega
        have ic : (i : Int) ≤ (c : Int) := by omega
        obtain ⟨c0, c1, c2⟩ := hI2.cell hlt
        have ht := HI.out.typ _ (memE (es := es) (i := i) (by omega))
        obtain ⟨w3, hw3⟩ : ∃ w3, w3 = w2.alloc (es.getD i en0).obj := ⟨_, rfl⟩
        have hA := enAt_new w2 (es.getD i en0)
        have hb3 : Below w2.heap.size w2 w3 := by rw [hw3]; exact bl_al (Below.refl _ _) _
        rw [← hw3] at hA
        have HI3 := Lib.hid (hI2.below hb3)
        have HB3 := Lib.hid (bl_tr HB.out hb3)
        have HNo := Lib.hid (fun h : ¬ GoodE (es.getD i en0) => (fun hok : OkE es => h (hok.2.1 _ (memE (by omega))) : ¬ OkE es))
        have HDu := Lib.hid (dup_not (es := es) (i := i) (by omega))
        have HSt := Lib.hid (HP.out.step (by omega))
        obtain ⟨B, hB⟩ : ∃ B, B = w2.heap.size := ⟨_, rfl⟩
        rw [← hB] at hA
        obtain ⟨e, he⟩ : ∃ e, e = es.getD i en0 := ⟨_, rfl⟩
        have CE := Lib.hid (fun zb h => isEnd_c e w3 (he ▸ ht) zb h)
        rw [← he] at c0 c1 c2 hA HNo HDu HSt hw3
        have HA := Lib.hid hA
        have HW3 := Lib.hid (And.intro hw3 hB)
        obtain ⟨d, p, t⟩ := e
        obtain ⟨a0, a1, a2⟩ := hA
        clear hw3 hB he ht hb3 hI2
        by_cases hg : GoodE ⟨d, p, t⟩
        · have CE1 := Lib.hid (CE.out true ⟨fun _ => hg, fun _ => rfl⟩)
          have HG := Lib.hid hg
          obtain ⟨zb, hzb⟩ : ∃ zb, zb = (es.take i).any (fun e => e.dip == d) := ⟨_, rfl⟩
          have CT := Lib.hid (fun (W : World) (hb : Below w3.heap.size w3 W) (c' : Nat) (hcc : i ≤ c') => twins_c es i d B b1 o1 n c c' W (HI3.out.below hb) (by omega) hi (by omega) ((hb.cell (p := ⟨B, 0, none⟩) (block_lt_of_cell HA.out.1)).trans HA.out.1) hcc)
          rw [← hzb] at CT
          have HZB := Lib.hid hzb
          clear hg hzb CE
          go_upto_region 6 with fail
          rw [show w2.alloc (.cells #[.int .u32 d, .int .i64 p, .int .i64 t] tyE) = w3 from HW3.out.1.symm, ← HW3.out.2]
          clear c0 c1 c2
          go_wp2_with fail
          refine CE1.out.mono ?_
          rintro r w4 ⟨rfl, hb4⟩
          have HB4 := Lib.hid hb4
          clear hb4
          go_wp2_with fail
          refine (CT.out w4 HB4.out c (by omega)).mono ?_
          rintro r w5 ⟨rfl, hb5⟩
          have HB5 := Lib.hid (bl_tr HB3.out (bl_tr HB4.out hb5))
          clear hb5 CT
          cases zb with
          | true =>
            have HE : Hid (z = 9) := Lib.hid (HZ.out.2 (HDu.out (any_dip.1 HZB.out.symm)))
            go_wp2
            go_ret
            exact ⟨by rw [HE.out]; rfl, HB5.out⟩
          | false =>
            have HP2 : Hid (PreE es (i + 1)) := Lib.hid (HSt.out HG.out (fun h => by have := HZB.out; rw [any_dip.2 h] at this; simp at this))
            go_wp2
            go_roundw
            case rel => exact ⟨i + 1, by omega, by go_num, HP2, HB5⟩
            case measure => simp [intOf]; omega
        · have CE1 := Lib.hid (CE.out false ⟨fun h => by simp at h, fun h => absurd h hg⟩)
          have HE : Hid (z = 9) := Lib.hid (HZ.out.2 (HNo.out hg))
          clear hg CE
          go_upto_region 6 with fail
          rw [show w2.alloc (.cells #[.int .u32 d, .int .i64 p, .int .i64 t] tyE) = w3 from HW3.out.1.symm, ← HW3.out.2]
          clear c0 c1 c2
          go_wp2_with fail
          refine CE1.out.mono ?_
          rintro r w4 ⟨rfl, hb4⟩
          have HB4 := Lib.hid (bl_tr HB3.out hb4)
          clear hb4
          go_wp2
          go_ret
          exact ⟨by rw [HE.out]; rfl, HB4.out⟩
      · have ii : ¬ (i : Int) < (n : Int) := by omega
        have HE : Hid (z = 0) := Lib.hid (HZ.out.1 ⟨by omega, by have := HP.out.1; rwa [List.take_of_length_le (by omega)] at this, by have := HP.out.2; rwa [List.take_of_length_le (by omega)] at this⟩)
        go_wp2
        go_ret
        exact ⟨by rw [HE.out]; rfl, HB.out⟩
end Go.Proofs.Ytnhnpfhfcbmmlaa
namespace Go.Proofs.Ytnhnpfhfcbmmlaa
open Go Go.RowKit
set_option linter.unusedVariables false
set_option linter.unusedSimpArgs false

def eqE (a b : En) : Bool := decide (a.dip = b.dip ∧ a.port = b.port ∧ a.wt = b.wt)
theorem eqE_is (a b : En) : eqE a b = decide (a = b) := by
  unfold eqE
  cases a
  cases b
  simp only [En.mk.injEq]
theorem en_neq (a b : En) (w : World) : (binOp .neq tyE a.val b.val).run Try.prog w = .ok (.bool (!eqE a b)) w := by
  unfold eqE
  by_cases h0 : a.dip = b.dip
  · by_cases h1 : a.port = b.port
    · by_cases h2 : a.wt = b.wt
      · go_simp
      · go_simp
    · go_simp
  · go_simp
theorem takeE_step {l m : List En} {j : Nat} (h : l.take j = m.take j) (hl : j < l.length) (hm : j < m.length) (e : l.getD j en0 = m.getD j en0) : l.take (j + 1) = m.take (j + 1) := by
  rw [take_moreE l hl, take_moreE m hm, h, e]
theorem takeE_end {l m : List En} {j n : Nat} (h : l.take j = m.take j) (hl : l.length = n) (hm : m.length = n) (hj : ¬ j < n) : l = m := by
  rw [List.take_of_length_le (by omega), List.take_of_length_le (by omega)] at h
  exact h
theorem differE {l m : List En} {j : Nat} (e : l.getD j en0 ≠ m.getD j en0) : l ≠ m := fun h => e (by rw [h])
set_option maxRecDepth 100000 in
set_option maxHeartbeats 1000000 in
theorem endsEq_c (l m : List En) (a b : Option Addr) (n c k d : Nat) (w : World) (hI : InE w a n c l) (hJ : InE w b k d m) (hn : n ≤ 4611686018427387904) (z : Bool) (hz : z = true ↔ l = m) :
    Calls Try.prog 107 #[.slice a n c, .slice b k d] w fun e w' => e = .returned (.bool z) ∧ Below w.heap.size w w' := by
  have HI := Lib.hid hI
  have HJ := Lib.hid hJ
  have HZ := Lib.hid hz
  have HB0 := Lib.hid (Below.refl w.heap.size w)
  by_cases hk : n = k
  · subst hk
    have r1 := hI.room
    have r2 := hJ.room
    clear hI hJ hz
    go_enter Try.func107, Try.ntmps107
    go_wp2
    go_loopw [5, 13] (fun v i wr => ∃ j : Nat, j ≤ n ∧ i = .int .i64 j ∧ Hid (l.take j = m.take j) ∧ Hid (Below w.heap.size w wr)) (fun _ i _ => n - (intOf i).toNat)
    case atStart => exact ⟨0, by omega, rfl, Lib.hid rfl, HB0⟩
    case round =>
      obtain ⟨j, hj, rfl, hE, hB⟩ := hrel
      clear HB0
      by_cases hlj : j < n
      · obtain ⟨b1, o1, rfl⟩ := HI.out.block (by omega)
        obtain ⟨b2, o2, rfl⟩ := HJ.out.block (by omega)
        obtain ⟨c0, c1, c2⟩ := (HI.out.below hB.out).cell hlj
        obtain ⟨d0, d1, d2⟩ := (HJ.out.below hB.out).cell hlj
        have ilj : (j : Int) < (n : Int) := by omega
        have hdj : decide ((j : Int) < (n : Int)) = true := decide_eq_true ilj
        have j0 : (0 : Int) ≤ (j : Int) := by omega
        have HL1 := HI.out.len
        have HL2 := HJ.out.len
        obtain ⟨x, hx⟩ : ∃ x, x = l.getD j en0 := ⟨_, rfl⟩
        obtain ⟨y, hy⟩ : ∃ y, y = m.getD j en0 := ⟨_, rfl⟩
        have HS := Lib.hid (fun e : x = y => takeE_step hE.out (by omega) (by omega) (by rw [← hx, ← hy]; exact e))
        have HD := Lib.hid (fun e : x ≠ y => differE (l := l) (m := m) (j := j) (by rw [← hx, ← hy]; exact e))
        rw [← hx] at c0 c1 c2
        rw [← hy] at d0 d1 d2
        have HQ := eqE_is x y
        have hne := fun W => en_neq x y W
        obtain ⟨x0, x1, x2⟩ := x
        obtain ⟨y0, y1, y2⟩ := y
        clear hx hy HL1 HL2
        by_cases e : (⟨x0, x1, x2⟩ : En) = ⟨y0, y1, y2⟩
        · have HS := Lib.hid (HS.out e)
          rw [HQ, decide_eq_true e] at hne
          simp only [Bool.not_true] at hne
          clear e HQ HD
          go_wp2
          go_quiet (fail)
          go_wp2
          go_roundw
          case rel => exact ⟨j + 1, by omega, by go_num, HS, Lib.hid (bl_dn hB.out _)⟩
          case measure => simp [intOf]; omega
        · have hzf : z = false := by
            cases hzz : z with
            | false => rfl
            | true => exact absurd (HZ.out.1 hzz) (HD.out e)
          rw [HQ, decide_eq_false e] at hne
          simp only [Bool.not_false] at hne
          have HZF := Lib.hid hzf
          clear e hzf HQ HS
          go_wp2
          go_quiet (fail)
          go_wp2
          go_ret
          exact ⟨congrArg (fun z => Ending.returned (Value.bool z)) HZF.out.symm, bl_dn hB.out _⟩
      · have hzt : z = true := HZ.out.2 (takeE_end hE.out HI.out.len HJ.out.len hlj)
        have HZT := Lib.hid hzt
        have ilj : ¬ ((j : Int) < (n : Int)) := by omega
        clear hzt
        go_wp2
        go_ret
        exact ⟨congrArg (fun z => Ending.returned (Value.bool z)) HZT.out.symm, hB.out⟩
  · have hzf : z = false := by
      cases hzz : z with
      | false => rfl
      | true => exact absurd (by rw [← hI.len, ← hJ.len, hz.1 hzz]) hk
    have hne : ((n : Int) != (k : Int)) = true := by simp; omega
    have HZF := Lib.hid hzf
    clear hzf hI hJ hz hk HZ
    go_enter Try.func107, Try.ntmps107
    go_wp2
    go_ret
    exact ⟨congrArg (fun z => Ending.returned (Value.bool z)) HZF.out.symm, HB0.out⟩
abbrev tySv : TypeId := 40
abbrev svV (v p q : Int) (u : Value) : Value := .agg #[.int .u32 v, .int .i64 p, .int .i64 q, u]
set_option maxRecDepth 100000 in
set_option maxHeartbeats 1000000 in
theorem sameS_c (v p q v2 p2 q2 : Int) (l m : List En) (a b : Option Addr) (n c k d : Nat) (w : World) (hI : InE w a n c l) (hJ : InE w b k d m) (hn : n ≤ 4611686018427387904) (z : Bool) (hz : z = true ↔ (v = v2 ∧ p = p2 ∧ q = q2 ∧ l = m)) :
    Calls Try.prog 75 #[svV v p q (.slice a n c), svV v2 p2 q2 (.slice b k d)] w fun e w' => e = .returned (.bool z) ∧ Below w.heap.size w w' := by
  have HZ := Lib.hid hz
  by_cases h1 : v = v2
  · subst h1
    by_cases h2 : p = p2
    · subst h2
      by_cases h3 : q = q2
      · subst h3
        have C := Lib.hid (fun (W : World) (hb : Below w.heap.size w W) => endsEq_c l m a b n c k d W (hI.below hb) (hJ.below hb) hn z (by rw [HZ.out]; exact ⟨fun h => h.2.2.2, fun h => ⟨rfl, rfl, rfl, h⟩⟩))
        have HB := Lib.hid (bl_al (bl_al (Below.refl _ w) (.cells #[.int .u32 v, .int .i64 p, .int .i64 q, .slice a n c] tySv)) (.cells #[.int .u32 v, .int .i64 p, .int .i64 q, .slice b k d] tySv))
        clear hI hJ hz
        go_enter Try.func75, Try.ntmps75
        go_wp2_with fail
        refine (C.out _ HB.out).mono ?_
        rintro e w1 ⟨rfl, hb⟩
        have HB2 := Lib.hid (bl_tr HB.out hb)
        clear hb
        go_wp2
        go_ret
        exact ⟨rfl, HB2.out⟩
      · have e3 : (q == q2) = false := by simp [h3]
        have hzf : z = false := by
          cases hzz : z with
          | false => rfl
          | true => exact absurd (hz.1 hzz).2.2.1 h3
        have HZF := Lib.hid hzf
        clear hI hJ hz hzf h3 HZ
        go_enter Try.func75, Try.ntmps75
        go_wp2
        go_ret
        exact ⟨congrArg (fun z => Ending.returned (Value.bool z)) HZF.out.symm, bl_al (bl_al (Below.refl _ w) _) _⟩
    · have e3 : (p == p2) = false := by simp [h2]
      have hzf : z = false := by
        cases hzz : z with
        | false => rfl
        | true => exact absurd (hz.1 hzz).2.1 h2
      have HZF := Lib.hid hzf
      clear hI hJ hz hzf h2 HZ
      go_enter Try.func75, Try.ntmps75
      go_wp2
      go_ret
      exact ⟨congrArg (fun z => Ending.returned (Value.bool z)) HZF.out.symm, bl_al (bl_al (Below.refl _ w) _) _⟩
  · have e3 : (v == v2) = false := by simp [h1]
    have hzf : z = false := by
      cases hzz : z with
      | false => rfl
      | true => exact absurd (hz.1 hzz).1 h1
    have HZF := Lib.hid hzf
    clear hI hJ hz hzf h1 HZ
    go_enter Try.func75, Try.ntmps75
    go_wp2
    go_ret
    exact ⟨congrArg (fun z => Ending.returned (Value.bool z)) HZF.out.symm, bl_al (bl_al (Below.refl _ w) _) _⟩
theorem cAt_cells (w : World) (v p q : Int) (u : Value) : ∀ W : World, Below (w.alloc (.cells #[.int .u32 v, .int .i64 p, .int .i64 q, u] tySv)).heap.size (w.alloc (.cells #[.int .u32 v, .int .i64 p, .int .i64 q, u] tySv)) W → W.cell? ⟨w.heap.size, 0, none⟩ = some (.int .u32 v) ∧ W.cell? ⟨w.heap.size, 1, none⟩ = some (.int .i64 p) ∧ W.cell? ⟨w.heap.size, 2, none⟩ = some (.int .i64 q) ∧ W.cell? ⟨w.heap.size, 3, none⟩ = some u := by
  intro W hb
  have g : ∀ (i : Nat) (x : Value), (#[.int .u32 v, .int .i64 p, .int .i64 q, u] : Array Value)[i]? = some x → W.cell? ⟨w.heap.size, i, none⟩ = some x := fun i x hx => by
    have h1 : (w.alloc (.cells #[.int .u32 v, .int .i64 p, .int .i64 q, u] tySv)).cell? ⟨w.heap.size, i, none⟩ = some x := by rw [World.cell?_alloc_mark]; exact hx
    exact (hb.cell (p := ⟨w.heap.size, i, none⟩) (block_lt_of_cell h1)).trans h1
  exact ⟨g 0 _ rfl, g 1 _ rfl, g 2 _ rfl, g 3 _ rfl⟩
theorem inE_nil (w : World) : InE w none 0 0 [] := ⟨rfl, Nat.le_refl _, fun _ => rfl, .inl rfl, fun e he => by cases he⟩
theorem nil_eql (w : World) : (binOp .eql 28 .nilIface .nilIface).run Try.prog w = .ok (.bool true) w := by kernel_rfl
theorem nine_eql (w : World) : (binOp .eql 28 (errnoF 9) .nilIface).run Try.prog w = .ok (.bool false) w := by kernel_rfl
set_option maxRecDepth 100000 in
set_option maxHeartbeats 1000000 in
theorem service_c (v p q : Int) (l : List En) (a : Option Addr) (n c : Nat) (w : World) (hI : InE w a n c l) (hv : u32c v) (hn : n ≤ 4611686018427387904) :
    Calls Try.prog 103 #[svV v p q (.slice a n c)] w fun e w' => e = .returned (.bool (decide (IsVp v ∧ (p = 6 ∨ p = 17) ∧ (1 ≤ q ∧ q ≤ 1023) ∧ OkE l))) ∧ Below w.heap.size w w' := by
  obtain ⟨z, hz⟩ : ∃ z, z = decide (IsVp v ∧ (p = 6 ∨ p = 17) ∧ (1 ≤ q ∧ q ≤ 1023) ∧ OkE l) := ⟨_, rfl⟩
  rw [← hz]
  obtain ⟨bv, hbv⟩ : ∃ bv, bv = decide (IsVp v) := ⟨_, rfl⟩
  have CV := Lib.hid (fun W => vip_c v hv W)
  rw [← hbv] at CV
  have HB := Lib.hid (bl_al (Below.refl _ w) (.cells #[.int .u32 v, .int .i64 p, .int .i64 q, .slice a n c] tySv))
  obtain ⟨zo, hzo⟩ : ∃ zo : Int, zo = if OkE l then 0 else 9 := ⟨_, rfl⟩
  have CC := Lib.hid (fun (W : World) (hb : Below w.heap.size w W) => rcheck_c l a n c W (hI.below hb) hn zo ⟨fun h => by rw [hzo, if_pos h], fun h => by rw [hzo, if_neg h]⟩)
  have HW := Lib.hid hz
  have HBV := Lib.hid hbv
  have HZO := Lib.hid hzo
  have no : ¬ (IsVp v ∧ (p = 6 ∨ p = 17) ∧ (1 ≤ q ∧ q ≤ 1023)) → Hid (z = false) := fun h => Lib.hid (by rw [HW.out]; exact decide_eq_false (fun h2 => h ⟨h2.1, h2.2.1, h2.2.2.1⟩))
  have qn := nil_eql
  have q9 := nine_eql
  clear hI hz hbv hzo
  have fin : Hid (z = false) → ∀ w', Below w.heap.size w w' → (Ending.returned (.bool false) = Ending.returned (.bool z) ∧ Below w.heap.size w w') := fun h w' hb => ⟨by rw [h.out], hb⟩
  cases bv with
  | false =>
    have N := no (fun h => by have := HBV.out; rw [decide_eq_true h.1] at this; cases this)
    clear no
    go_enter Try.func103, Try.ntmps103
    go_wp2_with fail
    refine (CV.out _).mono ?_
    rintro e w1 ⟨rfl, hb⟩
    have HB2 := Lib.hid (bl_tr HB.out hb)
    clear hb
    go_wp2
    go_ret
    exact fin N _ HB2.out
  | true =>
    have hvp : IsVp v := of_decide_eq_true HBV.out.symm
    have HL := Lib.hid (cAt_cells w v p q (.slice a n c))
    go_enter Try.func103, Try.ntmps103
    go_wp2_with fail
    refine (CV.out _).mono ?_
    rintro e w1 ⟨rfl, hb⟩
    obtain ⟨f0, f1, f2, f3⟩ := HL.out w1 hb
    have HB2 := Lib.hid (bl_tr HB.out hb)
    have HVP := Lib.hid hvp
    clear hb hvp
    by_cases hp : p = 6 ∨ p = 17
    · by_cases hq0 : 1 ≤ q
      · by_cases hq1 : q ≤ 1023
        · have HZ2 : Hid (z = decide (OkE l)) := Lib.hid (by rw [HW.out]; exact decide_eq_decide.2 ⟨fun h => h.2.2.2, fun h => ⟨HVP.out, hp, ⟨hq0, hq1⟩, h⟩⟩)
          have CC2 := Lib.hid (CC.out _ HB2.out)
          clear no CC
          rcases hp with rfl | rfl
          · go_wp2_with fail
            refine CC2.out.mono ?_
            rintro e w2 ⟨rfl, hb⟩
            have HB3 := Lib.hid (bl_tr HB2.out hb)
            clear hb
            by_cases ho : OkE l
            · have e0 : zo = 0 := by rw [HZO.out, if_pos ho]
              subst e0
              have E : errF 0 = .nilIface := rfl
              rw [E]
              go_wp2
              go_ret
              exact ⟨by rw [HZ2.out, decide_eq_true ho]; rfl, HB3.out⟩
            · have e0 : zo = 9 := by rw [HZO.out, if_neg ho]
              subst e0
              have E : errF 9 = errnoF 9 := rfl
              rw [E]
              go_wp2
              go_ret
              exact ⟨by rw [HZ2.out, decide_eq_false ho]; rfl, HB3.out⟩
          · go_wp2_with fail
            refine CC2.out.mono ?_
            rintro e w2 ⟨rfl, hb⟩
            have HB3 := Lib.hid (bl_tr HB2.out hb)
            clear hb
            by_cases ho : OkE l
            · have e0 : zo = 0 := by rw [HZO.out, if_pos ho]
              subst e0
              have E : errF 0 = .nilIface := rfl
              rw [E]
              go_wp2
              go_ret
              exact ⟨by rw [HZ2.out, decide_eq_true ho]; rfl, HB3.out⟩
            · have e0 : zo = 9 := by rw [HZO.out, if_neg ho]
              subst e0
              have E : errF 9 = errnoF 9 := rfl
              rw [E]
              go_wp2
              go_ret
              exact ⟨by rw [HZ2.out, decide_eq_false ho]; rfl, HB3.out⟩
        · have N := no (fun h => hq1 h.2.2.2)
          have g1 : 1023 < q := by omega
          clear no
          rcases hp with rfl | rfl
          · go_wp2
            go_ret
            exact fin N _ HB2.out
          · go_wp2
            go_ret
            exact fin N _ HB2.out
      · have N := no (fun h => hq0 h.2.2.1)
        have g1 : q < 1 := by omega
        clear no
        rcases hp with rfl | rfl
        · go_wp2
          go_ret
          exact fin N _ HB2.out
        · go_wp2
          go_ret
          exact fin N _ HB2.out
    · have N := no (fun h => hp h.2.1)
      have g1 : (p == 6) = false := by simp; omega
      have g2 : (p == 17) = false := by simp; omega
      clear no hp
      go_wp2
      go_ret
      exact fin N _ HB2.out
end Go.Proofs.Ytnhnpfhfcbmmlaa
namespace Go.Proofs.Ytnhnpfhfcbmmlaa
open Go Go.RowKit
set_option linter.unusedVariables false
set_option linter.unusedSimpArgs false

theorem CAt.lit {w : World} {b : Nat} {x : Cm} {v : Value} (h : CAt w b 0 x v) : w.cell? ⟨b, 0, none⟩ = some (.int .i64 x.node) ∧ w.cell? ⟨b, 1, none⟩ = some (.int .i64 x.boot) ∧ w.cell? ⟨b, 2, none⟩ = some (.int .i64 x.seq) ∧ w.cell? ⟨b, 3, none⟩ = some (.int .i64 x.time) ∧ w.cell? ⟨b, 4, none⟩ = some (.int .i64 x.kind) ∧ w.cell? ⟨b, 5, none⟩ = some (.int .u32 x.vip) ∧ w.cell? ⟨b, 6, none⟩ = some (.int .i64 x.proto) ∧ w.cell? ⟨b, 7, none⟩ = some (.int .i64 x.port) ∧ w.cell? ⟨b, 8, none⟩ = some v ∧ w.cell? ⟨b, 9, none⟩ = some (.int .u32 x.dip) ∧ w.cell? ⟨b, 10, none⟩ = some (.int .u32 x.cvip) ∧ w.cell? ⟨b, 11, none⟩ = some (.bool x.up) := by
  have e : ∀ i, 0 + i = i := Nat.zero_add
  have h1 := h.c1; have h2 := h.c2; have h3 := h.c3; have h4 := h.c4; have h5 := h.c5; have h6 := h.c6; have h7 := h.c7; have h8 := h.c8; have h9 := h.c9; have h10 := h.c10; have h11 := h.c11
  rw [e] at h1 h2 h3 h4 h5 h6 h7 h8 h9 h10 h11
  exact ⟨h.c0, h1, h2, h3, h4, h5, h6, h7, h8, h9, h10, h11⟩
theorem says_split {x : Cm} : Says x ↔ (x.kind = 1 ∧ SvcOk x ∧ x.dip = 0 ∧ x.cvip = 0 ∧ x.up = false) ∨ (x.kind = 2 ∧ NoneS x ∧ IsDip x.dip ∧ (x.up = true ∧ IsVp x.cvip ∨ x.up = false ∧ x.cvip = 0)) ∨ (x.kind = 3 ∧ NoneS x ∧ IsDip x.dip ∧ x.cvip = 0) ∨ (x.kind = 4 ∧ NoneS x ∧ IsDip x.dip ∧ x.cvip = 0 ∧ x.up = false) := Iff.rfl
set_option maxRecDepth 100000 in
set_option maxHeartbeats 4000000 in
theorem says_c (x : Cm) (a : Option Addr) (n c : Nat) (w : World) (hI : InE w a n c x.es) (hT : TyC x) (hn : n ≤ 4611686018427387904) :
    Calls Try.prog 64 #[x.val (.slice a n c)] w fun e w' => e = .returned (.bool (decide (Says x))) ∧ Below w.heap.size w w' := by
  obtain ⟨z, hz⟩ : ∃ z, z = decide (Says x) := ⟨_, rfl⟩
  rw [← hz]
  obtain ⟨bd, hbd⟩ : ∃ bd, bd = decide (IsDip x.dip) := ⟨_, rfl⟩
  obtain ⟨ns, hns⟩ : ∃ ns, ns = decide (NoneS x) := ⟨_, rfl⟩
  obtain ⟨bs, hbs⟩ : ∃ bs, bs = decide (SvcOk x) := ⟨_, rfl⟩
  obtain ⟨bv, hbv⟩ : ∃ bv, bv = decide (IsVp x.cvip) := ⟨_, rfl⟩
  have CD := Lib.hid (fun W => home_any x.dip hT.dip W)
  rw [← hbd] at CD
  have CN := Lib.hid (fun (W : World) (hb : Below w.heap.size w W) => sameS_c x.vip x.proto x.port 0 0 0 x.es [] a none n c 0 0 W (hI.below hb) (inE_nil W) hn ns (by rw [hns, decide_eq_true_iff]; rfl))
  have CS := Lib.hid (fun (W : World) (hb : Below w.heap.size w W) => service_c x.vip x.proto x.port x.es a n c W (hI.below hb) hT.vip hn)
  have CV := Lib.hid (fun W => vip_c x.cvip hT.cvip W)
  rw [← hbv] at CV
  have eS : decide (IsVp x.vip ∧ (x.proto = 6 ∨ x.proto = 17) ∧ (1 ≤ x.port ∧ x.port ≤ 1023) ∧ OkE x.es) = bs := by rw [hbs]; rfl
  rw [eS] at CS
  have HZ := Lib.hid hz
  have HD : Hid (bd = true ↔ IsDip x.dip) := Lib.hid (by rw [hbd]; exact decide_eq_true_iff)
  have HN : Hid (ns = true ↔ NoneS x) := Lib.hid (by rw [hns]; exact decide_eq_true_iff)
  have HS : Hid (bs = true ↔ SvcOk x) := Lib.hid (by rw [hbs]; exact decide_eq_true_iff)
  have HV : Hid (bv = true ↔ IsVp x.cvip) := Lib.hid (by rw [hbv]; exact decide_eq_true_iff)
  obtain ⟨W, hW⟩ : ∃ W, W = w.alloc (x.obj (.slice a n c)) := ⟨_, rfl⟩
  have hA := cAt_new w x (.slice a n c)
  rw [← hW] at hA
  have HBW : Hid (Below w.heap.size w W) := Lib.hid (by rw [hW]; exact bl_al (Below.refl _ _) _)
  obtain ⟨q, hq⟩ : ∃ q, q = w.heap.size := ⟨_, rfl⟩
  rw [← hq] at hA
  have HW := Lib.hid (And.intro hW hq)
  have HA := Lib.hid hA
  have FN : ∀ (w' : World), ¬ Says x → Below w.heap.size w w' → (Ending.returned (.bool false) = Ending.returned (.bool z) ∧ Below w.heap.size w w') := fun w' h hb => ⟨by rw [HZ.out, decide_eq_false h], hb⟩
  have FY : ∀ (w' : World), Says x → Below w.heap.size w w' → (Ending.returned (.bool true) = Ending.returned (.bool z) ∧ Below w.heap.size w w') := fun w' h hb => ⟨by rw [HZ.out, decide_eq_true h], hb⟩
  have FN := Lib.hid FN
  have FY := Lib.hid FY
  obtain ⟨k0, k1, k2, k3, k4, k5, k6, k7, k8, k9, k10, k11⟩ := hA.lit
  clear hA hW hq hbd hns hbs hbv hz hI eS
  go_enter Try.func64, Try.ntmps64
  go_upto_region 1 with fail
  rw [show w.alloc (.cells #[.int .i64 x.node, .int .i64 x.boot, .int .i64 x.seq, .int .i64 x.time, .int .i64 x.kind, .int .u32 x.vip, .int .i64 x.proto, .int .i64 x.port, .slice a n c, .int .u32 x.dip, .int .u32 x.cvip, .bool x.up] tyC) = W from HW.out.1.symm, ← HW.out.2]
  go_wp2_with fail
  refine (CD.out _).mono ?_
  rintro e w1 ⟨⟨h0, v0, rfl⟩, hb⟩
  have HB1 := Lib.hid (bl_tr HBW.out hb)
  have HA1 := Lib.hid (HA.out.below hb)
  clear hb k0 k1 k2 k3 k4 k5 k6 k7 k8 k9 k10 k11
  obtain ⟨k0, k1, k2, k3, k4, k5, k6, k7, k8, k9, k10, k11⟩ := HA1.out.lit
  go_wp2_with fail
  refine (CN.out w1 HB1.out).mono ?_
  rintro e w2 ⟨rfl, hb⟩
  have HB2 := Lib.hid (bl_tr HB1.out hb)
  have HA2 := Lib.hid (HA1.out.below hb)
  clear hb k0 k1 k2 k3 k4 k5 k6 k7 k8 k9 k10 k11
  obtain ⟨k0, k1, k2, k3, k4, k5, k6, k7, k8, k9, k10, k11⟩ := HA2.out.lit
  clear CD CN HA HA1 HBW
  have HX : Hid (x.kind = 1 ∨ x.kind = 2 ∨ x.kind = 3 ∨ x.kind = 4 ∨ (x.kind ≠ 1 ∧ x.kind ≠ 2 ∧ x.kind ≠ 3 ∧ x.kind ≠ 4)) := Lib.hid (by omega)
  obtain ⟨kn, hkn⟩ : ∃ kn, kn = x.kind := ⟨_, rfl⟩
  have HKN := Lib.hid hkn
  rw [← hkn] at k4
  rcases HX.out with hk | hk | hk | hk | ⟨hk1, hk2, hk3, hk4⟩
  · have HK := Lib.hid hk
    obtain rfl : kn = 1 := by omega
    clear hk hkn
    go_wp2_with fail
    refine (CS.out w2 HB2.out).mono ?_
    rintro e w3 ⟨rfl, hb⟩
    have HB3 := Lib.hid (bl_tr HB2.out hb)
    have HA3 := Lib.hid (HA2.out.below hb)
    clear hb k0 k1 k2 k3 k4 k5 k6 k7 k8 k9 k10 k11
    obtain ⟨k0, k1, k2, k3, k4, k5, k6, k7, k8, k9, k10, k11⟩ := HA3.out.lit
    clear CS CV
    cases bs with
    | false =>
      have N : Hid (¬ Says x) := Lib.hid (fun h => by have := HK.out; rcases h with h | h | h | h <;> first | (have := HS.out.2 h.2.1; cases this) | (exfalso; omega))
      go_wp2
      go_ret
      exact FN.out _ N.out HB3.out
    | true =>
      by_cases hd : x.dip = 0
      · by_cases hv : x.cvip = 0
        · cases hu : x.up with
          | true =>
            have N : Hid (¬ Says x) := Lib.hid (fun h => by have := HK.out; rcases h with h | h | h | h <;> first | (have := h.2.2.2.2; rw [hu] at this; cases this) | (exfalso; omega))
            rw [hd] at k9
            rw [hv] at k10
            rw [hu] at k11
            clear hd hv hu
            go_wp2
            go_ret
            exact FN.out _ N.out HB3.out
          | false =>
            have N : Hid (Says x) := Lib.hid (.inl ⟨HK.out, HS.out.1 (by simp), hd, hv, hu⟩)
            rw [hd] at k9
            rw [hv] at k10
            rw [hu] at k11
            clear hd hv hu
            go_wp2
            go_ret
            exact FY.out _ N.out HB3.out
        · have N : Hid (¬ Says x) := Lib.hid (fun h => by have := HK.out; rcases h with h | h | h | h <;> first | exact hv h.2.2.2.1 | (exfalso; omega))
          have g : (x.cvip == 0) = false := by simp [hv]
          rw [hd] at k9
          clear hd hv
          go_wp2
          go_ret
          exact FN.out _ N.out HB3.out
      · have N : Hid (¬ Says x) := Lib.hid (fun h => by have := HK.out; rcases h with h | h | h | h <;> first | exact hd h.2.2.1 | (exfalso; omega))
        have g : (x.dip == 0) = false := by simp [hd]
        clear hd
        go_wp2
        go_ret
        exact FN.out _ N.out HB3.out
  · have HK := Lib.hid hk
    obtain rfl : kn = 2 := by omega
    clear hk hkn CS
    cases bd with
    | false =>
      have N : Hid (¬ Says x) := Lib.hid (fun h => by have := HK.out; rcases h with h | h | h | h <;> first | (have := HD.out.2 h.2.2.1; cases this) | (exfalso; omega))
      go_wp2
      go_ret
      exact FN.out _ N.out HB2.out
    | true =>
      cases ns with
      | false =>
        have N : Hid (¬ Says x) := Lib.hid (fun h => by have := HK.out; rcases h with h | h | h | h <;> first | (have := HN.out.2 h.2.1; cases this) | (exfalso; omega))
        go_wp2
        go_ret
        exact FN.out _ N.out HB2.out
      | true =>
        cases hu : x.up with
        | true =>
          rw [hu] at k11
          go_wp2_with fail
          refine (CV.out w2).mono ?_
          rintro e w3 ⟨rfl, hb⟩
          have HB3 := Lib.hid (bl_tr HB2.out hb)
          have HA3 := Lib.hid (HA2.out.below hb)
          have HU := Lib.hid hu
          clear hb k0 k1 k2 k3 k4 k5 k6 k7 k8 k9 k10 k11 hu
          obtain ⟨k0, k1, k2, k3, k4, k5, k6, k7, k8, k9, k10, k11⟩ := HA3.out.lit
          rw [HU.out] at k11
          cases bv with
          | true =>
            have N : Hid (Says x) := Lib.hid (.inr (.inl ⟨HK.out, HN.out.1 (by simp), HD.out.1 (by simp), .inl ⟨HU.out, HV.out.1 (by simp)⟩⟩))
            go_wp2
            go_ret
            exact FY.out _ N.out HB3.out
          | false =>
            have N : Hid (¬ Says x) := Lib.hid (fun h => by
              have hK := HK.out
              have hU := HU.out
              rcases h with h | h | h | h
              · exfalso; omega
              · rcases h.2.2.2 with h2 | h2
                · have := HV.out.2 h2.2; cases this
                · rw [hU] at h2; cases h2.1
              · exfalso; omega
              · exfalso; omega)
            go_wp2
            go_ret
            exact FN.out _ N.out HB3.out
        | false =>
          have HU := Lib.hid hu
          rw [hu] at k11
          by_cases hv : x.cvip = 0
          · have N : Hid (Says x) := Lib.hid (.inr (.inl ⟨HK.out, HN.out.1 (by simp), HD.out.1 (by simp), .inr ⟨hu, hv⟩⟩))
            rw [hv] at k10
            clear hv hu
            go_wp2
            go_ret
            exact FY.out _ N.out HB2.out
          · have N : Hid (¬ Says x) := Lib.hid (fun h => by
              have hK := HK.out
              have hU := HU.out
              rcases h with h | h | h | h
              · exfalso; omega
              · rcases h.2.2.2 with h2 | h2
                · rw [hU] at h2; cases h2.1
                · exact hv h2.2
              · exfalso; omega
              · exfalso; omega)
            have g : (x.cvip == 0) = false := by simp [hv]
            clear hv hu
            go_wp2
            go_ret
            exact FN.out _ N.out HB2.out
  · have HK := Lib.hid hk
    obtain rfl : kn = 3 := by omega
    clear hk hkn CS
    cases bd with
    | false =>
      have N : Hid (¬ Says x) := Lib.hid (fun h => by have := HK.out; rcases h with h | h | h | h <;> first | (have := HD.out.2 h.2.2.1; cases this) | (exfalso; omega))
      go_wp2
      go_ret
      exact FN.out _ N.out HB2.out
    | true =>
      cases ns with
      | false =>
        have N : Hid (¬ Says x) := Lib.hid (fun h => by have := HK.out; rcases h with h | h | h | h <;> first | (have := HN.out.2 h.2.1; cases this) | (exfalso; omega))
        go_wp2
        go_ret
        exact FN.out _ N.out HB2.out
      | true =>
        clear CV
        by_cases hv : x.cvip = 0
        · have N : Hid (Says x) := Lib.hid (.inr (.inr (.inl ⟨HK.out, HN.out.1 (by simp), HD.out.1 (by simp), hv⟩)))
          rw [hv] at k10
          clear hv
          go_wp2
          go_ret
          exact FY.out _ N.out HB2.out
        · have N : Hid (¬ Says x) := Lib.hid (fun h => by have := HK.out; rcases h with h | h | h | h <;> first | exact hv h.2.2.2 | exact hv h.2.2.2.1 | (exfalso; omega))
          have g : (x.cvip == 0) = false := by simp [hv]
          clear hv
          go_wp2
          go_ret
          exact FN.out _ N.out HB2.out
  · have HK := Lib.hid hk
    obtain rfl : kn = 4 := by omega
    clear hk hkn CS
    cases bd with
    | false =>
      have N : Hid (¬ Says x) := Lib.hid (fun h => by have := HK.out; rcases h with h | h | h | h <;> first | (have := HD.out.2 h.2.2.1; cases this) | (exfalso; omega))
      go_wp2
      go_ret
      exact FN.out _ N.out HB2.out
    | true =>
      cases ns with
      | false =>
        have N : Hid (¬ Says x) := Lib.hid (fun h => by have := HK.out; rcases h with h | h | h | h <;> first | (have := HN.out.2 h.2.1; cases this) | (exfalso; omega))
        go_wp2
        go_ret
        exact FN.out _ N.out HB2.out
      | true =>
        clear CV
        by_cases hv : x.cvip = 0
        · cases hu : x.up with
          | false =>
            have N : Hid (Says x) := Lib.hid (.inr (.inr (.inr ⟨HK.out, HN.out.1 (by simp), HD.out.1 (by simp), hv, hu⟩)))
            rw [hv] at k10
            rw [hu] at k11
            clear hv hu
            go_wp2
            go_ret
            exact FY.out _ N.out HB2.out
          | true =>
            have N : Hid (¬ Says x) := Lib.hid (fun h => by have := HK.out; rcases h with h | h | h | h <;> first | (exfalso; omega) | (have h2 := h.2.2.2.2; rw [hu] at h2; cases h2))
            rw [hv] at k10
            rw [hu] at k11
            clear hv hu
            go_wp2
            go_ret
            exact FN.out _ N.out HB2.out
        · have N : Hid (¬ Says x) := Lib.hid (fun h => by have := HK.out; rcases h with h | h | h | h <;> first | exact hv h.2.2.2.1 | (exfalso; omega))
          have g : (x.cvip == 0) = false := by simp [hv]
          clear hv
          go_wp2
          go_ret
          exact FN.out _ N.out HB2.out
  · have N : Hid (¬ Says x) := Lib.hid (fun h => by rcases h with h | h | h | h <;> (exfalso; omega))
    have g1 : (kn == 1) = false := by simp; omega
    have g2 : (kn == 2) = false := by simp; omega
    have g3 : (kn == 3) = false := by simp; omega
    have g4 : (kn == 4) = false := by simp; omega
    clear hk1 hk2 hk3 hk4 hkn HX CS CV
    go_wp2
    go_ret
    exact FN.out _ N.out HB2.out
set_option maxRecDepth 100000 in
set_option maxHeartbeats 4000000 in
theorem check_c (x : Cm) (a : Option Addr) (n c : Nat) (w : World) (hI : InE w a n c x.es) (hT : TyC x) (hn : n ≤ 4611686018427387904) :
    Calls Try.prog 22 #[x.val (.slice a n c)] w fun e w' => e = .returned (errF (if GoodC x then 0 else 9)) ∧ Below w.heap.size w w' := by
  obtain ⟨z, hz⟩ : ∃ z : Int, z = if GoodC x then 0 else 9 := ⟨_, rfl⟩
  rw [← hz]
  obtain ⟨b0, hb0⟩ : ∃ b, b = decide (IsMgr x.node) := ⟨_, rfl⟩
  obtain ⟨b1, hb1⟩ : ∃ b, b = decide (IsTm x.boot) := ⟨_, rfl⟩
  obtain ⟨b2, hb2⟩ : ∃ b, b = decide (IsTm x.seq) := ⟨_, rfl⟩
  obtain ⟨b3, hb3⟩ : ∃ b, b = decide (IsTm x.time) := ⟨_, rfl⟩
  obtain ⟨b4, hb4⟩ : ∃ b, b = decide (Says x) := ⟨_, rfl⟩
  have C0 := Lib.hid (fun W => mgr_c x.node hT.node W)
  have C1 := Lib.hid (fun W => time_c x.boot W)
  have C2 := Lib.hid (fun W => time_c x.seq W)
  have C3 := Lib.hid (fun W => time_c x.time W)
  have C4 := Lib.hid (fun (W : World) (hb : Below w.heap.size w W) => says_c x a n c W (hI.below hb) hT hn)
  rw [← hb0] at C0
  rw [← hb1] at C1
  rw [← hb2] at C2
  rw [← hb3] at C3
  rw [← hb4] at C4
  have HZ := Lib.hid hz
  have HG : Hid (GoodC x ↔ (b0 = true ∧ b1 = true ∧ b2 = true ∧ b3 = true ∧ b4 = true)) := Lib.hid (by
    rw [hb0, hb1, hb2, hb3, hb4]
    simp only [decide_eq_true_iff]
    rfl)
  obtain ⟨W, hW⟩ : ∃ W, W = w.alloc (x.obj (.slice a n c)) := ⟨_, rfl⟩
  have hA := cAt_new w x (.slice a n c)
  rw [← hW] at hA
  have HBW : Hid (Below w.heap.size w W) := Lib.hid (by rw [hW]; exact bl_al (Below.refl _ _) _)
  obtain ⟨q, hq⟩ : ∃ q, q = w.heap.size := ⟨_, rfl⟩
  rw [← hq] at hA
  have HW := Lib.hid (And.intro hW hq)
  have FN : ∀ (w' : World), ¬ (b0 = true ∧ b1 = true ∧ b2 = true ∧ b3 = true ∧ b4 = true) → Below w.heap.size w w' → (Ending.returned (errnoF 9) = Ending.returned (errF z) ∧ Below w.heap.size w w') := fun w' h hb => ⟨by rw [HZ.out, if_neg (fun g => h (HG.out.1 g))]; rfl, hb⟩
  have FN := Lib.hid FN
  obtain ⟨k0, k1, k2, k3, k4, k5, k6, k7, k8, k9, k10, k11⟩ := hA.lit
  clear hA hW hq hb0 hb1 hb2 hb3 hb4 hz hI
  go_enter Try.func22, Try.ntmps22
  go_upto_region 1 with fail
  rw [show w.alloc (.cells #[.int .i64 x.node, .int .i64 x.boot, .int .i64 x.seq, .int .i64 x.time, .int .i64 x.kind, .int .u32 x.vip, .int .i64 x.proto, .int .i64 x.port, .slice a n c, .int .u32 x.dip, .int .u32 x.cvip, .bool x.up] tyC) = W from HW.out.1.symm, ← HW.out.2]
  go_wp2_with fail
  refine (C0.out _).mono ?_
  rintro e w1 ⟨rfl, rfl⟩
  cases b0 with
  | false =>
    have N := Lib.hid (show ¬ (false = true ∧ b1 = true ∧ b2 = true ∧ b3 = true ∧ b4 = true) from fun h => by cases h.1)
    go_wp2
    go_ret
    exact FN.out _ N.out HBW.out
  | true =>
    go_wp2_with fail
    refine (C1.out _).mono ?_
    rintro e w1 ⟨rfl, rfl⟩
    cases b1 with
    | false =>
      have N := Lib.hid (show ¬ (true = true ∧ false = true ∧ b2 = true ∧ b3 = true ∧ b4 = true) from fun h => by cases h.2.1)
      go_wp2
      go_ret
      exact FN.out _ N.out HBW.out
    | true =>
      go_wp2_with fail
      refine (C2.out _).mono ?_
      rintro e w1 ⟨rfl, rfl⟩
      cases b2 with
      | false =>
        have N := Lib.hid (show ¬ (true = true ∧ true = true ∧ false = true ∧ b3 = true ∧ b4 = true) from fun h => by cases h.2.2.1)
        go_wp2
        go_ret
        exact FN.out _ N.out HBW.out
      | true =>
        go_wp2_with fail
        refine (C3.out _).mono ?_
        rintro e w1 ⟨rfl, rfl⟩
        cases b3 with
        | false =>
          have N := Lib.hid (show ¬ (true = true ∧ true = true ∧ true = true ∧ false = true ∧ b4 = true) from fun h => by cases h.2.2.2.1)
          go_wp2
          go_ret
          exact FN.out _ N.out HBW.out
        | true =>
          go_wp2_with fail
          refine (C4.out W HBW.out).mono ?_
          rintro e w2 ⟨rfl, hb⟩
          have HB2 := Lib.hid (bl_tr HBW.out hb)
          clear hb
          cases b4 with
          | false =>
            have N := Lib.hid (show ¬ (true = true ∧ true = true ∧ true = true ∧ true = true ∧ false = true) from fun h => by cases h.2.2.2.2)
            go_wp2
            go_ret
            exact FN.out _ N.out HB2.out
          | true =>
            go_wp2
            go_ret
            exact ⟨by rw [HZ.out, if_pos (HG.out.2 (by simp))]; rfl, HB2.out⟩
end Go.Proofs.Ytnhnpfhfcbmmlaa
