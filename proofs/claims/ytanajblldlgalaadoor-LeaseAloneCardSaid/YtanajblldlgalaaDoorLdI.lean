/- slices.IndexFunc, ContainsFunc over leases, pick. Conditions: the row came in; the function value answers of each lease and makes new memory alone. -/
import Derived.Test.YtanajblldlgalaaDoorLdB
import Derived.LoopTactic
import Derived.Deep.LoopGhost
import Derived.Shelf.Abstract
namespace Go.Proofs.YtanajblldlgalaaDoor
open Go Go.RowKit
set_option linter.unusedVariables false
set_option linter.unusedSimpArgs false

/-- What a function value answers, from a world on. -/
def PredL (g : Nat) (cb : Array Value) (p : Ls → Bool) (l : List Ls) (w : World) : Prop :=
  ∀ (W : World), Below w.heap.size w W → ∀ x, TyL x → Calls Tryd.prog g (#[x.val] ++ cb) W fun e w' => e = .returned (.bool (p x)) ∧ Below W.heap.size W w'
theorem PredL.later {g : Nat} {cb : Array Value} {p : Ls → Bool} {l : List Ls} {w W : World} (h : PredL g cb p l w) (hb : Below w.heap.size w W) : PredL g cb p l W := fun W2 h2 x hx => h W2 (bl_tr hb h2) x hx
/-- The place of the first lease of which it holds. -/
def IdxL (p : Ls → Bool) (l : List Ls) (k : Int) : Prop := (k = -1 ∧ l.find? p = none) ∨ ∃ i : Nat, k = i ∧ i < l.length ∧ p (l.getD i ls0) = true ∧ l.find? p = some (l.getD i ls0)
theorem findP_hit {p : Ls → Bool} {l : List Ls} {i : Nat} (hi : i < l.length) (h : (l.take i).find? p = none) (e : p (l.getD i ls0) = true) : l.find? p = some (l.getD i ls0) := by
  have h1 : l = l.take i ++ l.getD i ls0 :: l.drop (i + 1) := by
    conv => lhs; rw [← List.take_append_drop i l]
    rw [List.drop_eq_getElem_cons hi, List.getD_eq_getElem?_getD, List.getElem?_eq_getElem hi]
    rfl
  generalize l.getD i ls0 = x at h1 e ⊢
  rw [h1, List.find?_append, h, Option.none_or, List.find?_cons_of_pos e]
theorem findP_miss {p : Ls → Bool} {l : List Ls} {i : Nat} (hi : i < l.length) (h : (l.take i).find? p = none) (e : p (l.getD i ls0) = false) : (l.take (i + 1)).find? p = none := by
  rw [take_moreL l hi, List.find?_append, h, Option.none_or, List.find?_cons_of_neg (by rw [e]; exact Bool.false_ne_true)]
  rfl
set_option maxRecDepth 100000 in
set_option maxHeartbeats 2000000 in
theorem index_c (p : Ls → Bool) (g : Nat) (cb : Array Value) (eg : ∀ args w, (callFunc g args).run Tryd.prog w = .ok (.enter g args) w) (l : List Ls) (a : Option Addr) (n c : Nat) (w : World) (hI : InL w a n c l) (hn : n ≤ 1048576) (hp : PredL g cb p l w) :
    Calls Tryd.prog 44 #[.slice a n c, .func (.func g) #[] cb] w fun e w' => (∃ k : Int, e = .returned (.int .i64 k) ∧ IdxL p l k) ∧ Below w.heap.size w w' := by
  have hlen := hI.len
  have HI := Lib.hid hI
  have HP := Lib.hid hp
  have F0 : Hid ((l.take 0).find? p = none) := Lib.hid rfl
  have HN : Hid (l.take n = l) := Lib.hid (List.take_of_length_le (by omega))
  clear hI hp
  go_enter Tryd.func44, Tryd.ntmps44
  go_wp2
  go_loopg [5, 8] n (fun gg _ s8 wr => ∃ i : Nat, i ≤ n ∧ n - i ≤ gg ∧ s8 = .int .i64 i ∧ Hid ((l.take i).find? p = none) ∧ Hid (Below w.heap.size w wr))
  case atStart => exact ⟨0, by omega, by omega, rfl, F0, Lib.hid (Below.refl _ _)⟩
  case round =>
    obtain ⟨i, hi, hgg, rfl, HF, HB⟩ := hrel
    obtain ⟨w2, rfl⟩ : ∃ v, v = wr := ⟨_, rfl⟩
    clear F0
    by_cases hlt : i < n
    · have ii : (i : Int) < (n : Int) := by omega
      have i0 : (0 : Int) ≤ (i : Int) := by omega
      obtain ⟨b, off, rfl⟩ := HI.out.block (by omega)
      have hx := (HI.out.below HB.out).cell hlt
      have ht := HI.out.ty hlt
      have HH := Lib.hid (fun e => findP_hit (p := p) (l := l) (i := i) (by omega) HF.out e)
      have HM := Lib.hid (fun e => findP_miss (p := p) (l := l) (i := i) (by omega) HF.out e)
      obtain ⟨x, ex⟩ : ∃ x, x = l.getD i ls0 := ⟨_, rfl⟩
      rw [← ex] at hx ht HH HM
      have HX := Lib.hid ex
      have hc := HP.out w2 HB.out x ht
      obtain ⟨c0, c1, c2, c3⟩ := hx
      clear ex ht
      cases hq : p x with
      | true =>
        rw [hq] at hc
        have HR : Hid (IdxL p l i) := Lib.hid (.inr ⟨i, rfl, by omega, by rw [← HX.out]; exact hq, by rw [← HX.out]; exact HH.out hq⟩)
        clear hq HH HM
        go_wp2_with fail
        refine hc.mono ?_
        rintro e w' ⟨rfl, hb'⟩
        have HB2 := Lib.hid (bl_tr HB.out hb')
        clear hb' hc
        go_wp2
        go_ret
        exact ⟨⟨i, rfl, HR.out⟩, HB2.out⟩
      | false =>
        rw [hq] at hc
        have HF2 := Lib.hid (HM.out hq)
        clear hq HH HM
        go_wp2_with fail
        refine hc.mono ?_
        rintro e w' ⟨rfl, hb'⟩
        have HB2 := Lib.hid (bl_tr HB.out hb')
        clear hb' hc
        go_wp2
        go_roundg (n - (i + 1))
        case measure => omega
        case rel => exact ⟨i + 1, by omega, by omega, by go_num, HF2, HB2⟩
    · have ii : ¬ (i : Int) < (n : Int) := by omega
      obtain rfl : i = n := by omega
      go_wp2
      go_ret
      exact ⟨⟨-1, rfl, .inl ⟨rfl, by have := HF.out; rwa [HN.out] at this⟩⟩, HB.out⟩
theorem contains_c (p : Ls → Bool) (g : Nat) (cb : Array Value) (eg : ∀ args w, (callFunc g args).run Tryd.prog w = .ok (.enter g args) w) (l : List Ls) (a : Option Addr) (n c : Nat) (w : World) (hI : InL w a n c l) (hn : n ≤ 1048576) (hp : PredL g cb p l w) :
    Calls Tryd.prog 39 #[.slice a n c, .func (.func g) #[] cb] w fun e w' => e = .returned (.bool (l.any p)) ∧ Below w.heap.size w w' := by
  have C := Lib.hid (index_c p g cb eg l a n c w hI hn hp)
  clear hI hp
  go_enter Tryd.func39, Tryd.ntmps39
  go_wp2_with fail
  refine C.out.mono ?_
  rintro e w1 ⟨⟨k, rfl, hk⟩, hb⟩
  have HB := Lib.hid hb
  clear hb C
  rcases hk with ⟨rfl, h2⟩ | ⟨i, rfl, h1, h2, h3⟩
  · have HE : Hid (l.any p = false) := Lib.hid (by
      rw [List.find?_eq_none] at h2
      exact List.any_eq_false.2 h2)
    clear h2
    go_wp2
    go_ret
    exact ⟨by rw [HE.out]; rfl, HB.out⟩
  · have HE : Hid (l.any p = true) := Lib.hid (List.any_eq_true.2 ⟨_, memL h1, h2⟩)
    have i0 : (0 : Int) ≤ (i : Int) := by omega
    clear h1 h2 h3
    go_wp2
    go_ret
    exact ⟨by rw [HE.out]; simp, HB.out⟩
end Go.Proofs.YtanajblldlgalaaDoor
