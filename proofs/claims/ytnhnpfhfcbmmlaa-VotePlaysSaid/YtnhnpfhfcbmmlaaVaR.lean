/- The program's Check of ends, and the document's. Condition: the row came in. -/
import Derived.Test.YtnhnpfhfcbmmlaaVaA
import Derived.LoopTactic
import Derived.Deep.LoopGhost
import Derived.Shelf.Abstract
import Derived.Deep.CutRange
namespace Go.Proofs.Ytnhnpfhfcbmmlaa
open Go Go.RowKit
set_option linter.unusedVariables false
set_option linter.unusedSimpArgs false


def En.obj (e : En) : Obj := .cells #[.int .u32 e.dip, .int .i64 e.port, .int .i64 e.wt] tyE
theorem enAt_new (w : World) (e : En) : (w.alloc e.obj).cell? ⟨w.heap.size, 0, none⟩ = some (.int .u32 e.dip) ∧ (w.alloc e.obj).cell? ⟨w.heap.size, 1, none⟩ = some (.int .i64 e.port) ∧ (w.alloc e.obj).cell? ⟨w.heap.size, 2, none⟩ = some (.int .i64 e.wt) := by
  simp [En.obj, go_sem]
set_option maxRecDepth 100000 in
theorem isEnd_c (e : En) (w : World) (ht : TyEn e) (z : Bool) (hz : z = true ↔ GoodE e) :
    Calls Try.prog 135 #[e.val] w fun r w' => r = .returned (.bool z) ∧ Below w.heap.size w w' := by
  obtain ⟨W, hW⟩ : ∃ W, W = w.alloc e.obj := ⟨_, rfl⟩
  have hA := enAt_new w e
  rw [← hW] at hA
  have HBW : Hid (Below w.heap.size w W) := Lib.hid (by rw [hW]; exact bl_al (Below.refl _ _) _)
  have HLW : Hid (w.heap.size < W.heap.size) := Lib.hid (by rw [hW]; simp)
  obtain ⟨q, hq⟩ : ∃ q, q = w.heap.size := ⟨_, rfl⟩
  rw [← hq] at hA HLW
  have HW := Lib.hid (And.intro hW hq)
  obtain ⟨d, p, t⟩ := e
  obtain ⟨c0, c1, c2⟩ := hA
  have HT := Lib.hid ht.1
  have HG := Lib.hid (And.intro hz.1 hz.2)
  clear hW hq ht hz
  have HOK := Lib.hid (fun h => home_ok d h W)
  have HNO := Lib.hid (fun h => home_no d HT.out.1 HT.out.2 h W)
  by_cases qd : IsDip d
  · have CH := Lib.hid (HOK.out qd)
    have HQ := Lib.hid qd
    clear qd HOK HNO
    go_enter Try.func135, Try.ntmps135
    go_upto_region 1 with fail
    rw [show w.alloc (.cells #[.int .u32 d, .int .i64 p, .int .i64 t] tyE) = W from HW.out.1.symm, ← HW.out.2]
    go_wp2_with fail
    refine CH.out.mono ?_
    rintro r w1 ⟨rfl, hb⟩
    have HB := Lib.hid (HBW.out.trans (hb.mono HBW.out.size))
    have d1 := (hb.cell (p := ⟨q, 1, none⟩) (block_lt_of_cell c1)).trans c1
    have d2 := (hb.cell (p := ⟨q, 2, none⟩) (block_lt_of_cell c2)).trans c2
    clear hb CH c0 c1 c2
    by_cases q1 : p < 0
    · have HZ : Hid (z = false) := Lib.hid (Bool.eq_false_iff.2 (fun h => by have := (HG.out.1 h).2.1; simp only at this; omega))
      go_wp2
      go_ret
      exact ⟨by rw [HZ.out]; rfl, HB.out⟩
    by_cases q2 : 65535 < p
    · have HZ : Hid (z = false) := Lib.hid (Bool.eq_false_iff.2 (fun h => by have := (HG.out.1 h).2.1; simp only at this; omega))
      go_wp2
      go_ret
      exact ⟨by rw [HZ.out]; rfl, HB.out⟩
    by_cases q3 : t < 1
    · have HZ : Hid (z = false) := Lib.hid (Bool.eq_false_iff.2 (fun h => by have := (HG.out.1 h).2.2; simp only at this; omega))
      go_wp2
      go_ret
      exact ⟨by rw [HZ.out]; rfl, HB.out⟩
    by_cases q4 : 16 < t
    · have HZ : Hid (z = false) := Lib.hid (Bool.eq_false_iff.2 (fun h => by have := (HG.out.1 h).2.2; simp only at this; omega))
      go_wp2
      go_ret
      exact ⟨by rw [HZ.out, show decide (t ≤ 16) = false from decide_eq_false (by omega)]; rfl, HB.out⟩
    have HZ : Hid (z = true) := Lib.hid (HG.out.2 ⟨HQ.out, ⟨by simp only; omega, by simp only; omega⟩, by simp only; omega, by simp only; omega⟩)
    go_wp2
    go_ret
    exact ⟨by rw [HZ.out]; rfl, HB.out⟩
  · have CH := Lib.hid (HNO.out qd)
    have HZ : Hid (z = false) := Lib.hid (Bool.eq_false_iff.2 (fun h => qd (HG.out.1 h).1))
    clear qd HOK HNO
    go_enter Try.func135, Try.ntmps135
    go_upto_region 1 with fail
    rw [show w.alloc (.cells #[.int .u32 d, .int .i64 p, .int .i64 t] tyE) = W from HW.out.1.symm, ← HW.out.2]
    go_wp2_with fail
    refine CH.out.mono ?_
    rintro r w1 ⟨rfl, hb⟩
    have HB := Lib.hid (HBW.out.trans (hb.mono HBW.out.size))
    clear hb CH c0 c1 c2
    go_wp2
    go_ret
    exact ⟨by rw [HZ.out]; rfl, HB.out⟩
/-- The closure of Check: an end with this one's machine. -/
theorem twin_c (e : En) (d : Int) (g : Nat) (w : World) (hc : w.cell? ⟨g, 0, none⟩ = some (.int .u32 d)) :
    Calls Try.prog 134 #[e.val, .pointer (some ⟨g, 0, none⟩)] w fun r w' => r = .returned (.bool (e.dip == d)) ∧ Below w.heap.size w w' := by
  have hl := block_lt_of_cell hc
  have hA := (enAt_new w e).1
  have hc2 : (w.alloc e.obj).cell? ⟨g, 0, none⟩ = some (.int .u32 d) := ((bl_al (Below.refl _ _) _).cell (p := ⟨g, 0, none⟩) hl).trans hc
  obtain ⟨W, hW⟩ : ∃ W, W = w.alloc e.obj := ⟨_, rfl⟩
  have HBW : Hid (Below w.heap.size w W) := Lib.hid (by rw [hW]; exact bl_al (Below.refl _ _) _)
  rw [← hW] at hA hc2
  obtain ⟨q, hq⟩ : ∃ q, q = w.heap.size := ⟨_, rfl⟩
  rw [← hq] at hA
  have HW := Lib.hid (And.intro hW hq)
  obtain ⟨x, p, t⟩ := e
  clear hW hq hc hl
  go_enter Try.func134, Try.ntmps134
  go_upto_region 1 with fail
  rw [show w.alloc (.cells #[.int .u32 x, .int .i64 p, .int .i64 t] tyE) = W from HW.out.1.symm, ← HW.out.2]
  go_wp2
  go_ret
  exact ⟨rfl, HBW.out⟩
/-- What a function value answers, from a world on. -/
def PredE (g : Nat) (cb : Array Value) (p : En → Bool) (l : List En) (w : World) : Prop :=
  ∀ (W : World), Below w.heap.size w W → ∀ x, TyEn x → Calls Try.prog g (#[x.val] ++ cb) W fun e w' => e = .returned (.bool (p x)) ∧ Below W.heap.size W w'
theorem PredE.later {g : Nat} {cb : Array Value} {p : En → Bool} {l : List En} {w W : World} (h : PredE g cb p l w) (hb : Below w.heap.size w W) : PredE g cb p l W := fun W2 h2 x hx => h W2 (bl_tr hb h2) x hx
/-- The place of the first lease of which it holds. -/
def IdxE (p : En → Bool) (l : List En) (k : Int) : Prop := (k = -1 ∧ l.find? p = none) ∨ ∃ i : Nat, k = i ∧ i < l.length ∧ p (l.getD i en0) = true ∧ l.find? p = some (l.getD i en0)
theorem findE_hit {p : En → Bool} {l : List En} {i : Nat} (hi : i < l.length) (h : (l.take i).find? p = none) (e : p (l.getD i en0) = true) : l.find? p = some (l.getD i en0) := by
  have h1 : l = l.take i ++ l.getD i en0 :: l.drop (i + 1) := by
    conv => lhs; rw [← List.take_append_drop i l]
    rw [List.drop_eq_getElem_cons hi, List.getD_eq_getElem?_getD, List.getElem?_eq_getElem hi]
    rfl
  generalize l.getD i en0 = x at h1 e ⊢
  rw [h1, List.find?_append, h, Option.none_or, List.find?_cons_of_pos e]
theorem findE_miss {p : En → Bool} {l : List En} {i : Nat} (hi : i < l.length) (h : (l.take i).find? p = none) (e : p (l.getD i en0) = false) : (l.take (i + 1)).find? p = none := by
  rw [take_moreE l hi, List.find?_append, h, Option.none_or, List.find?_cons_of_neg (by rw [e]; exact Bool.false_ne_true)]
  rfl
set_option maxRecDepth 100000 in
set_option maxHeartbeats 2000000 in
theorem indexE_c (p : En → Bool) (g : Nat) (cb : Array Value) (eg : ∀ args w, (callFunc g args).run Try.prog w = .ok (.enter g args) w) (l : List En) (a : Option Addr) (n c : Nat) (w : World) (hI : InE w a n c l) (hn : n ≤ 1048576) (hp : PredE g cb p l w) :
    Calls Try.prog 137 #[.slice a n c, .func (.func g) #[] cb] w fun e w' => (∃ k : Int, e = .returned (.int .i64 k) ∧ IdxE p l k) ∧ Below w.heap.size w w' := by
  have hlen := hI.len
  have HI := Lib.hid hI
  have HP := Lib.hid hp
  have F0 : Hid ((l.take 0).find? p = none) := Lib.hid rfl
  have HN : Hid (l.take n = l) := Lib.hid (List.take_of_length_le (by omega))
  clear hI hp
  go_enter Try.func137, Try.ntmps137
  go_wp2
  go_loopg [5, 8] n (fun gg _ s8 wr => ∃ i : Nat, i ≤ n ∧ n - i ≤ gg ∧ s8 = .int .i64 i ∧ Hid ((l.take i).find? p = none) ∧ Hid (Below w.heap.size w wr))
  case atStart => exact ⟨0, by omega, by omega, rfl, F0, Lib.hid (Below.refl _ _)⟩
  case round =>
    obtain ⟨i, hi, hgg, rfl, HF, HB⟩ := hrel
    obtain ⟨w2, rfl⟩ : ∃ v, v = wr := ⟨_, rfl⟩
    clear F0
    by_cases hlt : i < n
    · have ii : (i : Int) < (n : Int) := by omega
      have i0 : (0 : Int) ≤ (i : Int) := by omega
      obtain ⟨b, off, rfl⟩ := HI.out.block (by omega)
      have hx := (HI.out.below HB.out).cell hlt
      have ht := HI.out.typ _ (memE (es := l) (i := i) (by omega))
      have HH := Lib.hid (fun e => findE_hit (p := p) (l := l) (i := i) (by omega) HF.out e)
      have HM := Lib.hid (fun e => findE_miss (p := p) (l := l) (i := i) (by omega) HF.out e)
      obtain ⟨x, ex⟩ : ∃ x, x = l.getD i en0 := ⟨_, rfl⟩
      rw [← ex] at hx ht HH HM
      have HX := Lib.hid ex
      have hc := HP.out w2 HB.out x ht
      obtain ⟨c0, c1, c2⟩ := hx
      clear ex ht
      cases hq : p x with
      | true =>
        rw [hq] at hc
        have HR : Hid (IdxE p l i) := Lib.hid (.inr ⟨i, rfl, by omega, by rw [← HX.out]; exact hq, by rw [← HX.out]; exact HH.out hq⟩)
        clear hq HH HM
        go_wp2_with fail
        refine hc.mono ?_
        rintro e w' ⟨rfl, hb'⟩
        have HB2 := Lib.hid (bl_tr HB.out hb')
        clear hb' hc
        go_wp2
        go_ret
        exact ⟨⟨i, rfl, HR.out⟩, HB2.out⟩
      | false =>
        rw [hq] at hc
        have HF2 := Lib.hid (HM.out hq)
        clear hq HH HM
        go_wp2_with fail
        refine hc.mono ?_
        rintro e w' ⟨rfl, hb'⟩
        have HB2 := Lib.hid (bl_tr HB.out hb')
        clear hb' hc
        go_wp2
        go_roundg (n - (i + 1))
        case measure => omega
        case rel => exact ⟨i + 1, by omega, by omega, by go_num, HF2, HB2⟩
    · have ii : ¬ (i : Int) < (n : Int) := by omega
      obtain rfl : i = n := by omega
      go_wp2
      go_ret
      exact ⟨⟨-1, rfl, .inl ⟨rfl, by have := HF.out; rwa [HN.out] at this⟩⟩, HB.out⟩
theorem containsE_c (p : En → Bool) (g : Nat) (cb : Array Value) (eg : ∀ args w, (callFunc g args).run Try.prog w = .ok (.enter g args) w) (l : List En) (a : Option Addr) (n c : Nat) (w : World) (hI : InE w a n c l) (hn : n ≤ 1048576) (hp : PredE g cb p l w) :
    Calls Try.prog 136 #[.slice a n c, .func (.func g) #[] cb] w fun e w' => e = .returned (.bool (l.any p)) ∧ Below w.heap.size w w' := by
  have C := Lib.hid (indexE_c p g cb eg l a n c w hI hn hp)
  clear hI hp
  go_enter Try.func136, Try.ntmps136
  go_wp2_with fail
  refine C.out.mono ?_
  rintro e w1 ⟨⟨k, rfl, hk⟩, hb⟩
  have HB := Lib.hid hb
  clear hb C
  rcases hk with ⟨rfl, h2⟩ | ⟨i, rfl, h1, h2, h3⟩
  · have HE : Hid (l.any p = false) := Lib.hid (by
      rw [List.find?_eq_none] at h2
      exact List.any_eq_false.2 h2)
    clear h2
    go_wp2
    go_ret
    exact ⟨by rw [HE.out]; rfl, HB.out⟩
  · have HE : Hid (l.any p = true) := Lib.hid (List.any_eq_true.2 ⟨_, memE h1, h2⟩)
    have i0 : (0 : Int) ≤ (i : Int) := by omega
    clear h1 h2 h3
    go_wp2
    go_ret
    exact ⟨by rw [HE.out]; simp, HB.out⟩

theorem twins_c (es : List En) (k : Nat) (d : Int) (g b off n c c' : Nat) (w : World) (hI : InE w (some ⟨b, off, none⟩) n c es) (hn : n ≤ 1048576) (hk : k ≤ n) (h0 : 0 < n) (hc : w.cell? ⟨g, 0, none⟩ = some (.int .u32 d)) (hcc : k ≤ c') :
    Calls Try.prog 136 #[.slice (some ⟨b, off, none⟩) k c', .func (.func 134) #[] #[.pointer (some ⟨g, 0, none⟩)]] w fun r w' => r = .returned (.bool ((es.take k).any (fun e => e.dip == d))) ∧ Below w.heap.size w w' := by
  have eg : ∀ args w, (callFunc 134 args).run Try.prog w = .ok (.enter 134 args) w := enters_of Try.func134 (by kernel_rfl) rfl
  have hg := block_lt_of_cell hc
  have h2 := hI.take k hk
  have h3 : InE w (some ⟨b, off, none⟩) k c' (es.take k) := ⟨h2.len, hcc, (fun e => by cases e), h2.here, h2.typ⟩
  refine containsE_c (fun e => e.dip == d) 134 #[.pointer (some ⟨g, 0, none⟩)] eg (es.take k) (some ⟨b, off, none⟩) k c' w h3 (by omega) (fun W hb x hx => ?_)
  have hcW : W.cell? ⟨g, 0, none⟩ = some (.int .u32 d) := (hb.cell (p := ⟨g, 0, none⟩) hg).trans hc
  exact twin_c x d g W hcW
def CkE (es : List En) (z : Int) : Prop := (OkE es → z = 0) ∧ (¬ OkE es → z = 9)
/-- What Check has seen. -/
theorem any_dip {es : List En} {k : Nat} {d : Int} : (es.take k).any (fun e => e.dip == d) = true ↔ d ∈ (es.take k).map (·.dip) := by
  rw [List.any_eq_true, List.mem_map]
  constructor
  · rintro ⟨e, he, h⟩
    exact ⟨e, he, by simpa using h⟩
  · rintro ⟨e, he, h⟩
    exact ⟨e, he, by simpa using h⟩
set_option maxRecDepth 100000 in
set_option maxHeartbeats 4000000 in
theorem rcheck_c (es : List En) (a : Option Addr) (n c : Nat) (w : World) (hI : InE w a n c es) (hn : n ≤ 4611686018427387904) (z : Int) (hz : CkE es z) :
    Calls Try.prog 125 #[.slice a n c] w fun e w' => e = .returned (errF z) ∧ Below w.heap.size w w' := by
  have hlen := hI.len
  have HI := Lib.hid hI
  have HZ := Lib.hid hz
  have hroom := hI.room
  by_cases hl : 64 < n
  · have HE : Hid (z = 9) := Lib.hid (hz.2 (fun h => by have := h.1; omega))
    have il : (64 : Int) < (n : Int) := by omega
    clear hI hz
    go_enter Try.func125, Try.ntmps125
    go_wp2
    go_ret
    exact ⟨by rw [HE.out]; rfl, Below.refl _ _⟩
  · have il : ¬ (64 : Int) < (n : Int) := by omega
    have L0 : Hid (PreE es 0) := Lib.hid ⟨fun e he => by simp at he, by simp⟩
    have HB0 := Lib.hid (Below.refl w.heap.size w)
    clear hI hz
    go_enter Try.func125, Try.ntmps125
    go_wp2
    go_loopw [12] (fun iv wr => ∃ i : Nat, i ≤ n ∧ iv = .int .i64 i ∧ Hid (PreE es i) ∧ Hid (Below w.heap.size w wr)) (fun iv _ => n - (intOf iv).toNat)
    case atStart => exact ⟨0, by omega, rfl, L0, HB0⟩
    case round =>
      obtain ⟨i, hi, rfl, HP, HB⟩ := hrel
      obtain ⟨w2, rfl⟩ : ∃ v, v = wr := ⟨_, rfl⟩
      clear L0 HB0
      by_cases hlt : i < n
      · have hI2 := HI.out.below HB.out
        obtain ⟨b1, o1, rfl⟩ := HI.out.block (by omega)
        have ii : (i : Int) < (n : Int) := by omega
        have i0 : (0 : Int) ≤ (i : Int) := by omega
        have ic : (i : Int) ≤ (c : Int) := by omega
        obtain ⟨c0, c1, c2⟩ := hI2.cell hlt
        have ht := HI.out.typ _ (memE (es := es) (i := i) (by omega))
        obtain ⟨w3, hw3⟩ : ∃ w3, w3 = w2.alloc (es.getD i en0).obj := ⟨_, rfl⟩
        have hA := enAt_new w2 (es.getD i en0)
        have hb3 : Below w2.heap.size w2 w3 := by rw [hw3]; exact bl_al (Below.refl _ _) _
        rw [← hw3] at hA
        have HI3 := Lib.hid (hI2.below hb3)
        have HB3 := Lib.hid (bl_tr HB.out hb3)
        have HNo := Lib.hid (fun h : ¬ GoodE (es.getD i en0) => (fun hok : OkE es => h (hok.2.1 _ (memE (by omega))) : ¬ OkE es))
        have HDu := Lib.hid (dup_not (es := es) (i := i) (by omega))
        have HSt := Lib.hid (HP.out.step (by omega))
        obtain ⟨B, hB⟩ : ∃ B, B = w2.heap.size := ⟨_, rfl⟩
        rw [← hB] at hA
        obtain ⟨e, he⟩ : ∃ e, e = es.getD i en0 := ⟨_, rfl⟩
        have CE := Lib.hid (fun zb h => isEnd_c e w3 (he ▸ ht) zb h)
        rw [← he] at c0 c1 c2 hA HNo HDu HSt hw3
        have HA := Lib.hid hA
        have HW3 := Lib.hid (And.intro hw3 hB)
        obtain ⟨d, p, t⟩ := e
        obtain ⟨a0, a1, a2⟩ := hA
        clear hw3 hB he ht hb3 hI2
        by_cases hg : GoodE ⟨d, p, t⟩
        · have CE1 := Lib.hid (CE.out true ⟨fun _ => hg, fun _ => rfl⟩)
          have HG := Lib.hid hg
          obtain ⟨zb, hzb⟩ : ∃ zb, zb = (es.take i).any (fun e => e.dip == d) := ⟨_, rfl⟩
          have CT := Lib.hid (fun (W : World) (hb : Below w3.heap.size w3 W) (c' : Nat) (hcc : i ≤ c') => twins_c es i d B b1 o1 n c c' W (HI3.out.below hb) (by omega) hi (by omega) ((hb.cell (p := ⟨B, 0, none⟩) (block_lt_of_cell HA.out.1)).trans HA.out.1) hcc)
          rw [← hzb] at CT
          have HZB := Lib.hid hzb
          clear hg hzb CE
          go_upto_region 6 with fail
          rw [show w2.alloc (.cells #[.int .u32 d, .int .i64 p, .int .i64 t] tyE) = w3 from HW3.out.1.symm, ← HW3.out.2]
          clear c0 c1 c2
          go_wp2_with fail
          refine CE1.out.mono ?_
          rintro r w4 ⟨rfl, hb4⟩
          have HB4 := Lib.hid hb4
          clear hb4
          go_wp2_with fail
          refine (CT.out w4 HB4.out c (by omega)).mono ?_
          rintro r w5 ⟨rfl, hb5⟩
          have HB5 := Lib.hid (bl_tr HB3.out (bl_tr HB4.out hb5))
          clear hb5 CT
          cases zb with
          | true =>
            have HE : Hid (z = 9) := Lib.hid (HZ.out.2 (HDu.out (any_dip.1 HZB.out.symm)))
            go_wp2
            go_ret
            exact ⟨by rw [HE.out]; rfl, HB5.out⟩
          | false =>
            have HP2 : Hid (PreE es (i + 1)) := Lib.hid (HSt.out HG.out (fun h => by have := HZB.out; rw [any_dip.2 h] at this; simp at this))
            go_wp2
            go_roundw
            case rel => exact ⟨i + 1, by omega, by go_num, HP2, HB5⟩
            case measure => simp [intOf]; omega
        · have CE1 := Lib.hid (CE.out false ⟨fun h => by simp at h, fun h => absurd h hg⟩)
          have HE : Hid (z = 9) := Lib.hid (HZ.out.2 (HNo.out hg))
          clear hg CE
          go_upto_region 6 with fail
          rw [show w2.alloc (.cells #[.int .u32 d, .int .i64 p, .int .i64 t] tyE) = w3 from HW3.out.1.symm, ← HW3.out.2]
          clear c0 c1 c2
          go_wp2_with fail
          refine CE1.out.mono ?_
          rintro r w4 ⟨rfl, hb4⟩
          have HB4 := Lib.hid (bl_tr HB3.out hb4)
          clear hb4
          go_wp2
          go_ret
          exact ⟨by rw [HE.out]; rfl, HB4.out⟩
      · have ii : ¬ (i : Int) < (n : Int) := by omega
        have HE : Hid (z = 0) := Lib.hid (HZ.out.1 ⟨by omega, by have := HP.out.1; rwa [List.take_of_length_le (by omega)] at this, by have := HP.out.2; rwa [List.take_of_length_le (by omega)] at this⟩)
        go_wp2
        go_ret
        exact ⟨by rw [HE.out]; rfl, HB.out⟩
end Go.Proofs.Ytnhnpfhfcbmmlaa
