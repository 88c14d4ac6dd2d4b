/- Rows of ballots and of bools that came in. No conditions. VoteRises, plain: what a round keeps; what Prepare and Accept say. No program. -/
import Derived.Test.YtnhnpfhfcbmmlaaVhD
import Derived.Test.YtnhnpfhfcbmmlaaVgB
namespace Go.Proofs.Ytnhnpfhfcbmmlaa
open Go Go.RowKit
set_option linter.unusedVariables false
set_option linter.unusedSimpArgs false

/-- A row of bools. -/
structure InBo (w : World) (ao : Option Addr) (n c : Nat) (bs : List Bool) : Prop where
  len : bs.length = n
  room : n ≤ c
  here : n = 0 ∨ ∃ b off, ao = some ⟨b, off, none⟩ ∧ ∀ j, j < n → w.cell? ⟨b, off + j, none⟩ = some (.bool (bs.getD j false))
theorem InBo.below {w w' : World} {ao : Option Addr} {n c : Nat} {bs : List Bool} (h : InBo w ao n c bs) (hb : Below w.heap.size w w') : InBo w' ao n c bs :=
  ⟨h.len, h.room, h.here.imp id (fun ⟨b, off, e, hc⟩ => ⟨b, off, e, fun j hj => cell_later hb (hc j hj)⟩)⟩
theorem InBo.at {w : World} {ao : Option Addr} {n c : Nat} {bs : List Bool} (h : InBo w ao n c bs) (hn : 0 < n) : ∃ b off, ao = some ⟨b, off, none⟩ ∧ ∀ j, j < n → w.cell? ⟨b, off + j, none⟩ = some (.bool (bs.getD j false)) :=
  h.here.resolve_left (by omega)
/-- A row of ballots. -/
structure InBl (w : World) (ao : Option Addr) (n c : Nat) (bs : List Bl) : Prop where
  len : bs.length = n
  room : n ≤ c
  here : n = 0 ∨ ∃ b off, ao = some ⟨b, off, none⟩ ∧ ∀ j, j < n → w.cell? ⟨b, off + j * 2, none⟩ = some (.int .i64 (bs.getD j bl0).n) ∧ w.cell? ⟨b, off + j * 2 + 1, none⟩ = some (.int .i64 (bs.getD j bl0).node)
  typ : ∀ x ∈ bs, TyB x
theorem InBl.below {w w' : World} {ao : Option Addr} {n c : Nat} {bs : List Bl} (h : InBl w ao n c bs) (hb : Below w.heap.size w w') : InBl w' ao n c bs :=
  ⟨h.len, h.room, h.here.imp id (fun ⟨b, off, e, hc⟩ => ⟨b, off, e, fun j hj => ⟨cell_later hb (hc j hj).1, cell_later hb (hc j hj).2⟩⟩), h.typ⟩
theorem InBl.at {w : World} {ao : Option Addr} {n c : Nat} {bs : List Bl} (h : InBl w ao n c bs) (hn : 0 < n) : ∃ b off, ao = some ⟨b, off, none⟩ ∧ ∀ j, j < n → w.cell? ⟨b, off + j * 2, none⟩ = some (.int .i64 (bs.getD j bl0).n) ∧ w.cell? ⟨b, off + j * 2 + 1, none⟩ = some (.int .i64 (bs.getD j bl0).node) :=
  h.here.resolve_left (by omega)
theorem memBl {bs : List Bl} {i : Nat} (hi : i < bs.length) : bs.getD i bl0 ∈ bs := by
  rw [List.getD_eq_getElem?_getD, List.getElem?_eq_getElem hi]
  exact List.getElem_mem _
end Go.Proofs.Ytnhnpfhfcbmmlaa
namespace Go.Proofs.Ytnhnpfhfcbmmlaa
open Go Go.RowKit
set_option linter.unusedVariables false
set_option linter.unusedSimpArgs false

theorem ltB_not {a b c : Bl} (h : ¬ LtB a b) (h2 : ¬ LtB b c) : ¬ LtB a c := by
  unfold LtB at *
  omega
theorem ltB_self (a : Bl) : ¬ LtB a a := by
  unfold LtB
  omega
/-- What VoteRises keeps: the store says the promise, the ballot and the log; the promise isn't below; the log is short. -/
structure RisS (l : List Pr) (pr ac : Bl) (ls : List Cm) : Prop where
  enc : EncS l pr ac ls
  low : ¬ LtB pr ac
  few : (bytesL ls).length ≤ 104
theorem ris_nil : RisS [] bl0 bl0 [] := ⟨enc_nil, ltB_self _, by simp [bytesL_len, ends]⟩
theorem RisS.prep {l : List Pr} {pr ac : Bl} {ls : List Cm} (h : RisS l pr ac ls) {b : Bl} (hb : OkB b) (hl : ¬ LtB b pr) : prepN 4194304 b pr l = 0 ∧ RisS (saveP 4194304 (prepP b) l).2 b ac ls := by
  have h1 := h.enc.prep_room (size := 4194304) b (by have := h.few; omega)
  exact ⟨prepN_ok (hearN_ok hb hl) h1, h.enc.prep hb h1, ltB_not hl h.low, h.few⟩
theorem RisS.acc {l : List Pr} {pr ac : Bl} {ls : List Cm} (h : RisS l pr ac ls) {b : Bl} (hb : OkB b) (hl : ¬ LtB b pr) {q : Int} (hq : IsTm q) : accN 4194304 b pr [hlt q] l = 0 ∧ RisS (saveP 4194304 (accP b [hlt q]) l).2 b b [hlt q] := by
  have h1 := h.enc.acc_room (size := 4194304) b [hlt q] (by rw [hlt_len]; omega)
  have hi : i64c q := by unfold IsTm at hq; unfold i64c; omega
  exact ⟨accN_ok (hlt_good hq) (hearN_ok hb hl) h1, h.enc.acc hb (hlt_good hq) (fun x hx => by rw [List.mem_singleton] at hx; rw [hx]; exact hlt_ty hi) h1, ltB_self _, by rw [hlt_len]; omega⟩
theorem prepN_lt {size : Int} {b pr : Bl} {l : List Pr} (hb : OkB b) (hl : LtB b pr) : prepN size b pr l = 8 := by
  rw [prepN_bad (by rw [hearN_lt hb hl]; decide), hearN_lt hb hl]
theorem prepN_no {size : Int} {b pr : Bl} {l : List Pr} (hb : ¬ OkB b) : prepN size b pr l = 9 := by
  rw [prepN_bad (by rw [hearN_bad hb]; decide), hearN_bad hb]
theorem accN_bad {size : Int} {b pr : Bl} {lg : List Cm} {l : List Pr} (hg : GoodL lg) (h : hearN b pr ≠ 0) : accN size b pr lg l = hearN b pr := by
  unfold accN
  rw [if_pos hg, if_neg h]
theorem accN_lt {size : Int} {b pr : Bl} {q : Int} {l : List Pr} (hq : IsTm q) (hb : OkB b) (hl : LtB b pr) : accN size b pr [hlt q] l = 8 := by
  rw [accN_bad (hlt_good hq) (by rw [hearN_lt hb hl]; decide), hearN_lt hb hl]
theorem accN_no {size : Int} {b pr : Bl} {q : Int} {l : List Pr} (hq : IsTm q) (hb : ¬ OkB b) : accN size b pr [hlt q] l = 9 := by
  rw [accN_bad (hlt_good hq) (by rw [hearN_bad hb]; decide), hearN_bad hb]
theorem bl_neq (a b : Bl) (w : World) : (binOp .neq tyB2 a.val b.val).run Try.prog w = .ok (.bool (!decide (a = b))) w := by
  obtain ⟨a1, a2⟩ := a
  obtain ⟨b1, b2⟩ := b
  have : decide ((⟨a1, a2⟩ : Bl) = ⟨b1, b2⟩) = decide (a1 = b1 ∧ a2 = b2) := decide_eq_decide.2 (by rw [Bl.mk.injEq])
  rw [this]
  by_cases h0 : a1 = b1
  · by_cases h1 : a2 = b2
    · go_simp
    · go_simp
  · go_simp
theorem BxB.set2 {w : World} {q : Nat} {b : Bl} (h : BxB w q b) (d : Bl) : BxB ((w.setCell ⟨q, 0, none⟩ (.int .i64 d.n)).setCell ⟨q, 1, none⟩ (.int .i64 d.node)) q d :=
  put_row (i := 1) (put_row (i := 0) h (.int .i64 d.n)) (.int .i64 d.node)
theorem tch_set2 (w : World) (q : Nat) (x y : Value) : Tch (· = q) w ((w.setCell ⟨q, 0, none⟩ x).setCell ⟨q, 1, none⟩ y) := (tch_set w ⟨q, 0, none⟩ x).trans (tch_set _ ⟨q, 1, none⟩ y)
theorem lgK_of {a : Option Addr} {n : Nat} {vs : List Value} {K : Nat → Prop} (hl : vs.length = n) (h : ∀ k, BkC a vs k → K k) : LgK a n vs K :=
  ⟨fun ad e _ => h _ (.inl ⟨ad, e, rfl⟩), fun j hj ad k c e _ => h _ (.inr ⟨_, memV (i := j) (by omega), ad, k, c, e, rfl⟩)⟩
/-- An own log behind a call that keeps K, then a write of one box. -/
theorem OwC.kept {w w' w2 : World} {B c q : Nat} {ls : List Cm} {ao : Option Addr} {vs : List Value} {K : Nat → Prop} (h : OwC w B ls ao c vs) (ht : ∀ x ∈ ls, TyC x) (hk : Kpt K w w') (hK : ∀ k, B ≤ k → k < w.heap.size → K k) (hT : Tch (· = q) w' w2) (hq : w.heap.size ≤ q) : InC w2 ao ls.length c ls vs := by
  have hb := h.blk
  refine ((h.in ht).kptw hk (lgK_of h.vlen (fun k h2 => hK k (hb k h2).1 (hb k h2).2))).keep hT (fun k h2 e => ?_)
  have := (hb k h2).2
  omega
end Go.Proofs.Ytnhnpfhfcbmmlaa
