/- The document's table: find, Len; flows and entries compared. Conditions: at most 2^62 entries. -/
import Derived.Test.YtpbgccidhpfmgaaFwR
import Derived.Laws.Pointers
namespace Go.Proofs.Ytpbgccidhpfmgaa
open Go Go.RowKit
set_option linter.unusedVariables false
set_option linter.unusedSimpArgs false

def eqF (a b : Fl) : Bool := decide (a.p = b.p ∧ a.s = b.s ∧ a.sp = b.sp ∧ a.d = b.d ∧ a.dp = b.dp)
theorem eqF_is (a b : Fl) : eqF a b = decide (a = b) := by
  unfold eqF
  exact decide_eq_decide.2 Fl.same.symm
def eqE (a b : En) : Bool := decide (a.f.p = b.f.p ∧ a.f.s = b.f.s ∧ a.f.sp = b.f.sp ∧ a.f.d = b.f.d ∧ a.f.dp = b.f.dp ∧ a.dip = b.dip ∧ a.ep = b.ep ∧ a.tr = b.tr ∧ a.cl = b.cl ∧ a.la = b.la)
theorem eqE_is (a b : En) : eqE a b = decide (a = b) := by
  unfold eqE
  refine decide_eq_decide.2 ?_
  rw [En.same, Fl.same]
  simp only [and_assoc]
theorem flow_eql (a b : Fl) (w : World) : (binOp .eql 38 (.agg #[.int .i64 a.p, .int .u32 a.s, .int .i64 a.sp, .int .u32 a.d, .int .i64 a.dp]) (.agg #[.int .i64 b.p, .int .u32 b.s, .int .i64 b.sp, .int .u32 b.d, .int .i64 b.dp])).run Try.prog w = .ok (.bool (eqF a b)) w := by
  unfold eqF
  by_cases h0 : a.p = b.p
  · by_cases h1 : a.s = b.s
    · by_cases h2 : a.sp = b.sp
      · by_cases h3 : a.d = b.d
        · by_cases h4 : a.dp = b.dp
          · go_simp
          · go_simp
        · go_simp
      · go_simp
    · go_simp
  · go_simp
theorem flow_neq (a b : Fl) (w : World) : (binOp .neq 38 (.agg #[.int .i64 a.p, .int .u32 a.s, .int .i64 a.sp, .int .u32 a.d, .int .i64 a.dp]) (.agg #[.int .i64 b.p, .int .u32 b.s, .int .i64 b.sp, .int .u32 b.d, .int .i64 b.dp])).run Try.prog w = .ok (.bool (!eqF a b)) w := by
  unfold eqF
  by_cases h0 : a.p = b.p
  · by_cases h1 : a.s = b.s
    · by_cases h2 : a.sp = b.sp
      · by_cases h3 : a.d = b.d
        · by_cases h4 : a.dp = b.dp
          · go_simp
          · go_simp
        · go_simp
      · go_simp
    · go_simp
  · go_simp
set_option maxRecDepth 100000 in
theorem entry_eql (a b : En) (w : World) : (binOp .eql tyE (.agg #[.int .i64 a.f.p, .int .u32 a.f.s, .int .i64 a.f.sp, .int .u32 a.f.d, .int .i64 a.f.dp, .int .u32 a.dip, .int .i64 a.ep, .bool a.tr, .bool a.cl, .int .i64 a.la]) (.agg #[.int .i64 b.f.p, .int .u32 b.f.s, .int .i64 b.f.sp, .int .u32 b.f.d, .int .i64 b.f.dp, .int .u32 b.dip, .int .i64 b.ep, .bool b.tr, .bool b.cl, .int .i64 b.la])).run Try.prog w = .ok (.bool (eqE a b)) w := by
  unfold eqE
  by_cases h0 : a.f.p = b.f.p
  · by_cases h1 : a.f.s = b.f.s
    · by_cases h2 : a.f.sp = b.f.sp
      · by_cases h3 : a.f.d = b.f.d
        · by_cases h4 : a.f.dp = b.f.dp
          · by_cases h5 : a.dip = b.dip
            · by_cases h6 : a.ep = b.ep
              · by_cases h7 : a.tr = b.tr
                · by_cases h8 : a.cl = b.cl
                  · by_cases h9 : a.la = b.la
                    · go_simp
                    · go_simp
                  · go_simp
                · go_simp
              · go_simp
            · go_simp
          · go_simp
        · go_simp
      · go_simp
    · go_simp
  · go_simp
set_option maxRecDepth 100000 in
theorem entry_neq (a b : En) (w : World) : (binOp .neq tyE (.agg #[.int .i64 a.f.p, .int .u32 a.f.s, .int .i64 a.f.sp, .int .u32 a.f.d, .int .i64 a.f.dp, .int .u32 a.dip, .int .i64 a.ep, .bool a.tr, .bool a.cl, .int .i64 a.la]) (.agg #[.int .i64 b.f.p, .int .u32 b.f.s, .int .i64 b.f.sp, .int .u32 b.f.d, .int .i64 b.f.dp, .int .u32 b.dip, .int .i64 b.ep, .bool b.tr, .bool b.cl, .int .i64 b.la])).run Try.prog w = .ok (.bool (!eqE a b)) w := by
  unfold eqE
  by_cases h0 : a.f.p = b.f.p
  · by_cases h1 : a.f.s = b.f.s
    · by_cases h2 : a.f.sp = b.f.sp
      · by_cases h3 : a.f.d = b.f.d
        · by_cases h4 : a.f.dp = b.f.dp
          · by_cases h5 : a.dip = b.dip
            · by_cases h6 : a.ep = b.ep
              · by_cases h7 : a.tr = b.tr
                · by_cases h8 : a.cl = b.cl
                  · by_cases h9 : a.la = b.la
                    · go_simp
                    · go_simp
                  · go_simp
                · go_simp
              · go_simp
            · go_simp
          · go_simp
        · go_simp
      · go_simp
    · go_simp
  · go_simp
/-- The place of a flow, or -1. -/
def FndT (f : Fl) (l : List En) (k : Int) : Prop := (k = -1 ∧ findE f l = none) ∨ ∃ i : Nat, k = i ∧ i < l.length ∧ (l.getD i en0).f = f ∧ findE f l = some (l.getD i en0)
theorem find_hit {f : Fl} {l : List En} {i : Nat} (hi : i < l.length) (h : findE f (l.take i) = none) (e : (l.getD i en0).f = f) : findE f l = some (l.getD i en0) := by
  have h1 : l = l.take i ++ l.getD i en0 :: l.drop (i + 1) := by
    conv => lhs; rw [← List.take_append_drop i l]
    rw [List.drop_eq_getElem_cons hi, List.getD_eq_getElem?_getD, List.getElem?_eq_getElem hi]
    rfl
  generalize l.getD i en0 = x at h1 e ⊢
  rw [h1]
  unfold findE at h ⊢
  rw [List.find?_append, h, Option.none_or, List.find?_cons_of_pos (by simpa using e)]
theorem find_miss {f : Fl} {l : List En} {i : Nat} (hi : i < l.length) (h : findE f (l.take i) = none) (e : (l.getD i en0).f ≠ f) : findE f (l.take (i + 1)) = none := by
  rw [take_more l en0 hi]
  unfold findE at h ⊢
  rw [List.find?_append, h, Option.none_or, List.find?_cons_of_neg (by simpa using e)]
  rfl
theorem below_drewNT {B : Nat} {w w' : World} (h : Below B w w') (n : Nat) : Below B w (w'.drewN n) := below_drewN h n
set_option maxRecDepth 100000 in
set_option maxHeartbeats 1000000 in
theorem refFind_c (B m n c : Nat) (qt qu : Int) (f : Fl) (l : List En) (ao : Option Addr) (w : World) (hM : RtM w B m qt qu l ao n c) (hn : n ≤ 4611686018427387904) :
    Calls Try.prog 59 #[.pointer (some ⟨m, 0, none⟩), f.val] w fun e w' => (∃ k : Int, e = .returned (.int .i64 k) ∧ FndT f l k) ∧ Below w.heap.size w w' := by
  have HM := Lib.hid hM
  have hlen := ownE_len hM.row
  obtain ⟨W, hW⟩ : ∃ W, W = w.alloc f.obj := ⟨_, rfl⟩
  have HB0 := Lib.hid (show Below w.heap.size w W by rw [hW]; exact bl_al (Below.refl _ _) _)
  have HF : Hid (FlAt W w.heap.size f) := Lib.hid (by rw [hW]; exact flAt_new w f)
  have HW := Lib.hid hW
  have F0 : Hid (findE f (l.take 0) = none) := Lib.hid rfl
  have hFN : Hid (findE f (l.take n) = findE f l) := Lib.hid (by rw [List.take_of_length_le (by omega)])
  clear hM hW
  go_enter Try.func59, Try.ntmps59
  go_wp2
  rw [← HW.out]
  obtain ⟨p, hp⟩ : ∃ p, p = w.heap.size := ⟨_, rfl⟩
  rw [← hp] at HF HB0 ⊢
  have HP := Lib.hid hp
  have HPW : Hid (p < W.heap.size) := Lib.hid (block_lt_of_cell HF.out.1)
  clear hp HW
  go_loopw [5] (fun iv wr => ∃ i : Nat, i ≤ n ∧ iv = .int .i64 i ∧ Hid (findE f (l.take i) = none) ∧ Hid (Below W.heap.size W wr)) (fun iv _ => n - (intOf iv).toNat)
  case atStart => exact ⟨0, by omega, rfl, F0, Lib.hid (Below.refl _ _)⟩
  case round =>
    obtain ⟨i, hi, rfl, HN, HB⟩ := hrel
    obtain ⟨w2, rfl⟩ : ∃ v, v = wr := ⟨_, rfl⟩
    clear F0
    have hBB : Below p w w2 := HB0.out.trans (HB.out.mono (by have := HPW.out; omega))
    have hM2 := HM.out.keep (tch_new (by rw [← HP.out]; exact hBB)) (fun h => h) (fun _ _ h => h)
    have q0 := hM2.c0
    by_cases hlt : i < n
    · have ii : (i : Int) < (n : Int) := by omega
      have i0 : (0 : Int) ≤ (i : Int) := by omega
      obtain ⟨g, rfl, _, hE⟩ := ownE_cell hM2.row hlt
      obtain ⟨d0, d1, d2, d3, d4⟩ := flAt_below HF.out HB.out HPW.out
      have HH := Lib.hid (fun e => find_hit (i := i) (by omega) HN.out e)
      have HMi := Lib.hid (fun e => find_miss (i := i) (by omega) HN.out e)
      obtain ⟨x, hx⟩ : ∃ x, x = l.getD i en0 := ⟨_, rfl⟩
      rw [← hx] at hE HH HMi
      obtain ⟨c0, c1, c2, c3, c4, _⟩ := hE
      have HX := Lib.hid hx
      clear hM2 hx
      have hq := flow_eql x.f f
      have HBw : Hid (Below p w w2) := Lib.hid hBB
      clear hBB
      by_cases e : x.f = f
      · have he : eqF x.f f = true := by rw [eqF_is]; exact decide_eq_true e
        rw [he] at hq
        have HR : Hid (FndT f l i) := Lib.hid (.inr ⟨i, rfl, by omega, by rw [← HX.out]; exact e, by rw [← HX.out]; exact HH.out e⟩)
        clear e he HMi HH HN
        go_wp2
        go_quiet (fail)
        have HB9 := Lib.hid (below_drewNT HBw.out nq)
        go_wp2
        go_ret
        exact ⟨⟨i, rfl, HR.out⟩, by rw [← HP.out]; exact HB9.out⟩
      · have he : eqF x.f f = false := by rw [eqF_is]; exact decide_eq_false e
        rw [he] at hq
        have HN2 := Lib.hid (HMi.out e)
        clear e he HMi HH HN
        go_wp2
        go_quiet (fail)
        have HB9 := Lib.hid (below_drewNT HB.out nq)
        go_wp2
        go_roundw
        case rel => exact ⟨i + 1, by omega, by go_num, HN2, HB9⟩
        case measure => simp [intOf]; omega
    · obtain rfl : i = n := by omega
      have ii : ¬ (i : Int) < (i : Int) := by omega
      go_wp2
      go_ret
      exact ⟨⟨-1, rfl, .inl ⟨rfl, by rw [← hFN.out]; exact HN.out⟩⟩, by rw [← HP.out]; exact hBB⟩
theorem tr_step {l : List En} {i : Nat} (hi : i < l.length) : trE (l.take (i + 1)) = trE (l.take i) + (if (l.getD i en0).tr then 1 else 0) := by
  rw [take_more l en0 hi]
  unfold trE
  rw [List.countP_append]
  generalize l.getD i en0 = x
  cases h : x.tr <;> simp [h]
theorem tr_le (l : List En) : trE l ≤ l.length := List.countP_le_length
set_option maxRecDepth 100000 in
theorem refLen_c (B m n c : Nat) (qt qu : Int) (l : List En) (ao : Option Addr) (w : World) (hM : RtM w B m qt qu l ao n c) (hn : n ≤ 4611686018427387904) :
    Calls Try.prog 27 #[.pointer (some ⟨m, 0, none⟩)] w fun e w' => e = .returned (.tuple #[.int .i64 (trE l : Nat), .int .i64 (unE l : Nat)]) ∧ Below w.heap.size w w' := by
  have hlen := ownE_len hM.row
  have HM := Lib.hid hM
  have HU := Lib.hid (tr_un l)
  have HTN : Hid (trE (l.take n) = trE l) := Lib.hid (by rw [List.take_of_length_le (by omega)])
  have HTL : Hid (∀ i, trE (l.take i) ≤ i) := Lib.hid (fun i => by
    have h1 := tr_le (l.take i)
    rw [List.length_take] at h1
    omega)
  clear hM
  go_enter Try.func27, Try.ntmps27
  go_wp2
  go_loopw [4, 5] (fun nv iv wr => ∃ (i N : Nat), i ≤ n ∧ nv = .int .i64 N ∧ iv = .int .i64 i ∧ N ≤ i ∧ Hid (N = trE (l.take i)) ∧ wr = w) (fun _ iv _ => n - (intOf iv).toNat)
  case atStart => exact ⟨0, 0, by omega, rfl, rfl, Nat.le_refl _, Lib.hid rfl, rfl⟩
  case round =>
    obtain ⟨i, N, hi, rfl, rfl, hN, HN, rfl⟩ := hrel
    have q0 := HM.out.c0
    by_cases hlt : i < n
    · have ii : (i : Int) < (n : Int) := by omega
      have i0 : (0 : Int) ≤ (i : Int) := by omega
      obtain ⟨g, rfl, _, hE⟩ := ownE_cell HM.out.row hlt
      have HS := Lib.hid (tr_step (l := l) (i := i) (by omega))
      obtain ⟨x, hx⟩ : ∃ x, x = l.getD i en0 := ⟨_, rfl⟩
      rw [← hx] at hE HS
      obtain ⟨_, _, _, _, _, _, _, c7, _, _⟩ := hE
      clear hx
      cases ht : x.tr with
      | true =>
        rw [ht] at c7 HS
        have HN2 : Hid (N + 1 = trE (l.take (i + 1))) := Lib.hid (by rw [HS.out, HN.out]; rfl)
        clear ht HS HN
        go_wp2
        go_roundw
        case rel => exact ⟨i + 1, N + 1, by omega, by go_num, by go_num, by omega, HN2, trivial⟩
        case measure => simp [intOf]; omega
      | false =>
        rw [ht] at c7 HS
        have HN2 : Hid (N = trE (l.take (i + 1))) := Lib.hid (by rw [HS.out, HN.out]; rfl)
        clear ht HS HN
        go_wp2
        go_roundw
        case rel => exact ⟨i + 1, N, by omega, rfl, by go_num, by omega, HN2, trivial⟩
        case measure => simp [intOf]; omega
    · obtain rfl : i = n := by omega
      have ii : ¬ (i : Int) < (i : Int) := by omega
      have HE : Hid (N = trE l ∧ N + unE l = i) := Lib.hid (by
        have h1 := HN.out
        rw [HTN.out] at h1
        have := HU.out
        omega)
      clear HN
      go_wp2
      go_quiet (fail)
      have HB9 := Lib.hid (below_drewNT (Below.refl wr.heap.size wr) nq)
      have ew : ((i : Int) - (N : Int)) = (unE l : Nat) := by have := HE.out; omega
      go_wp2
      go_ret2
      refine ⟨?_, HB9.out⟩
      rw [ew, ← HE.out.1]
      rfl
end Go.Proofs.Ytpbgccidhpfmgaa
