/- The program's table: orEmpty, isQuota, isTime, New, Len. Conditions: as each states. -/
import Derived.Test.YtpbgccidhpfmgaaFmB
namespace Go.Proofs.Ytpbgccidhpfmgaa
open Go Go.RowKit Go.Maps
set_option linter.unusedVariables false
set_option linter.unusedSimpArgs false

abbrev tbl0 : Obj := .cells #[.int .i64 0, .int .i64 0, .map none, .int .i64 0] tyT
theorem orE_c (p : Nat) (w : World) : Calls Try.prog 56 #[.pointer (some ⟨p, 0, none⟩)] w fun e w' => e = .returned (.pointer (some ⟨p, 0, none⟩)) ∧ w = w' := by
  go_enter Try.func56, Try.ntmps56
  go_wp2
  go_ret
  exact ⟨rfl, rfl⟩
theorem orE_n (w : World) : Calls Try.prog 56 #[.pointer none] w fun e w' => e = .returned (.pointer (some ⟨w.heap.size, 0, none⟩)) ∧ w' = w.alloc tbl0 := by
  go_enter Try.func56, Try.ntmps56
  go_wp2
  go_ret
  exact ⟨rfl, rfl⟩
theorem isQ_c (n : Int) (w : World) : Calls Try.prog 53 #[.int .i64 n] w fun e w' => e = .returned (.bool (decide (OkQ n))) ∧ w = w' := by
  by_cases h1 : 0 ≤ n
  · by_cases h2 : n ≤ 4096
    · rw [decide_eq_true (show OkQ n from ⟨h1, h2⟩)]
      go_enter Try.func53, Try.ntmps53
      go_wp2
      go_ret
      exact ⟨rfl, rfl⟩
    · rw [decide_eq_false (show ¬ OkQ n from fun h => h2 h.2)]
      go_enter Try.func53, Try.ntmps53
      go_wp2
      go_ret
      exact ⟨rfl, rfl⟩
  · rw [decide_eq_false (show ¬ OkQ n from fun h => h1 h.1)]
    go_enter Try.func53, Try.ntmps53
    go_wp2
    go_ret
    exact ⟨rfl, rfl⟩
theorem isT_c (n : Int) (w : World) : Calls Try.prog 55 #[.int .i64 n] w fun e w' => e = .returned (.bool (decide (OkN n))) ∧ w = w' := by
  by_cases h1 : 0 ≤ n
  · by_cases h2 : n ≤ 1099511627776
    · rw [decide_eq_true (show OkN n from ⟨h1, h2⟩)]
      go_enter Try.func55, Try.ntmps55
      go_wp2
      go_ret
      exact ⟨rfl, rfl⟩
    · rw [decide_eq_false (show ¬ OkN n from fun h => h2 h.2)]
      go_enter Try.func55, Try.ntmps55
      go_wp2
      go_ret
      exact ⟨rfl, rfl⟩
  · rw [decide_eq_false (show ¬ OkN n from fun h => h1 h.1)]
    go_enter Try.func55, Try.ntmps55
    go_wp2
    go_ret
    exact ⟨rfl, rfl⟩
theorem new_tst (w : World) (qt qu : Int) (h : OkQ qt ∧ OkQ qu) : TSt ((w.alloc (.map #[] 0)).alloc (tbl qt qu w.heap.size 0)) w.heap.size (fun k => k = w.heap.size ∨ k = w.heap.size + 1) (w.heap.size + 1) qt qu [] := by
  have hs : (w.alloc (.map #[] 0)).heap.size = w.heap.size + 1 := by simp
  refine ⟨List.Pairwise.nil, by simp, h, .inr rfl, fun k hk => ?_, w.heap.size, .inl rfl, by omega, ?_, (MapS.new w).block ?_⟩
  · simp only [World.size_alloc]
    omega
  · unfold TbAt
    rw [← hs]
    exact (MapKept.heap_alloc _ _).1
  · exact (MapKept.heap_alloc _ _).2 _ (by rw [hs]; omega)
theorem bl_dn {B : Nat} {w w' : World} (h : Below B w w') (n : Nat) : Below B w (w'.drewN n) := ⟨h.os, h.tape, h.output, h.size, h.block⟩
set_option maxRecDepth 100000 in
theorem tnew_t (qt qu : Int) (w : World) (h1 : InN qt) (h2 : InN qu) : Calls Try.prog 12 #[.int .i64 qt, .int .i64 qu] w (TNew TSt w qt qu) := by
  have hq1 := isQ_c qt w
  have hq2 := isQ_c qu w
  by_cases a : OkQ qt
  · rw [decide_eq_true a] at hq1
    by_cases b : OkQ qu
    · rw [decide_eq_true b] at hq2
      have hmm := @run_makeMap Try.prog
      have HN := Lib.hid (new_tst w qt qu ⟨a, b⟩)
      have HB := Lib.hid (((Below.refl w.heap.size w).alloc (Nat.le_refl _) (.map #[] 0)).alloc (by simp) (tbl qt qu w.heap.size 0))
      have HA := Lib.hid (And.intro a b)
      clear a b
      go_enter Try.func12, Try.ntmps12
      go_wp2_with fail
      refine hq1.mono ?_
      rintro e w1 ⟨rfl, rfl⟩
      clear hq1
      go_wp2_with fail
      refine hq2.mono ?_
      rintro e w1 ⟨rfl, rfl⟩
      go_wp2
      go_ret2
      exact ⟨.inl ⟨HA.out, _, _, rfl, HN.out⟩, HB.out⟩
    · rw [decide_eq_false b] at hq2
      go_enter Try.func12, Try.ntmps12
      go_wp2_with fail
      refine hq1.mono ?_
      rintro e w1 ⟨rfl, rfl⟩
      clear hq1
      go_wp2_with fail
      refine hq2.mono ?_
      rintro e w1 ⟨rfl, rfl⟩
      go_wp2
      go_ret2
      exact ⟨.inr ⟨fun h => b h.2, rfl⟩, Below.refl _ _⟩
  · rw [decide_eq_false a] at hq1
    go_enter Try.func12, Try.ntmps12
    go_wp2_with fail
    refine hq1.mono ?_
    rintro e w1 ⟨rfl, rfl⟩
    go_wp2
    go_ret2
    exact ⟨.inr ⟨fun h => a h.1, rfl⟩, Below.refl _ _⟩
theorem tlen_b (B p : Nat) (F : Nat → Prop) (qt qu : Int) (l : List En) (w : World) (h : TSt w B F p qt qu l) (hB : B ≤ w.heap.size) (hn : l.length ≤ 1048576) :
    Calls Try.prog 26 #[.pointer (some ⟨p, 0, none⟩)] w fun e w' => e = .returned (.tuple #[.int .i64 (trE l : Nat), .int .i64 (unE l : Nat)]) ∧ Below w.heap.size w w' := by
  obtain ⟨b, hF, hne, hc, hm⟩ := h.map
  have HO := Lib.hid (orE_c p w)
  have c2 := hc.cs.2.2.1
  have c3 := hc.cs.2.2.2
  have hl : ∀ n ty, (Builtin.len_ #[tyM] ty #[.map (some b)]).run Try.prog (w.drewN n) = .ok (.int .i64 (l.length : Nat)) (w.drewN n) := fun n ty => (hm.block (w' := w.drewN n) rfl).len ty
  have ew : wrap64 ((l.length : Int) - (trE l : Nat)) = (unE l : Nat) := by have := tr_un l; unfold wrap64; omega
  have HT := Lib.hid h
  clear h hm hc hne
  go_enter Try.func26, Try.ntmps26
  go_wp2_with fail
  refine HO.out.mono ?_
  rintro e w1 ⟨rfl, rfl⟩
  go_wp2_with fail
  go_quiet (fail)
  go_wp2
  go_ret2
  exact ⟨by rw [ew]; rfl, bl_dn (Below.refl _ _) nq⟩
theorem tlen_t (B p : Nat) (F : Nat → Prop) (qt qu : Int) (l : List En) (w : World) (h : TSt w B F p qt qu l) (hB : B ≤ w.heap.size) (hn : l.length ≤ 1048576) :
    Calls Try.prog 26 #[.pointer (some ⟨p, 0, none⟩)] w fun e w' => e = .returned (.tuple #[.int .i64 (trE l : Nat), .int .i64 (unE l : Nat)]) ∧ TTo TSt w B F p qt qu l w' :=
  (tlen_b B p F qt qu l w h hB hn).mono fun e w' hh => ⟨hh.1, h.stay hh.2⟩
theorem tlenN_t (w : World) : Calls Try.prog 26 #[.pointer none] w fun e w' => e = .returned (.tuple #[.int .i64 0, .int .i64 0]) ∧ Below w.heap.size w w' := by
  have HO := Lib.hid (orE_n w)
  have c2 : (w.alloc tbl0).cell? ⟨w.heap.size, 2, none⟩ = some (.map none) := by simp [go_sem]
  have c3 : (w.alloc tbl0).cell? ⟨w.heap.size, 3, none⟩ = some (.int .i64 0) := by simp [go_sem]
  have hl : ∀ n ty, (Builtin.len_ #[tyM] ty #[.map none]).run Try.prog ((w.alloc tbl0).drewN n) = .ok (.int .i64 0) ((w.alloc tbl0).drewN n) := fun n ty => Maps.len_nil Try.underlying106 ty
  have HB := Lib.hid ((Below.refl w.heap.size w).alloc (Nat.le_refl _) tbl0)
  go_enter Try.func26, Try.ntmps26
  go_wp2_with fail
  refine HO.out.mono ?_
  rintro e w1 ⟨rfl, rfl⟩
  generalize w.alloc tbl0 = w1 at *
  go_wp2_with fail
  go_quiet (fail)
  go_wp2
  go_ret2
  exact ⟨rfl, bl_dn HB.out nq⟩
end Go.Proofs.Ytpbgccidhpfmgaa
