/- Contracts of the document's Get and Drain of a queue. Conditions: those stated. -/
import Derived.Test.YtdjeacmonlgdhaaRqP
namespace Go.Proofs.Ytdjeacmonlgdhaa
open Go Go.RowKit
set_option linter.unusedVariables false
set_option linter.unusedSimpArgs false

theorem Rws.cells {w : World} {B : Nat} : ∀ {vs : List Value} {ps : List (List Int)}, Rws w B vs ps → ∀ u ∈ vs, u.oneCell' = true
  | [], [], _, u, hu => by cases hu
  | v :: vs, p :: ps, h, u, hu => (List.mem_cons.1 hu).elim (fun e => by
      obtain ⟨a, c, hv⟩ := own_form h.1.1
      rw [e, hv]
      rfl) (fun hu => Rws.cells h.2 u hu)
  | [], _ :: _, h, _, _ => h.elim
  | _ :: _, [], h, _, _ => h.elim
/-- What the document's Get leaves where there is a row. -/
def GotG (w : World) (B m off size n : Nat) (v : Value) (vt : List Value) (pt : List (List Int)) (e : Ending) (w' : World) : Prop :=
  ∃ ao' c', e = .returned (.tuple #[v, .bool true]) ∧ RfQ w' B m off size ao' n c' vt pt ∧ One m off w w' ∧ Tch (· = m) w w' ∧ (∀ k, (Value.slice ao' n c').ownBlock = some k → w.heap.size ≤ k)
theorem get_step {w w8 : World} {B m off size n c c8 : Nat} {ao a8 : Option Addr} {v : Value} {vt : List Value} {p : List Int} {pt : List (List Int)} (hQ : RfQ w B m off size ao (n + 1) c (v :: vt) (p :: pt)) (hB : B ≤ w.heap.size)
    (h8 : w8.ownsRow w.heap.size 42 1 (.slice a8 n c8) n vt) (hb : Below w.heap.size w w8) :
    RfQ (w8.setCell ⟨m, off, none⟩ (.slice a8 n c8)) B m off size a8 n c8 vt pt ∧ One m off w (w8.setCell ⟨m, off, none⟩ (.slice a8 n c8)) ∧ Tch (· = m) w (w8.setCell ⟨m, off, none⟩ (.slice a8 n c8)) ∧ (∀ k, (Value.slice a8 n c8).ownBlock = some k → w.heap.size ≤ k) := by
  have hml : m < w.heap.size := World.block_lt_of_cell? _ _ hQ.c0
  have T1 := tch_new hb
  have T4 := tch_set w8 ⟨m, off, none⟩ (.slice a8 n c8)
  have e0 := T1.cell hQ.c0 (fun h => h)
  have e1 := T1.cell hQ.c1 (fun h => h)
  have fr := (frozen_keep T1 hQ.c0 (fun h => h)).trans hQ.free
  have haw : ∀ u ∈ vt, u.ownBlock ≠ some m := fun u hu => hQ.away u (List.mem_cons_of_mem _ hu)
  have hn8 : ∀ k, (Value.slice a8 n c8).ownBlock = some k → w.heap.size ≤ k := fun k hk => (h8.lt k hk).1
  have hm8 : (Value.slice a8 n c8).ownBlock ≠ some m := fun e => by have := hn8 m e; omega
  refine ⟨⟨World.cell?_setCell_same w8 ⟨m, off, none⟩ _ e0, (World.cell?_setCell_other _ _ _ _ (fun e => by have := congrArg Addr.off e; simp at this)).trans e1, by simpa using fr, own_base (ownsRow_setCell_other h8 hm8 _) hB, ?_, (List.pairwise_cons.1 hQ.apart).2, ?_, haw, hm8⟩, (One.tch T1 hml (fun h => h)).trans (One.set m off w8 _), (T1.mono (fun _ h => h.elim)).trans T4, hn8⟩
  · exact (hQ.rows.2.keep T1 (fun _ _ _ _ h => h)).keep T4 (fun u hu k hk e => haw u hu (by rw [hk, e]))
  · intro u hu k hk hk2
    have := hn8 k hk
    have := (hQ.rows.2.blocks u hu k hk2).2
    omega
set_option maxRecDepth 100000 in
theorem refGet_none (B m off size : Nat) (ao : Option Addr) (c : Nat) (w : World) (h : w.cell? ⟨m, off, none⟩ = some (.slice ao 0 c)) :
    Calls Try.prog 17 #[.pointer (some ⟨m, off, none⟩)] w fun e w' => e = .returned (.tuple #[.slice none 0 0, .bool false]) ∧ w = w' := by
  go_enter Try.func17, Try.ntmps17
  go_wp2
  go_ret2
  exact ⟨rfl, rfl⟩
set_option maxRecDepth 100000 in
set_option maxHeartbeats 1000000 in
theorem refGet_some (B m off size n : Nat) (ao : Option Addr) (c : Nat) (v : Value) (vt : List Value) (p : List Int) (pt : List (List Int)) (w : World) (hQ : RfQ w B m off size ao (n + 1) c (v :: vt) (p :: pt)) (hB : B ≤ w.heap.size) (hn : n ≤ 4096) :
    Calls Try.prog 17 #[.pointer (some ⟨m, off, none⟩)] w (GotG w B m off size n v vt pt) := by
  obtain ⟨j0, hj0, hy0, hy1, hy2⟩ := info_parts info26
  obtain ⟨g, c', hsh, _⟩ := own_shape hQ.own (by omega)
  cases hsh
  have HQ := Lib.hid hQ
  have HBB := Lib.hid hB
  have e0 := hQ.c0
  have ef := hQ.free
  have hrow := own_at hQ.own (j := 0) (by omega)
  have hrow0 : w.cell? ⟨g, 0, none⟩ = some v := hrow
  have hvl : vt.length = n := by have := hQ.own.1; simpa using this
  have hcap : n + 1 ≤ c := by
    rcases hQ.own.2 with ⟨h, _⟩ | ⟨g', cap', cur, h, _, _, h1, _⟩
    · cases h
    · cases h; exact h1
  have i0 : ¬ ((n : Int) + 1 = 0) := by omega
  have i1 : (0 : Int) < (n : Int) + 1 := by omega
  have i2 : (1 : Int) ≤ (n : Int) + 1 := by omega
  have HD : Hid (Below w.heap.size w (w.alloc (.cells #[] 42))) := Lib.hid (bl_al (Below.refl _ _) _)
  have e0a := cell_later HD.out e0
  have own0 := Lib.hid (World.ownsRow_made (base := w.heap.size) (e := 42) (size := 1) w #[] 0 (Nat.le_refl _) (by decide) rfl)
  have HCL : Hid (∀ j u, vt[j]? = some u → (w.alloc (.cells #[] 42)).cell? ((⟨g, 1, none⟩ : Addr).add j) = some u) := Lib.hid (fun j u hu => by
    rw [Go.WideShapes.add_plain]
    have hj : j < vt.length := by
      rcases Nat.lt_or_ge j vt.length with h | h
      · exact h
      · rw [List.getElem?_eq_none h] at hu; cases hu
    have h1 := own_at hQ.own (j := 1 + j) (by omega)
    refine cell_later HD.out (h1.trans ?_)
    rw [List.getD_eq_getElem?_getD, Nat.add_comm 1 j, List.getElem?_cons_succ, hu]
    rfl)
  have HON := Lib.hid hQ.rows.2.cells
  have HVL := Lib.hid (show vt.length = n * 1 by omega)
  clear hrow hB
  by_cases hc1 : c = 1
  · have hn0 : n = 0 := by omega
    subst hn0 hc1
    have hvt : vt = [] := List.eq_nil_of_length_eq_zero (by simpa using hvl)
    subst hvt
    clear hvl hQ
    go_enter Try.func17, Try.ntmps17
    go_wp2_with (at_builtin; refine append_any rfl (.tmp 18) (.tmp 23) 33 rfl w.heap.size 42 j0 (.slice none 0 0) 1 24 Try.underlying33 hj0 hy0 hy1 hy2 rfl (by decide) _ 0 [] rfl own0.out _ 0 _ [] rfl (fun e => by cases e) rfl (fun _ _ j u hu => by simp at hu) (fun u hu => by cases hu) (by unfold maxLen; omega) (by omega) (by simp) ?_)
    intro v8 w8 hown8 hg8
    obtain ⟨a8, c8, rfl⟩ := own_form hown8
    have hb8 := HD.out.grown hg8 (by simp) (fun k hk => by cases hk; exact Nat.le_refl _)
    obtain ⟨hQ9, hO9, hT9, hn9⟩ := get_step HQ.out HBB.out hown8 hb8
    have HQ9 := Lib.hid hQ9
    have HO9 := Lib.hid hO9
    have HT9 := Lib.hid hT9
    have HN9 := Lib.hid hn9
    have e08 := cell_later hb8 e0
    have ef8 := (frozen_keep (tch_new hb8) e0 (fun h => h)).trans ef
    clear hQ9 hO9 hT9 hn9 hb8 hown8 hg8 e0 e0a ef hrow0 own0
    go_wp2
    go_ret2
    exact ⟨a8, c8, rfl, HQ9.out, HO9.out, HT9.out, HN9.out⟩
  · have i3 : ¬ ((c : Int) = 1) := by omega
    have i4 : (1 : Int) ≤ (c : Int) := by omega
    clear hvl hQ
    go_enter Try.func17, Try.ntmps17
    go_wp2_with (at_builtin; refine append_any rfl (.tmp 18) (.tmp 23) 33 rfl w.heap.size 42 j0 (.slice none 0 0) 1 24 Try.underlying33 hj0 hy0 hy1 hy2 rfl (by decide) _ 0 [] rfl own0.out _ n _ vt rfl (fun e => by cases e) HVL.out (fun ad e j u hu => by cases e; exact HCL.out j u hu) HON.out (by unfold maxLen; omega) (by omega) (by simp) ?_)
    intro v8 w8 hown8 hg8
    obtain ⟨a8, c8, rfl⟩ := own_form hown8
    have hb8 := HD.out.grown hg8 (by simp) (fun k hk => by cases hk; exact Nat.le_refl _)
    obtain ⟨hQ9, hO9, hT9, hn9⟩ := get_step HQ.out HBB.out hown8 hb8
    have HQ9 := Lib.hid hQ9
    have HO9 := Lib.hid hO9
    have HT9 := Lib.hid hT9
    have HN9 := Lib.hid hn9
    have e08 := cell_later hb8 e0
    have ef8 := (frozen_keep (tch_new hb8) e0 (fun h => h)).trans ef
    clear hQ9 hO9 hT9 hn9 hb8 hown8 hg8 e0 e0a ef hrow0 own0
    go_wp2
    go_ret2
    exact ⟨a8, c8, rfl, HQ9.out, HO9.out, HT9.out, HN9.out⟩
/-- What the document's Drain leaves. -/
def GotD (w : World) (B m off size : Nat) (ao : Option Addr) (n c : Nat) (vs : List Value) (ps : List (List Int)) (e : Ending) (w' : World) : Prop :=
  e = .returned (.slice ao n c) ∧ RfQ w' B m off size none 0 0 [] [] ∧ One m off w w' ∧ Tch (· = m) w w'
set_option maxRecDepth 100000 in
theorem refDrain_t (B m off size n : Nat) (ao : Option Addr) (c : Nat) (vs : List Value) (ps : List (List Int)) (w : World) (hQ : RfQ w B m off size ao n c vs ps) :
    Calls Try.prog 21 #[.pointer (some ⟨m, off, none⟩)] w (GotD w B m off size ao n c vs ps) := by
  have e0 := hQ.c0
  have ef := hQ.free
  have HG : Hid (RfQ (w.setCell ⟨m, off, none⟩ (.slice none 0 0)) B m off size none 0 0 [] [] ∧ One m off w (w.setCell ⟨m, off, none⟩ (.slice none 0 0)) ∧ Tch (· = m) w (w.setCell ⟨m, off, none⟩ (.slice none 0 0))) := Lib.hid ⟨⟨World.cell?_setCell_same w ⟨m, off, none⟩ _ e0, (World.cell?_setCell_other _ _ _ _ (fun e => by have := congrArg Addr.off e; simp at this)).trans hQ.c1, by simpa using ef, World.ownsRow_nil _ _ _ _, trivial, List.Pairwise.nil, (fun v hv => by cases hv), (fun v hv => by cases hv), (fun e => by cases e)⟩, One.set _ _ _ _, tch_set w ⟨m, off, none⟩ _⟩
  clear hQ
  go_enter Try.func21, Try.ntmps21
  go_wp2
  go_ret
  exact ⟨rfl, HG.out.1, HG.out.2.1, HG.out.2.2⟩
set_option maxRecDepth 100000 in
theorem refGood_yes (n : Int) (h0 : 0 ≤ n) (h1 : n ≤ 4096) (w : World) : Calls Try.prog 10 #[.int .i64 n] w fun e w' => e = .returned (.bool true) ∧ w = w' := by
  go_enter Try.func10, Try.ntmps10
  go_wp2
  go_ret
  exact ⟨by simp [h1], rfl⟩
set_option maxRecDepth 100000 in
theorem refGood_no (n : Int) (h : n < 0 ∨ 4096 < n) (w : World) : Calls Try.prog 10 #[.int .i64 n] w fun e w' => e = .returned (.bool false) ∧ w = w' := by
  by_cases h0 : 0 ≤ n
  · have h1 : ¬ n ≤ 4096 := by omega
    clear h
    go_enter Try.func10, Try.ntmps10
    go_wp2
    go_ret
    exact ⟨by simp [h1], rfl⟩
  · clear h
    go_enter Try.func10, Try.ntmps10
    go_wp2
    go_ret
    exact ⟨rfl, rfl⟩
end Go.Proofs.Ytdjeacmonlgdhaa
