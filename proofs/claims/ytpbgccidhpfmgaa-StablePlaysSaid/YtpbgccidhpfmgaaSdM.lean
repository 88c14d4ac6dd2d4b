/- Rows of pairs in memory; the document's find, Used. Conditions: at most 2^26 pairs. -/
import Derived.Test.YtpbgccidhpfmgaaSnT
namespace Go.Proofs.Ytpbgccidhpfmgaa
open Go Go.RowKit Go.Maps
set_option linter.unusedVariables false
set_option linter.unusedSimpArgs false

abbrev tyP : TypeId := 93
abbrev Pv := Pr × Value
def cellsP : List Pv → List Value
  | [] => []
  | x :: ps => sv x.1.k :: x.2 :: cellsP ps
def pv0 : Pv := (pr0, undef)
instance : Inhabited Pv := ⟨pv0⟩
theorem cellsP_len (ps : List Pv) : (cellsP ps).length = ps.length * 2 := by
  induction ps with
  | nil => rfl
  | cons x ps ih => simp only [cellsP, List.length_cons, ih]; omega
theorem cellsP_app (a b : List Pv) : cellsP (a ++ b) = cellsP a ++ cellsP b := by
  induction a with
  | nil => rfl
  | cons x a ih => simp only [List.cons_append, cellsP, ih]
theorem cellsP_at : ∀ (ps : List Pv) (j : Nat), j < ps.length → (cellsP ps)[j * 2]? = some (sv (ps.getD j pv0).1.k) ∧ (cellsP ps)[j * 2 + 1]? = some (ps.getD j pv0).2
  | [], j, h => by simp at h
  | x :: ps, 0, _ => ⟨rfl, rfl⟩
  | x :: ps, j + 1, h => by
    have := cellsP_at ps j (by simpa using h)
    rw [show (j + 1) * 2 = j * 2 + 1 + 1 by omega, show j * 2 + 1 + 1 + 1 = (j * 2 + 1) + 1 + 1 by omega]
    simpa only [cellsP, List.getElem?_cons_succ, List.getD_cons_succ] using this
/-- A row of pairs of the call's own. -/
structure PsV (w : World) (F : Nat → Prop) (B : Nat) (v : Value) (ps : List Pv) : Prop where
  row : w.ownsRow B tyP 2 v ps.length (cellsP ps)
  rows : ∀ x ∈ ps, RowF w F B x.2 x.1.b
  here : ∀ g, v.ownBlock = some g → F g
def PsR (w : World) (F : Nat → Prop) (B : Nat) (v : Value) (l : List Pr) : Prop := ∃ ps : List Pv, ps.map (·.1) = l ∧ PsV w F B v ps
section
variable {w w' : World} {F G : Nat → Prop} {B B' : Nat} {v : Value} {ps : List Pv}
theorem PsV.no (h : PsV w F B v ps) : ∀ g, v.ownBlock = some g → NoRow w g := fun g hg cs fr e => by
  rcases h.row.2 with ⟨rfl, _⟩ | ⟨g', cap, cur, rfl, _, h2, _⟩
  · cases hg
  · cases hg
    rw [h2] at e
    simp only [Option.some.injEq, Obj.cells.injEq] at e
    exact absurd e.2.1 (by decide)
theorem PsV.tch {T : Nat → Prop} (h : PsV w F B v ps) (ht : Tch T w w') (hn : ∀ g, v.ownBlock = some g → ¬ T g) (hr : ∀ k, T k → F k → NoRow w k) : PsV w' F B v ps :=
  ⟨ht.own h.row hn, fun x hx => (h.rows x hx).tch ht hr, h.here⟩
theorem PsV.mono (h : PsV w F B v ps) (hG : ∀ k, F k → G k) : PsV w G B v ps := ⟨h.row, fun x hx => (h.rows x hx).mono hG, fun g hg => hG g (h.here g hg)⟩
theorem PsV.base (h : PsV w F B v ps) (hb : B' ≤ B) : PsV w F B' v ps := ⟨own_base h.row hb, fun x hx => (h.rows x hx).base hb, h.here⟩
theorem PsV.nil (w : World) : PsV w F B (.slice none 0 0) [] := ⟨⟨rfl, .inl ⟨rfl, rfl⟩⟩, by simp, fun g hg => by cases hg⟩
theorem PsV.fit (h : PsV w F B v ps) : ∀ x ∈ ps, Go.Proofs.Ytpbgccidhpfmgaa.fit x.1.b := fun x hx => (h.rows x hx).2.1
/-- A pair of the row. -/
theorem PsV.at {n c : Nat} {ao : Option Addr} (h : PsV w F B (.slice ao n c) ps) {j : Nat} (hj : j < ps.length) : ∃ g a2 c2, ao = some ⟨g, 0, none⟩ ∧ n ≤ c ∧ n = ps.length ∧ w.cell? ⟨g, j * 2, none⟩ = some (sv (ps.getD j pv0).1.k) ∧ w.cell? ⟨g, j * 2 + 1, none⟩ = some (.slice a2 (ps.getD j pv0).1.b.length c2) ∧ (ps.getD j pv0).2 = .slice a2 (ps.getD j pv0).1.b.length c2 ∧ RowF w F B (.slice a2 (ps.getD j pv0).1.b.length c2) (ps.getD j pv0).1.b := by
  have hmem : ps.getD j pv0 ∈ ps := by rw [List.getD_eq_getElem?_getD, List.getElem?_eq_getElem hj]; exact List.getElem_mem hj
  have hr := h.rows _ hmem
  obtain ⟨a2, c2, e2⟩ := own_form hr.1
  obtain ⟨h1, h2⟩ := cellsP_at ps j hj
  rw [e2] at hr
  rcases h.row.2 with ⟨e, h0⟩ | ⟨g, cap, cur, e, _, hb, h3, _, hsz, htk⟩
  · omega
  · cases e
    refine ⟨g, a2, c2, rfl, h3, rfl, ?_, ?_, e2, hr⟩
    · rw [← h1, ← htk, List.getElem?_take, if_pos (by omega), cell_of_row w g (j * 2) _ _ _ hb, Array.getElem?_toList]
    · rw [← e2, ← h2, ← htk, List.getElem?_take, if_pos (by omega), cell_of_row w g (j * 2 + 1) _ _ _ hb, Array.getElem?_toList]
end
theorem map_getD (ps : List Pv) {j : Nat} (hj : j < ps.length) : (ps.map (·.1)).getD j pr0 = (ps.getD j pv0).1 := by
  rw [List.getD_eq_getElem?_getD, List.getD_eq_getElem?_getD, List.getElem?_map, List.getElem?_eq_getElem hj]
  rfl
theorem infoP : (Try.prog.info? tyP).map (fun i => (i.zero, i.size, i.bytes)) = some (some (.agg #[.string ⟨#[]⟩, .slice none 0 0]), 2, 40) := by kernel_rfl
/-- Where the key stands. -/
def PlaceP (k : Ky) (ps : List Pv) (z : Int) : Prop := (z = -1 ∧ ∀ x ∈ ps, x.1.k ≠ k) ∨ ∃ i : Nat, i < ps.length ∧ z = (i : Int) ∧ (ps.getD i pv0).1.k = k
set_option maxRecDepth 100000 in
set_option maxHeartbeats 1000000 in
theorem rfind_c (F : Nat → Prop) (B : Nat) (ao : Option Addr) (n c : Nat) (ps : List Pv) (k : Ky) (w : World) (h : PsV w F B (.slice ao n c) ps) (hn : ps.length ≤ 134217728) (hln : n = ps.length) :
    Calls Try.prog 75 #[.slice ao n c, sv k] w fun e w' => (∃ z, e = .returned (.int .i64 z) ∧ PlaceP k ps z) ∧ w = w' := by
  subst hln
  have H := Lib.hid h
  clear h
  go_enter Try.func75, Try.ntmps75
  go_wp2
  go_loop [5] (fun i => ∃ j : Nat, j ≤ ps.length ∧ i = .int .i64 j ∧ Hid (∀ i, i < j → (ps.getD i pv0).1.k ≠ k)) (fun i => ps.length - (intOf i).toNat)
  case atStart => exact ⟨0, by omega, rfl, Lib.hid (fun i hi => absurd hi (by omega))⟩
  case round =>
    obtain ⟨j, hj, rfl, HN⟩ := hrel
    by_cases hlj : j < ps.length
    · obtain ⟨g, a2, c2, e0, hcap, _, hc0, _⟩ := H.out.at hlj
      subst e0
      obtain ⟨e, he⟩ : ∃ e, e = (ps.getD j pv0).1.k := ⟨_, rfl⟩
      rw [← he] at hc0
      have HE := Lib.hid he
      have ilj : (j : Int) < (ps.length : Int) := by omega
      have j0 : (0 : Int) ≤ (j : Int) := by omega
      have ilc : (ps.length : Int) ≤ (c : Int) := by omega
      clear he
      by_cases hk : e = k
      · have hq : (e == k) = true := by rw [hk]; exact beq_self_eq_true k
        have HP : Hid (PlaceP k ps (j : Int)) := Lib.hid (.inr ⟨j, hlj, rfl, by rw [← HE.out]; exact hk⟩)
        clear hk
        go_wp2
        go_ret
        exact ⟨⟨_, rfl, HP.out⟩, rfl⟩
      · have hq : (e == k) = false := beq_eq_false_iff_ne.2 hk
        have HN2 : Hid (∀ i, i < j + 1 → (ps.getD i pv0).1.k ≠ k) := Lib.hid (fun i hi => by
          rcases Nat.lt_or_ge i j with h | h
          · exact HN.out i h
          · rw [show i = j by omega, ← HE.out]; exact hk)
        clear hk
        go_wp2
        go_round
        case rel => exact ⟨j + 1, by omega, by go_num, HN2⟩
        case measure => simp [intOf]; omega
    · have HP : Hid (PlaceP k ps (-1)) := Lib.hid (.inl ⟨rfl, fun x hx => by
        obtain ⟨i, hi, rfl⟩ := List.getElem_of_mem hx
        have := HN.out i (by omega)
        rwa [List.getD_eq_getElem?_getD, List.getElem?_eq_getElem hi] at this⟩)
      have ilj : ¬ ((j : Int) < (ps.length : Int)) := by omega
      go_wp2
      go_ret
      exact ⟨⟨_, rfl, HP.out⟩, rfl⟩
theorem used_take {l : List Pr} {j : Nat} (hj : j < l.length) : usedP (l.take (j + 1)) = usedP (l.take j) + szP (l.getD j pr0) := by
  rw [List.take_add_one, List.getElem?_eq_getElem hj, used_app, List.getD_eq_getElem?_getD, List.getElem?_eq_getElem hj]
  simp [usedP]
theorem used_take_le (l : List Pr) (j : Nat) : usedP (l.take j) ≤ usedP l := by
  have h1 := used_app (l.take j) (l.drop j)
  rw [List.take_append_drop] at h1
  omega
set_option maxRecDepth 100000 in
set_option maxHeartbeats 1000000 in
theorem rused_c (F : Nat → Prop) (B : Nat) (ao : Option Addr) (n c : Nat) (ps : List Pv) (w : World) (h : PsV w F B (.slice ao n c) ps) (hn : ps.length ≤ 134217728) (hln : n = ps.length) (hu : usedP (ps.map (·.1)) ≤ 1099511627776) :
    Calls Try.prog 74 #[.slice ao n c] w fun e w' => e = .returned (.int .i64 (usedP (ps.map (·.1)) : Nat)) ∧ Tch Non w w' := by
  subst hln
  have H := Lib.hid h
  have HU := Lib.hid hu
  clear h hu
  go_enter Try.func74, Try.ntmps74
  go_wp2
  go_loopw [3, 4] (fun t i wr => ∃ j t0 : Nat, j ≤ ps.length ∧ i = .int .i64 j ∧ t = .int .i64 t0 ∧ Hid (t0 = usedP ((ps.map (·.1)).take j)) ∧ Hid (Tch Non w wr)) (fun _ i _ => ps.length - (intOf i).toNat)
  case atStart => exact ⟨0, 0, by omega, rfl, rfl, Lib.hid rfl, Lib.hid (Tch.refl _ _)⟩
  case round =>
    obtain ⟨j, t0, hj, rfl, rfl, HT, HW⟩ := hrel
    by_cases hlj : j < ps.length
    · have hP := H.out.tch HW.out (fun _ _ h => h) (fun _ h => h.elim)
      obtain ⟨g, a2, c2, e0, hcap, _, hc0, hc1, _, hrow⟩ := hP.at hlj
      subst e0
      have hut := used_take (l := ps.map (·.1)) (j := j) (by simpa using hlj)
      have hle := used_take_le (ps.map (·.1)) (j + 1)
      rw [map_getD ps hlj] at hut
      simp only [szP] at hut
      obtain ⟨e, he⟩ : ∃ e, e = (ps.getD j pv0).1 := ⟨_, rfl⟩
      rw [← he] at hc0 hc1 hut
      have hbt : t0 + e.k.length + e.b.length ≤ 1099511627776 := by have := HT.out; have := HU.out; omega
      have HT2 : Hid (t0 + e.k.length + e.b.length = usedP ((ps.map (·.1)).take (j + 1))) := Lib.hid (by have := HT.out; omega)
      obtain ⟨kl, hkl⟩ : ∃ kl, kl = e.k.length := ⟨_, rfl⟩
      obtain ⟨bl, hbl⟩ : ∃ bl, bl = e.b.length := ⟨_, rfl⟩
      have w1 : ∀ [Inhabited Nat], IntKind.i64.wrap ((t0 : Int) + (e.k.length : Int)) = (t0 : Int) + (e.k.length : Int) := by intro _; exact IntWalk.i64_in _ (by omega)
      have w2 : ∀ [Inhabited Nat], IntKind.i64.wrap ((t0 : Int) + (e.k.length : Int) + (e.b.length : Int)) = (t0 : Int) + (e.k.length : Int) + (e.b.length : Int) := by intro _; exact IntWalk.i64_in _ (by omega)
      have ilj : (j : Int) < (ps.length : Int) := by omega
      have j0 : (0 : Int) ≤ (j : Int) := by omega
      have ilc : (ps.length : Int) ≤ (c : Int) := by omega
      clear hP he hut hle hrow hkl hbl
      go_wp2_with fail
      go_quiet (fail)
      have HW2 := Lib.hid (HW.out.trans (tch_new (bl_dn (Below.refl wr.heap.size wr) nq)))
      go_wp2
      go_roundw
      case rel => exact ⟨j + 1, t0 + e.k.length + e.b.length, by omega, by go_num, by go_num, HT2, HW2⟩
      case measure => simp [intOf]; omega
    · have hjn : j = ps.length := by omega
      have HE : Hid (t0 = usedP (ps.map (·.1))) := Lib.hid (by rw [HT.out, List.take_of_length_le (by simp; omega)])
      have ilj : ¬ ((j : Int) < (ps.length : Int)) := by omega
      go_wp2
      go_ret
      exact ⟨by rw [HE.out]; rfl, HW.out⟩
end Go.Proofs.Ytpbgccidhpfmgaa
