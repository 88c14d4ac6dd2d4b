/- Scripts in memory; the contract of the statements' long. Conditions: those stated. -/
import Derived.Test.YthoegmcdohppoaaWkO
import Derived.Deep.CutRange
namespace Go.Proofs.Ythoegmcdohppoaa
open Go Go.RowKit
set_option linter.unusedVariables false
set_option linter.unusedSimpArgs false

/-- A call of a script. -/
structure OpW where
  kind : Int
  time : Int
  ao : Option Addr
  n : Nat
  cap : Nat
  ks : List Int
def opW : OpW := ⟨0, 0, none, 0, 0, []⟩
instance : Inhabited OpW := ⟨opW⟩
def OpW.cs (o : OpW) : List Value := [.int .i64 o.kind, .int .i64 o.time, .slice o.ao o.n o.cap]
/-- A script that came in. -/
structure SWIn (w : World) (ao : Option Addr) (n : Nat) (os : List OpW) : Prop where
  len : os.length = n
  here : n = 0 ∨ ∃ b off, ao = some ⟨b, off, none⟩ ∧ ∀ j, j < n → ∀ i, i < 3 → w.cell? ⟨b, off + j * 3 + i, none⟩ = ((os.getD j opW).cs)[i]?
  rows : ∀ j, j < n → InI w (os.getD j opW).ao (os.getD j opW).n (os.getD j opW).cap (os.getD j opW).ks
  ints : ∀ j, j < n → I64 (os.getD j opW).time
theorem oW_some (o : OpW) {i : Nat} (hi : i < 3) : ∃ u, (o.cs)[i]? = some u := ⟨_, List.getElem?_eq_getElem (by simp [OpW.cs]; omega)⟩
theorem SWIn.below {w w' : World} {ao : Option Addr} {n : Nat} {os : List OpW} (h : SWIn w ao n os) (hb : Below w.heap.size w w') : SWIn w' ao n os :=
  ⟨h.len, h.here.imp id (fun ⟨b, off, e, hc⟩ => ⟨b, off, e, fun j hj i hi => by
    obtain ⟨u, hu⟩ := oW_some (os.getD j opW) hi
    have := hc j hj i hi
    rw [hu] at this ⊢
    exact cell_later hb this⟩), fun j hj => (h.rows j hj).below hb, h.ints⟩
theorem SWIn.cells {w : World} {b off n : Nat} {os : List OpW} (h : SWIn w (some ⟨b, off, none⟩) n os) {j : Nat} (hj : j < n) {o : OpW} (ho : os.getD j opW = o) :
    w.cell? ⟨b, off + j * 3, none⟩ = some (.int .i64 o.kind) ∧ w.cell? ⟨b, off + j * 3 + 1, none⟩ = some (.int .i64 o.time) ∧ w.cell? ⟨b, off + j * 3 + 2, none⟩ = some (.slice o.ao o.n o.cap) := by
  subst ho
  rcases h.here with h0 | ⟨b', off', e, hc⟩
  · omega
  · cases e
    exact ⟨hc j hj 0 (by omega), hc j hj 1 (by omega), hc j hj 2 (by omega)⟩
theorem SWIn.block {w : World} {n : Nat} {ao : Option Addr} {os : List OpW} (h : SWIn w ao n os) (hn : 0 < n) : ∃ b off, ao = some ⟨b, off, none⟩ := by
  rcases h.here with h0 | ⟨b, off, e, _⟩
  · omega
  · exact ⟨b, off, e⟩
/-- A call in a cell of its own. -/
abbrev tyO : TypeId := 37
abbrev obW (o : OpW) : Obj := .cells #[.int .i64 o.kind, .int .i64 o.time, .slice o.ao o.n o.cap] tyO (0, 0)
def OxW (w : World) (p : Nat) (o : OpW) : Prop := w.heap[p]? = some (obW o)
theorem OxW.cell {w : World} {p : Nat} {o : OpW} (h : OxW w p o) : w.cell? ⟨p, 0, none⟩ = some (.int .i64 o.kind) ∧ w.cell? ⟨p, 1, none⟩ = some (.int .i64 o.time) ∧ w.cell? ⟨p, 2, none⟩ = some (.slice o.ao o.n o.cap) := by
  refine ⟨?_, ?_, ?_⟩ <;> (rw [cell_of_row w p _ _ _ _ h]; rfl)
abbrev WOpW (w : World) (o : OpW) : World := w.alloc (.cells #[.int .i64 o.kind, .int .i64 o.time, .slice o.ao o.n o.cap] tyO)
theorem OxW.new (w : World) (o : OpW) : OxW (WOpW w o) w.heap.size o := heap_alloc_new w _
/-- What long answers. -/
def LongW (w : World) (n : Nat) (os : List OpW) (e : Ending) (w' : World) : Prop := ∃ z, e = .returned (.bool z) ∧ Below w.heap.size w w' ∧ (z = false → n ≤ 800 ∧ ∀ j, j < n → (os.getD j opW).n ≤ 800)
set_option maxRecDepth 100000 in
set_option maxHeartbeats 1000000 in
theorem longW_t (ao : Option Addr) (n c : Nat) (os : List OpW) (w : World) (hI : SWIn w ao n os) (hn : n ≤ 1152921504606846976) (hl : ∀ j, j < n → (os.getD j opW).n ≤ 1152921504606846976) :
    Calls Try.prog 11 #[.slice ao n c] w (LongW w n os) := by
  have HI := Lib.hid hI
  have HL := Lib.hid hl
  have HB0 := Lib.hid (Below.refl w.heap.size w)
  have F0 : Hid (∀ i, i < 0 → (os.getD i opW).n ≤ 800) := Lib.hid (fun i hi => absurd hi (by omega))
  clear hI hl
  go_enter Try.func11, Try.ntmps11
  go_wp2
  go_loopw [3, 8] (fun t i wr => ∃ j s : Nat, j ≤ n ∧ i = .int .i64 j ∧ t = .int .i64 s ∧ s ≤ 800 ∧ j ≤ s ∧ Hid (∀ i, i < j → (os.getD i opW).n ≤ 800) ∧ Hid (Below w.heap.size w wr)) (fun _ i _ => n - (intOf i).toNat)
  case atStart => exact ⟨0, 0, by omega, rfl, rfl, by omega, by omega, F0, HB0⟩
  case round =>
    obtain ⟨j, s, hj, rfl, rfl, hs, hjs, HF, HB⟩ := hrel
    clear F0 HB0
    by_cases hlj : j < n
    · have hIr := HI.out.below HB.out
      obtain ⟨b, off, rfl⟩ := hIr.block (by omega)
      obtain ⟨o, ho⟩ : ∃ o, o = os.getD j opW := ⟨_, rfl⟩
      obtain ⟨e0, e1, e2⟩ := hIr.cells hlj ho.symm
      have hll := HL.out j hlj
      rw [← ho] at hll
      have HHO := Lib.hid ho
      obtain ⟨X, hX⟩ : ∃ X, X = WOpW wr o := ⟨_, rfl⟩
      have hox : OxW X wr.heap.size o := by rw [hX]; exact OxW.new wr o
      have hbX : Below wr.heap.size wr X := by rw [hX]; exact bl_al (Below.refl _ _) _
      obtain ⟨q, hq⟩ : ∃ q, q = wr.heap.size := ⟨_, rfl⟩
      rw [← hq] at hox
      obtain ⟨_, _, c5⟩ := hox.cell
      obtain ⟨kind, time, ra, rn, rc, ks⟩ := o
      simp only at e0 e1 e2 c5 hll
      have ilj : (j : Int) < (n : Int) := by omega
      have j0 : (0 : Int) ≤ (j : Int) := by omega
      have HBX := Lib.hid (HB.out.trans (hbX.mono HB.out.size))
      obtain ⟨T, hT⟩ : ∃ T : Nat, T = s + (1 + rn) := ⟨_, rfl⟩
      have HX := Lib.hid (show X = wr.alloc (.cells #[.int .i64 kind, .int .i64 time, .slice ra rn rc] 37) from hX)
      have HQ := Lib.hid hq
      have HT := Lib.hid hT
      clear hIr ho hX hox hbX hq hT
      go_upto_region 5 with fail
      rw [← HX.out, ← HQ.out]
      clear HX HQ e0 e1 e2
      go_upto_region 6 with fail
      rw [show (s : Int) + (1 + (rn : Int)) = (T : Int) by have := HT.out; omega]
      clear c5
      have hTj : j + 1 ≤ T := by have := HT.out; omega
      have HFT : Hid (T ≤ 800 → (os.getD j opW).n ≤ 800) := Lib.hid (fun h => by
        rw [← HHO.out]
        have := HT.out
        show rn ≤ 800
        omega)
      by_cases hg : 800 < T
      · have ig : (800 : Int) < (T : Int) := by omega
        clear hg
        go_wp2
        go_ret
        exact ⟨true, rfl, HBX.out, fun h => by cases h⟩
      · have ig : ¬ ((800 : Int) < (T : Int)) := by omega
        have hT16 : T ≤ 800 := by omega
        have HF2 : Hid (∀ i, i < j + 1 → (os.getD i opW).n ≤ 800) := Lib.hid (fun i hi => by
          rcases Nat.lt_or_ge i j with h | h
          · exact HF.out i h
          · rw [show i = j by omega]
            exact HFT.out hT16)
        clear hg
        go_wp2
        go_roundw
        case rel => exact ⟨j + 1, T, by omega, by go_num, rfl, hT16, hTj, HF2, HBX⟩
        case measure => simp [intOf]; omega
    · have ilj : ¬ ((j : Int) < (n : Int)) := by omega
      have HN : Hid (n ≤ 800) := Lib.hid (by omega)
      have HJN : Hid (j = n) := Lib.hid (by omega)
      clear hlj
      go_wp2
      go_ret
      exact ⟨false, rfl, HB.out, fun _ => ⟨HN.out, fun i hi => HF.out i (by rw [HJN.out]; exact hi)⟩⟩
end Go.Proofs.Ythoegmcdohppoaa
