/- Scripts in memory; the contract of the statements' long. Conditions: those stated. -/
import Derived.Test.YtdjeacmonlgdhaaRsq
import Derived.Deep.RegionHeld3
import Derived.Deep.CutRange
namespace Go.Proofs.Ytdjeacmonlgdhaa
open Go Go.RowKit
set_option linter.unusedVariables false
set_option linter.unusedSimpArgs false

/-- A call of a script: its kind, its rows as they lie, the rows' values, the rows, a number. -/
structure Opv where
  kind : Int
  ao : Option Addr
  n : Nat
  cap : Nat
  us : List Value
  ps : List (List Int)
  num : Int
def op0 : Opv := ⟨0, none, 0, 0, [], [], 0⟩
abbrev Opv.cs (o : Opv) : Array Value := #[.int .i64 o.kind, .slice o.ao o.n o.cap, .int .i64 o.num]
/-- A script that came in. -/
structure ScrIn (w : World) (ao : Option Addr) (n : Nat) (os : List Opv) : Prop where
  len : os.length = n
  here : n = 0 ∨ ∃ b off, ao = some ⟨b, off, none⟩ ∧ ∀ j, j < n → w.cell? ⟨b, off + j * 3, none⟩ = some (.int .i64 (os.getD j op0).kind) ∧ w.cell? ⟨b, off + j * 3 + 1, none⟩ = some (.slice (os.getD j op0).ao (os.getD j op0).n (os.getD j op0).cap) ∧ w.cell? ⟨b, off + j * 3 + 2, none⟩ = some (.int .i64 (os.getD j op0).num)
  rows : ∀ j, j < n → RsIn w (os.getD j op0).ao (os.getD j op0).n (os.getD j op0).cap (os.getD j op0).us (os.getD j op0).ps
theorem ScrIn.below {w w' : World} {ao : Option Addr} {n : Nat} {os : List Opv} (h : ScrIn w ao n os) (hb : Below w.heap.size w w') : ScrIn w' ao n os :=
  ⟨h.len, h.here.imp id (fun ⟨b, off, e, hc⟩ => ⟨b, off, e, fun j hj => by
    obtain ⟨h0, h1, h2⟩ := hc j hj
    exact ⟨cell_later hb h0, cell_later hb h1, cell_later hb h2⟩⟩), fun j hj => (h.rows j hj).below hb⟩
/-- Few enough: what a script that isn't long keeps to. -/
def Few (o : Opv) : Prop := o.n ≤ 16384 ∧ ∀ p ∈ o.ps, p.length ≤ 1048576
/-- What long answers. -/
def LongOut (w : World) (n : Nat) (os : List Opv) (e : Ending) (w' : World) : Prop := ∃ z, e = .returned (.bool z) ∧ Below w.heap.size w w' ∧ (z = false → n ≤ 16384 ∧ ∀ j, j < n → Few (os.getD j op0))
set_option maxRecDepth 100000 in
set_option maxHeartbeats 1000000 in
theorem long_t (ao : Option Addr) (n c : Nat) (os : List Opv) (w : World) (hI : ScrIn w ao n os) (hn : n ≤ 1152921504606846976) (hl : ∀ j, j < n → (os.getD j op0).n ≤ 1152921504606846976 ∧ ∀ p ∈ (os.getD j op0).ps, p.length ≤ 4611686018427387904) :
    Calls Try.prog 11 #[.slice ao n c] w (LongOut w n os) := by
  have HI := Lib.hid hI
  have HL := Lib.hid hl
  have HB0 := Lib.hid (Below.refl w.heap.size w)
  have F0 : Hid (∀ i, i < 0 → Few (os.getD i op0)) := Lib.hid (fun i hi => absurd hi (by omega))
  clear hI hl
  go_enter Try.func11, Try.ntmps11
  go_wp2
  go_loopw [3, 8] (fun t i wr => ∃ j s : Nat, j ≤ n ∧ i = .int .i64 j ∧ t = .int .i64 s ∧ s ≤ 16384 ∧ j ≤ s ∧ Hid (∀ i, i < j → Few (os.getD i op0)) ∧ Hid (Below w.heap.size w wr)) (fun _ i _ => n - (intOf i).toNat)
  case atStart => exact ⟨0, 0, by omega, rfl, rfl, by omega, by omega, F0, HB0⟩
  case round =>
    obtain ⟨j, s, hj, rfl, rfl, hs, hjs, HF, HB⟩ := hrel
    clear F0 HB0
    by_cases hlj : j < n
    · have hIr := HI.out.below HB.out
      rcases hIr.here with h0 | ⟨b, off, rfl, hc⟩
      · omega
      obtain ⟨e0, e1, e2⟩ := hc j hlj
      have hro := hIr.rows j hlj
      have hll := HL.out j hlj
      obtain ⟨o, ho⟩ : ∃ o, o = os.getD j op0 := ⟨_, rfl⟩
      rw [← ho] at e0 e1 e2 hro hll
      obtain ⟨kind, ra, rn, rc, us, ps, num⟩ := o
      simp only at e0 e1 e2 hro hll
      have ilj : (j : Int) < (n : Int) := by omega
      have j0 : (0 : Int) ≤ (j : Int) := by omega
      have HRO := Lib.hid hro
      have HHO := Lib.hid ho
      have HLL := Lib.hid hll
      clear hc hro hll ho hIr
      go_wp2_with fail
      obtain ⟨X, hX⟩ : ∃ X, X = wr.alloc (.cells #[.int .i64 kind, .slice ra rn rc, .int .i64 num] 37) := ⟨_, rfl⟩
      obtain ⟨q, hq⟩ : ∃ q, q = wr.heap.size := ⟨_, rfl⟩
      have hbX : Below wr.heap.size wr X := by rw [hX]; exact bl_al (Below.refl _ _) _
      have hc1 : X.cell? ⟨q, 1, none⟩ = some (.slice ra rn rc) := by
        rw [hX, hq]
        exact cells_new wr [.int .i64 kind, .slice ra rn rc, .int .i64 num] _ (0, 0) 1 _ rfl
      rw [← hX, ← hq]
      have HBX := Lib.hid (bl_tr HB.out hbX)
      have HRX := Lib.hid (HRO.out.below hbX)
      have hS0 : X.drew.cell? ⟨q, 1, none⟩ = some (.slice ra rn rc) := hc1
      have CS : Hid (∀ U, Below X.heap.size X U → Calls Try.prog 32 #[.slice ra rn rc, .int .i64 1048576] U fun e w' => ∃ s' : Nat, e = .returned (.int .i64 s') ∧ SumOut ps 1048576 s' ∧ U = w') := Lib.hid (fun U (hU : Below X.heap.size X U) => sum_t us ps ra rn rc 1048576 U ((HRX.out.below hU).rsd) (by omega) (by have := HLL.out.1; omega) HLL.out.2)
      have hd0 : Below X.heap.size X X.drew := (Below.refl _ _).drew
      have hrn : rn ≤ 1152921504606846976 := HLL.out.1
      have v1 : ∀ [Inhabited Nat], IntKind.i64.wrap (1 + (rn : Int)) = 1 + (rn : Int) := by intro _; exact IntWalk.i64_in _ (by omega)
      clear hX hq hbX hc1 HRO HRX HB e0 e1 e2
      go_region_held3 (fun wx => wx.cell? ⟨q, 1, none⟩ = some (.slice ra rn rc)) (first | (with_reducible exact hS0) | (with_reducible assumption) | fail)
        (first | (go_at_call 32; (with_reducible refine (CS.out _ hd0).mono ?_); rintro e w' ⟨s', rfl, hso, rfl⟩) | fail)
      rename_i hHeld
      have hsm : s' ≤ 1048576 := by rcases hso with ⟨h, h2⟩ | ⟨h, _⟩ <;> omega
      obtain ⟨T, hT⟩ : ∃ T : Nat, T = s + (1 + rn + s' / 64) := ⟨_, rfl⟩
      have hw : ∀ [Inhabited Nat], IntKind.i64.wrap ((s : Int) + IntKind.i64.wrap (1 + (rn : Int) + IntKind.i64.wrap ((s' : Int) / 64))) = (T : Int) := by
        intro _
        rw [IntWalk.i64_in ((s' : Int) / 64) (by omega), IntWalk.i64_in (1 + (rn : Int) + (s' : Int) / 64) (by omega), IntWalk.i64_in _ (by omega)]
        omega
      rw [hw]
      have HBD := Lib.hid (HBX.out.drew)
      have hFT : T ≤ 16384 → Few ⟨kind, ra, rn, rc, us, ps, num⟩ := fun h => ⟨by show rn ≤ 16384; omega, fun p hp => by
        have h1 : p.length ≤ tot ps := tot_mem hp
        rcases hso with ⟨h2, h3⟩ | ⟨h2, h3⟩
        · omega
        · omega⟩
      rw [HHO.out] at hFT
      have HFT := Lib.hid hFT
      have hTj : j + 1 ≤ T := by omega
      clear hHeld hso hw hS0 hd0 CS v1 hFT
      by_cases hg : 16384 < T
      · have ig : (16384 : Int) < (T : Int) := by omega
        clear hT hg
        go_wp2
        go_ret
        exact ⟨true, rfl, HBD.out, fun h => by cases h⟩
      · have ig : ¬ ((16384 : Int) < (T : Int)) := by omega
        have hT16 : T ≤ 16384 := by omega
        have HF2 : Hid (∀ i, i < j + 1 → Few (os.getD i op0)) := Lib.hid (fun i hi => by
          rcases Nat.lt_or_ge i j with h | h
          · exact HF.out i h
          · rw [show i = j by omega]
            exact HFT.out hT16)
        clear hT hg
        go_wp2
        go_roundw
        case rel => exact ⟨j + 1, T, by omega, by go_num, rfl, hT16, hTj, HF2, HBD⟩
        case measure => simp [intOf]; omega
    · have ilj : ¬ ((j : Int) < (n : Int)) := by omega
      have HN : Hid (n ≤ 16384) := Lib.hid (by omega)
      have HJN : Hid (j = n) := Lib.hid (by omega)
      clear hlj
      go_wp2
      go_ret
      exact ⟨false, rfl, HB.out, fun _ => ⟨HN.out, fun i hi => HF.out i (by rw [HJN.out]; exact hi)⟩⟩
end Go.Proofs.Ytdjeacmonlgdhaa
