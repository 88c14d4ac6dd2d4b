/- Scripts in memory; the contract of the statements' long. Conditions: those stated. -/
import Derived.Test.YtkiccdgfhahdlaaFEm
import Derived.Deep.CutRange
namespace Go.Proofs.Ytkiccdgfhahdlaa
open Go Go.RowKit
set_option linter.unusedVariables false
set_option linter.unusedSimpArgs false

/-- A call of a script. -/
structure Op8 where
  kind : Int
  frm : Int
  dst : Int
  ctl : Bool
  num : Int
  ao : Option Addr
  n : Nat
  cap : Nat
  bs : List Int
def op8 : Op8 := ⟨0, 0, 0, false, 0, none, 0, 0, []⟩
instance : Inhabited Op8 := ⟨op8⟩
def Op8.cs (o : Op8) : List Value := [.int .i64 o.kind, .int .i64 o.frm, .int .i64 o.dst, .bool o.ctl, .int .i64 o.num, .slice o.ao o.n o.cap]
/-- A script that came in. -/
structure S8In (w : World) (ao : Option Addr) (n : Nat) (os : List Op8) : Prop where
  len : os.length = n
  here : n = 0 ∨ ∃ b off, ao = some ⟨b, off, none⟩ ∧ ∀ j, j < n → ∀ i, i < 6 → w.cell? ⟨b, off + j * 6 + i, none⟩ = ((os.getD j op8).cs)[i]?
  rows : ∀ j, j < n → In w (os.getD j op8).ao (os.getD j op8).n (os.getD j op8).cap (os.getD j op8).bs
  ints : ∀ j, j < n → I64 (os.getD j op8).frm ∧ I64 (os.getD j op8).dst ∧ I64 (os.getD j op8).num
theorem o8_some (o : Op8) {i : Nat} (hi : i < 6) : ∃ u, (o.cs)[i]? = some u := ⟨_, List.getElem?_eq_getElem (by simp [Op8.cs]; omega)⟩
theorem S8In.below {w w' : World} {ao : Option Addr} {n : Nat} {os : List Op8} (h : S8In w ao n os) (hb : Below w.heap.size w w') : S8In w' ao n os :=
  ⟨h.len, h.here.imp id (fun ⟨b, off, e, hc⟩ => ⟨b, off, e, fun j hj i hi => by
    obtain ⟨u, hu⟩ := o8_some (os.getD j op8) hi
    have := hc j hj i hi
    rw [hu] at this ⊢
    exact cell_later hb this⟩), fun j hj => (h.rows j hj).below hb, h.ints⟩
/-- The cells of a call. -/
theorem S8In.cells {w : World} {b off n : Nat} {os : List Op8} (h : S8In w (some ⟨b, off, none⟩) n os) {j : Nat} (hj : j < n) {o : Op8} (ho : os.getD j op8 = o) :
    w.cell? ⟨b, off + j * 6, none⟩ = some (.int .i64 o.kind) ∧ w.cell? ⟨b, off + j * 6 + 1, none⟩ = some (.int .i64 o.frm) ∧ w.cell? ⟨b, off + j * 6 + 2, none⟩ = some (.int .i64 o.dst) ∧ w.cell? ⟨b, off + j * 6 + 3, none⟩ = some (.bool o.ctl) ∧ w.cell? ⟨b, off + j * 6 + 4, none⟩ = some (.int .i64 o.num) ∧ w.cell? ⟨b, off + j * 6 + 5, none⟩ = some (.slice o.ao o.n o.cap) := by
  subst ho
  rcases h.here with h0 | ⟨b', off', e, hc⟩
  · omega
  · cases e
    exact ⟨hc j hj 0 (by omega), hc j hj 1 (by omega), hc j hj 2 (by omega), hc j hj 3 (by omega), hc j hj 4 (by omega), hc j hj 5 (by omega)⟩
theorem S8In.block {w : World} {n : Nat} {ao : Option Addr} {os : List Op8} (h : S8In w ao n os) (hn : 0 < n) : ∃ b off, ao = some ⟨b, off, none⟩ := by
  rcases h.here with h0 | ⟨b, off, e, _⟩
  · omega
  · exact ⟨b, off, e⟩
/-- A call in a cell of its own. -/
def Ox (w : World) (p : Nat) (o : Op8) : Prop := w.heap[p]? = some (.cells #[.int .i64 o.kind, .int .i64 o.frm, .int .i64 o.dst, .bool o.ctl, .int .i64 o.num, .slice o.ao o.n o.cap] 33 (0, 0))
theorem Ox.cell {w : World} {p : Nat} {o : Op8} (h : Ox w p o) : w.cell? ⟨p, 0, none⟩ = some (.int .i64 o.kind) ∧ w.cell? ⟨p, 1, none⟩ = some (.int .i64 o.frm) ∧ w.cell? ⟨p, 2, none⟩ = some (.int .i64 o.dst) ∧ w.cell? ⟨p, 3, none⟩ = some (.bool o.ctl) ∧ w.cell? ⟨p, 4, none⟩ = some (.int .i64 o.num) ∧ w.cell? ⟨p, 5, none⟩ = some (.slice o.ao o.n o.cap) := by
  refine ⟨?_, ?_, ?_, ?_, ?_, ?_⟩ <;> (rw [cell_of_row w p _ _ _ _ h]; rfl)
theorem Ox.keep {T : Nat → Prop} {w w' : World} {p : Nat} {o : Op8} (h : Ox w p o) (ht : Tch T w w') (hn : ¬ T p) : Ox w' p o := ht.at h hn
abbrev WOp (w : World) (o : Op8) : World := w.alloc (.cells #[.int .i64 o.kind, .int .i64 o.frm, .int .i64 o.dst, .bool o.ctl, .int .i64 o.num, .slice o.ao o.n o.cap] 33)
theorem Ox.new (w : World) (o : Op8) : Ox (WOp w o) w.heap.size o := heap_alloc_new w _
/-- What long answers. -/
def LongO (w : World) (n : Nat) (os : List Op8) (e : Ending) (w' : World) : Prop := ∃ z, e = .returned (.bool z) ∧ Below w.heap.size w w' ∧ (z = false → n ≤ 700 ∧ ∀ j, j < n → (os.getD j op8).n ≤ 1048576)
set_option maxRecDepth 100000 in
set_option maxHeartbeats 1000000 in
theorem long8_t (ao : Option Addr) (n c : Nat) (os : List Op8) (w : World) (hI : S8In w ao n os) (hn : n ≤ 1152921504606846976) (hl : ∀ j, j < n → (os.getD j op8).n ≤ 1152921504606846976) :
    Calls Try.prog 10 #[.slice ao n c] w (LongO w n os) := by
  have HI := Lib.hid hI
  have HL := Lib.hid hl
  have HB0 := Lib.hid (Below.refl w.heap.size w)
  have F0 : Hid (∀ i, i < 0 → (os.getD i op8).n ≤ 1048576) := Lib.hid (fun i hi => absurd hi (by omega))
  clear hI hl
  go_enter Try.func10, Try.ntmps10
  go_wp2
  go_loopw [3, 8] (fun t i wr => ∃ j s : Nat, j ≤ n ∧ i = .int .i64 j ∧ t = .int .i64 s ∧ s ≤ 700 ∧ j ≤ s ∧ Hid (∀ i, i < j → (os.getD i op8).n ≤ 1048576) ∧ Hid (Below w.heap.size w wr)) (fun _ i _ => n - (intOf i).toNat)
  case atStart => exact ⟨0, 0, by omega, rfl, rfl, by omega, by omega, F0, HB0⟩
  case round =>
    obtain ⟨j, s, hj, rfl, rfl, hs, hjs, HF, HB⟩ := hrel
    clear F0 HB0
    by_cases hlj : j < n
    · have hIr := HI.out.below HB.out
      obtain ⟨b, off, rfl⟩ := hIr.block (by omega)
      obtain ⟨o, ho⟩ : ∃ o, o = os.getD j op8 := ⟨_, rfl⟩
      obtain ⟨e0, e1, e2, e3, e4, e5⟩ := hIr.cells hlj ho.symm
      have hll := HL.out j hlj
      rw [← ho] at hll
      have HHO := Lib.hid ho
      obtain ⟨X, hX⟩ : ∃ X, X = WOp wr o := ⟨_, rfl⟩
      have hox : Ox X wr.heap.size o := by rw [hX]; exact Ox.new wr o
      have hbX : Below wr.heap.size wr X := by rw [hX]; exact bl_al (Below.refl _ _) _
      obtain ⟨q, hq⟩ : ∃ q, q = wr.heap.size := ⟨_, rfl⟩
      rw [← hq] at hox
      obtain ⟨_, _, _, _, _, c5⟩ := hox.cell
      obtain ⟨kind, frm, dst, ctl, num, ra, rn, rc, bs⟩ := o
      simp only at e0 e1 e2 e3 e4 e5 c5 hll
      have ilj : (j : Int) < (n : Int) := by omega
      have j0 : (0 : Int) ≤ (j : Int) := by omega
      have HBX := Lib.hid (HB.out.trans (hbX.mono HB.out.size))
      obtain ⟨T, hT⟩ : ∃ T : Nat, T = s + (1 + rn / 64) := ⟨_, rfl⟩
      have hw : ∀ [Inhabited Nat], IntKind.i64.wrap ((s : Int) + IntKind.i64.wrap (1 + IntKind.i64.wrap ((rn : Int) / 64))) = (T : Int) := by
        intro _
        rw [IntWalk.i64_in ((rn : Int) / 64) (by omega), IntWalk.i64_in (1 + (rn : Int) / 64) (by omega), IntWalk.i64_in _ (by omega)]
        omega
      have HX := Lib.hid (show X = wr.alloc (.cells #[.int .i64 kind, .int .i64 frm, .int .i64 dst, .bool ctl, .int .i64 num, .slice ra rn rc] 33) from hX)
      have HQ := Lib.hid hq
      have HT := Lib.hid hT
      have HW := Lib.hid hw
      clear hIr ho hX hox hbX hq hT hw
      go_upto_region 5 with fail
      rw [← HX.out, ← HQ.out]
      clear HX HQ e0 e1 e2 e3 e4 e5
      go_upto_region 6 with fail
      rw [show (s : Int) + (1 + (rn : Int) / 64) = (T : Int) by have := HT.out; omega]
      clear HW c5
      have hTj : j + 1 ≤ T := by have := HT.out; omega
      have HFT : Hid (T ≤ 700 → (os.getD j op8).n ≤ 1048576) := Lib.hid (fun h => by
        rw [← HHO.out]
        show rn ≤ 1048576
        have := HT.out
        omega)
      by_cases hg : 700 < T
      · have ig : (700 : Int) < (T : Int) := by omega
        clear hg
        go_wp2
        go_ret
        exact ⟨true, rfl, HBX.out, fun h => by cases h⟩
      · have ig : ¬ ((700 : Int) < (T : Int)) := by omega
        have hT16 : T ≤ 700 := by omega
        have HF2 : Hid (∀ i, i < j + 1 → (os.getD i op8).n ≤ 1048576) := Lib.hid (fun i hi => by
          rcases Nat.lt_or_ge i j with h | h
          · exact HF.out i h
          · rw [show i = j by omega]
            exact HFT.out hT16)
        clear hg
        go_wp2
        go_roundw
        case rel => exact ⟨j + 1, T, by omega, by go_num, rfl, hT16, hTj, HF2, HBX⟩
        case measure => simp [intOf]; omega
    · have ilj : ¬ ((j : Int) < (n : Int)) := by omega
      have HN : Hid (n ≤ 700) := Lib.hid (by omega)
      have HJN : Hid (j = n) := Lib.hid (by omega)
      clear hlj
      go_wp2
      go_ret
      exact ⟨false, rfl, HB.out, fun _ => ⟨HN.out, fun i hi => HF.out i (by rw [HJN.out]; exact hi)⟩⟩
end Go.Proofs.Ytkiccdgfhahdlaa
