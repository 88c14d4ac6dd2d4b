/- The document's lanes in memory; the contract of their Get. Conditions: those stated. -/
import Derived.Test.YtdjeacmonlgdhaaRqG
namespace Go.Proofs.Ytdjeacmonlgdhaa
open Go Go.RowKit
set_option linter.unusedVariables false
set_option linter.unusedSimpArgs false

/-- One queue of a block, while another cell of the block and other blocks turn. -/
theorem RfQ.side {T : Nat → Prop} {w w' : World} {B m off off2 size : Nat} {ao : Option Addr} {n c : Nat} {vs : List Value} {ps : List (List Int)} (h : RfQ w B m off size ao n c vs ps) (ho : One m off2 w w') (hne : off ≠ off2) (hne1 : off + 1 ≠ off2) (ht : Tch T w w') (hn : ∀ k, RfB ao n c vs k → ¬ T k) : RfQ w' B m off size ao n c vs ps :=
  ⟨(ho.cell off hne).trans h.c0, (ho.cell (off + 1) hne1).trans h.c1, (ho.free off).trans h.free, ht.own h.own (fun g hg => hn g (.inl hg)), h.rows.keep ht (fun v hv g hg => hn g (.inr ⟨v, hv, hg⟩)), h.apart, h.far, h.away, h.away0⟩
theorem RfQ.awayB {w : World} {B m off size : Nat} {ao : Option Addr} {n c : Nat} {vs : List Value} {ps : List (List Int)} (h : RfQ w B m off size ao n c vs ps) : ∀ k, RfB ao n c vs k → k ≠ m := fun k hk e => by
  subst e
  rcases hk with hk | ⟨v, hv, hk⟩
  · exact h.away0 hk
  · exact h.away v hv hk
/-- The document's lanes. -/
structure RfL (w : World) (B m size : Nat) (aU : Option Addr) (nU cU : Nat) (wU : List Value) (pU : List (List Int)) (aP : Option Addr) (nP cP : Nat) (wP : List Value) (pP : List (List Int)) : Prop where
  u : RfQ w B m 0 size aU nU cU wU pU
  p : RfQ w B m 2 size aP nP cP wP pP
  sep : ∀ k, RfB aU nU cU wU k → ¬ RfB aP nP cP wP k
/-- The blocks that they lie in, but for their own. -/
def RLB (aU : Option Addr) (nU cU : Nat) (wU : List Value) (aP : Option Addr) (nP cP : Nat) (wP : List Value) (k : Nat) : Prop := RfB aU nU cU wU k ∨ RfB aP nP cP wP k
theorem RfL.keep {T : Nat → Prop} {w w' : World} {B m size : Nat} {aU : Option Addr} {nU cU : Nat} {wU : List Value} {pU : List (List Int)} {aP : Option Addr} {nP cP : Nat} {wP : List Value} {pP : List (List Int)} (h : RfL w B m size aU nU cU wU pU aP nP cP wP pP) (ht : Tch T w w') (hm : ¬ T m) (hn : ∀ k, RLB aU nU cU wU aP nP cP wP k → ¬ T k) : RfL w' B m size aU nU cU wU pU aP nP cP wP pP :=
  ⟨h.u.keep ht hm (fun k hk => hn k (.inl hk)), h.p.keep ht hm (fun k hk => hn k (.inr hk)), h.sep⟩
theorem RfL.blocks {w : World} {B m size : Nat} {aU : Option Addr} {nU cU : Nat} {wU : List Value} {pU : List (List Int)} {aP : Option Addr} {nP cP : Nat} {wP : List Value} {pP : List (List Int)} (h : RfL w B m size aU nU cU wU pU aP nP cP wP pP) : ∀ k, RLB aU nU cU wU aP nP cP wP k → B ≤ k ∧ k < w.heap.size := fun k hk => hk.elim (h.u.blocks k) (h.p.blocks k)
theorem RfL.awayB {w : World} {B m size : Nat} {aU : Option Addr} {nU cU : Nat} {wU : List Value} {pU : List (List Int)} {aP : Option Addr} {nP cP : Nat} {wP : List Value} {pP : List (List Int)} (h : RfL w B m size aU nU cU wU pU aP nP cP wP pP) : ∀ k, RLB aU nU cU wU aP nP cP wP k → k ≠ m := fun k hk => hk.elim (h.u.awayB k) (h.p.awayB k)
theorem RfL.lt {w : World} {B m size : Nat} {aU : Option Addr} {nU cU : Nat} {wU : List Value} {pU : List (List Int)} {aP : Option Addr} {nP cP : Nat} {wP : List Value} {pP : List (List Int)} (h : RfL w B m size aU nU cU wU pU aP nP cP wP pP) : m < w.heap.size := World.block_lt_of_cell? _ _ h.u.c0
/-- The urgent lane turned. -/
theorem RfL.setU {T : Nat → Prop} {w w' : World} {B m size : Nat} {aU : Option Addr} {nU cU : Nat} {wU : List Value} {pU : List (List Int)} {aP : Option Addr} {nP cP : Nat} {wP : List Value} {pP : List (List Int)} {a' : Option Addr} {n' c' : Nat} {w2 : List Value} {p2 : List (List Int)} (h : RfL w B m size aU nU cU wU pU aP nP cP wP pP)
    (hq : RfQ w' B m 0 size a' n' c' w2 p2) (ho : One m 0 w w') (ht : Tch T w w') (hT : ∀ k, T k → k = m ∨ RfB aU nU cU wU k) (hn : ∀ k, RfB a' n' c' w2 k → RfB aU nU cU wU k ∨ w.heap.size ≤ k) : RfL w' B m size a' n' c' w2 p2 aP nP cP wP pP := by
  refine ⟨hq, h.p.side ho (by omega) (by omega) ht (fun k hk e => ?_), fun k hk hk2 => ?_⟩
  · rcases hT k e with e | e
    · exact h.p.awayB k hk e
    · exact h.sep k e hk
  · rcases hn k hk with e | e
    · exact h.sep k e hk2
    · have := (h.p.blocks k hk2).2; omega
/-- The plain lane turned. -/
theorem RfL.setP {T : Nat → Prop} {w w' : World} {B m size : Nat} {aU : Option Addr} {nU cU : Nat} {wU : List Value} {pU : List (List Int)} {aP : Option Addr} {nP cP : Nat} {wP : List Value} {pP : List (List Int)} {a' : Option Addr} {n' c' : Nat} {w2 : List Value} {p2 : List (List Int)} (h : RfL w B m size aU nU cU wU pU aP nP cP wP pP)
    (hq : RfQ w' B m 2 size a' n' c' w2 p2) (ho : One m 2 w w') (ht : Tch T w w') (hT : ∀ k, T k → k = m ∨ RfB aP nP cP wP k) (hn : ∀ k, RfB a' n' c' w2 k → RfB aP nP cP wP k ∨ w.heap.size ≤ k) : RfL w' B m size aU nU cU wU pU a' n' c' w2 p2 := by
  refine ⟨h.u.side ho (by omega) (by omega) ht (fun k hk e => ?_), hq, fun k hk hk2 => ?_⟩
  · rcases hT k e with e | e
    · exact h.u.awayB k hk e
    · exact h.sep k hk e
  · rcases hn k hk2 with e | e
    · exact h.sep k hk e
    · have := (h.u.blocks k hk).2; omega
/-- What the document's Get of lanes leaves where there is a row; L: the blocks that the lanes lay in. -/
def GotL (w : World) (B m size : Nat) (L : Nat → Prop) (v : Value) (t : Bool) (wU : List Value) (pU : List (List Int)) (wP : List Value) (pP : List (List Int)) (e : Ending) (w' : World) : Prop :=
  ∃ aU nU cU aP nP cP, e = .returned (.tuple #[v, .bool t, .bool true]) ∧ RfL w' B m size aU nU cU wU pU aP nP cP wP pP ∧ Tch (· = m) w w' ∧ ∀ k, RLB aU nU cU wU aP nP cP wP k → L k ∨ w.heap.size ≤ k
set_option maxRecDepth 100000 in
set_option maxHeartbeats 1000000 in
theorem refLGet_u (B m size nU : Nat) (aU : Option Addr) (cU : Nat) (v : Value) (vt : List Value) (x : List Int) (xt : List (List Int)) (aP : Option Addr) (nP cP : Nat) (wP : List Value) (pP : List (List Int)) (w : World) (hL : RfL w B m size aU (nU + 1) cU (v :: vt) (x :: xt) aP nP cP wP pP) (hB : B ≤ w.heap.size) (hn : nU ≤ 4096) :
    Calls Try.prog 28 #[.pointer (some ⟨m, 0, none⟩)] w (GotL w B m size (RLB aU (nU + 1) cU (v :: vt) aP nP cP wP) v true vt xt wP pP) := by
  have CG := Lib.hid (refGet_some B m 0 size nU aU cU v vt x xt w hL.u hB hn)
  have e0 := hL.u.c0
  have HL := Lib.hid hL
  clear hL
  go_enter Try.func28, Try.ntmps28
  go_wp2_with fail
  refine CG.out.mono ?_
  rintro e w1 ⟨a1, c1, rfl, hq, ho, ht, ha⟩
  have hn1 : ∀ k, RfB a1 nU c1 vt k → RfB aU (nU + 1) cU (v :: vt) k ∨ w.heap.size ≤ k := fun k hk => by
    rcases hk with hk | ⟨u, hu, hk⟩
    · exact .inr (ha k hk)
    · exact .inl (.inr ⟨u, List.mem_cons_of_mem _ hu, hk⟩)
  have HR := Lib.hid (HL.out.setU hq ho ht (fun k hk => .inl hk) hn1)
  have HT := Lib.hid ht
  have HN := Lib.hid (show ∀ k, RLB a1 nU c1 vt aP nP cP wP k → RLB aU (nU + 1) cU (v :: vt) aP nP cP wP k ∨ w.heap.size ≤ k from fun k hk => hk.elim (fun h => (hn1 k h).imp (fun h => .inl h) id) (fun h => .inl (.inr h)))
  clear hq ho ht ha hn1 CG e0
  go_wp2
  go_ret3
  exact ⟨_, _, _, _, _, _, rfl, HR.out, HT.out, HN.out⟩
set_option maxRecDepth 100000 in
set_option maxHeartbeats 1000000 in
theorem refLGet_p (B m size nP : Nat) (aU : Option Addr) (cU : Nat) (v : Value) (vt : List Value) (x : List Int) (xt : List (List Int)) (aP : Option Addr) (cP : Nat) (w : World) (hL : RfL w B m size aU 0 cU [] [] aP (nP + 1) cP (v :: vt) (x :: xt)) (hB : B ≤ w.heap.size) (hn : nP ≤ 4096) :
    Calls Try.prog 28 #[.pointer (some ⟨m, 0, none⟩)] w (GotL w B m size (RLB aU 0 cU [] aP (nP + 1) cP (v :: vt)) v false [] [] vt xt) := by
  have C0 := Lib.hid (refGet_none B m 0 size aU cU w hL.u.c0)
  have CG := Lib.hid (refGet_some B m 2 size nP aP cP v vt x xt w hL.p hB hn)
  have e0 := hL.u.c0
  have e2 := hL.p.c0
  have HL := Lib.hid hL
  clear hL
  go_enter Try.func28, Try.ntmps28
  go_wp2_with fail
  refine C0.out.mono ?_
  rintro e w0 ⟨rfl, rfl⟩
  go_wp2_with fail
  refine CG.out.mono ?_
  rintro e w1 ⟨a1, c1, rfl, hq, ho, ht, ha⟩
  have hn1 : ∀ k, RfB a1 nP c1 vt k → RfB aP (nP + 1) cP (v :: vt) k ∨ w.heap.size ≤ k := fun k hk => by
    rcases hk with hk | ⟨u, hu, hk⟩
    · exact .inr (ha k hk)
    · exact .inl (.inr ⟨u, List.mem_cons_of_mem _ hu, hk⟩)
  have HR := Lib.hid (HL.out.setP hq ho ht (fun k hk => .inl hk) hn1)
  have HT := Lib.hid ht
  have HN := Lib.hid (show ∀ k, RLB aU 0 cU [] a1 nP c1 vt k → RLB aU 0 cU [] aP (nP + 1) cP (v :: vt) k ∨ w.heap.size ≤ k from fun k hk => hk.elim (fun h => .inl (.inl h)) (fun h => (hn1 k h).imp (fun h => .inr h) id))
  clear hq ho ht ha hn1 CG e0 e2
  go_wp2
  go_ret3
  exact ⟨_, _, _, _, _, _, rfl, HR.out, HT.out, HN.out⟩
set_option maxRecDepth 100000 in
theorem refLGet_0 (B m size : Nat) (aU : Option Addr) (cU : Nat) (aP : Option Addr) (cP : Nat) (w : World) (hL : RfL w B m size aU 0 cU [] [] aP 0 cP [] []) :
    Calls Try.prog 28 #[.pointer (some ⟨m, 0, none⟩)] w fun e w' => e = .returned (.tuple #[.slice none 0 0, .bool false, .bool false]) ∧ w = w' := by
  have C0 := Lib.hid (refGet_none B m 0 size aU cU w hL.u.c0)
  have C2 := Lib.hid (refGet_none B m 2 size aP cP w hL.p.c0)
  have e0 := hL.u.c0
  have e2 := hL.p.c0
  clear hL
  go_enter Try.func28, Try.ntmps28
  go_wp2_with fail
  refine C0.out.mono ?_
  rintro e w0 ⟨rfl, rfl⟩
  go_wp2_with fail
  refine C2.out.mono ?_
  rintro e w1 ⟨rfl, rfl⟩
  go_wp2
  go_ret3
  exact ⟨rfl, rfl⟩
end Go.Proofs.Ytdjeacmonlgdhaa
