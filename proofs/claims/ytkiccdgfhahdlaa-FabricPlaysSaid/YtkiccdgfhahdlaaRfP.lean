/- The document's fabric: the contract of its put. Conditions: those stated. -/
import Derived.Test.YtkiccdgfhahdlaaLtM
import Derived.Deep.RegionLaw
import Derived.Deep.CutRange
import Derived.Deep.AppendLies
namespace Go.Proofs.Ytkiccdgfhahdlaa
open Go Go.RowKit
set_option linter.unusedVariables false
set_option linter.unusedSimpArgs false

theorem infoL : (Try.prog.info? 45).map (fun i => (i.zero, i.size, i.bytes)) = some (some (.agg #[.int .i64 0, .int .i64 0, .int .i64 0, .bool false, .slice none 0 0]), 5, 56) := by kernel_rfl
theorem box_set {w : World} {p : Nat} {cs : Array Value} {ty : TypeId} {fr : Nat × Nat} (h : w.heap[p]? = some (.cells cs ty fr)) (i : Nat) (v : Value) : (w.setCell ⟨p, i, none⟩ v).heap[p]? = some (.cells (cs.setIfInBounds i v) ty fr) := by
  simp [World.setCell, Array.getElem?_modify, h]
theorem tch_alloc (w : World) (o : Obj) : Tch Non w (w.alloc o) := tch_new (bl_al (Below.refl _ _) o)
theorem new5 (w : World) (us : List Value) (t : TypeId) : ∀ j u, us[j]? = some u → (w.alloc (.cells us.toArray t)).cell? ((⟨w.heap.size, 0, none⟩ : Addr).add j) = some u := fun j u h => by
  have e : (⟨w.heap.size, 0, none⟩ : Addr).add j = ⟨w.heap.size, 0 + j, none⟩ := by
    unfold Addr.add
    split
    · rename_i h0; rw [h0]
    · rfl
  rw [e]
  exact cells_new w us t (0, 0) j u h
/-- A letter in a cell of its own. -/
def Bx (w : World) (p : Nat) (l : Lt) (v : Value) : Prop := w.heap[p]? = some (.cells #[.int .i64 l.id, .int .i64 l.frm, .int .i64 l.dst, .bool l.ctl, v] tyL (0, 0))
theorem Bx.cell {w : World} {p : Nat} {l : Lt} {v : Value} (h : Bx w p l v) : w.cell? ⟨p, 0, none⟩ = some (.int .i64 l.id) ∧ w.cell? ⟨p, 1, none⟩ = some (.int .i64 l.frm) ∧ w.cell? ⟨p, 2, none⟩ = some (.int .i64 l.dst) ∧ w.cell? ⟨p, 3, none⟩ = some (.bool l.ctl) ∧ w.cell? ⟨p, 4, none⟩ = some v := by
  refine ⟨?_, ?_, ?_, ?_, ?_⟩ <;> (rw [cell_of_row w p _ _ _ _ h]; rfl)
theorem Bx.free {w : World} {p : Nat} {l : Lt} {v : Value} (h : Bx w p l v) (o : Nat) : w.frozen? ⟨p, o, none⟩ = false := frozen_of_row w p o _ _ h
theorem Bx.lt {w : World} {p : Nat} {l : Lt} {v : Value} (h : Bx w p l v) : p < w.heap.size := lt_of_block h
theorem Bx.keep {T : Nat → Prop} {w w' : World} {p : Nat} {l : Lt} {v : Value} (h : Bx w p l v) (ht : Tch T w w') (hn : ¬ T p) : Bx w' p l v := ht.at h hn
theorem Bx.id {w : World} {p : Nat} {l : Lt} {v : Value} (h : Bx w p l v) (k : Int) : Bx (w.setCell ⟨p, 0, none⟩ (.int .i64 k)) p { l with id := k } v := by
  have := box_set h 0 (.int .i64 k)
  simpa [Bx] using this
theorem Bx.bytes {w : World} {p : Nat} {l : Lt} {v : Value} (h : Bx w p l v) (u : Value) : Bx (w.setCell ⟨p, 4, none⟩ u) p l u := by
  have := box_set h 4 u
  simpa [Bx] using this
theorem Bx.new (w : World) (l : Lt) (v : Value) : Bx (w.alloc (.cells #[.int .i64 l.id, .int .i64 l.frm, .int .i64 l.dst, .bool l.ctl, v] tyL)) w.heap.size l v := heap_alloc_new w _
/-- The last number written. -/
theorem LsM.last {w : World} {B m last n c : Nat} {ls : List Lt} {ao : Option Addr} {vs : List Value} (h : LsM w B m ls last ao n c vs) (k : Nat) : LsM (w.setCell ⟨m, 1, none⟩ (.int .i64 k)) B m ls k ao n c vs := by
  have T := tch_set w ⟨m, 1, none⟩ (.int .i64 k)
  refine ⟨(World.cell?_setCell_other _ _ _ _ (fun e => by have := congrArg Addr.off e; simp at this)).trans h.c0, World.cell?_setCell_same w ⟨m, 1, none⟩ _ h.c1, fun o => by simpa using h.free o, h.hm, ownsRow_setCell_other h.row (fun e => h.away0 (by rw [e])) _, h.rows.keep T (fun v hv g hg e => h.away v hv (by rw [hg, e])), h.apart, h.away, h.away0⟩
/-- A letter laid behind the others: N parts old blocks from new ones. -/
theorem put_step {W w8 : World} {B N m last n c g8 c8 c7 k7 : Nat} {ls : List Lt} {ao a7 : Option Addr} {vs : List Value} {l : Lt} (hM : LsM W B m ls last ao n c vs) (hB : B ≤ N) (hN : ∀ k, RfB ao n c vs k → k < N) (hm : m < N) (h7 : W.ownsRow N 5 1 (.slice a7 k7 c7) l.bs.length (u8s l.bs)) (hf : fit l.bs)
    (h8 : w8.ownsRow B tyL 5 (.slice (some ⟨g8, 0, none⟩) (n + 1) c8) (n + 1) (cellsL ls vs ++ l.cs (.slice a7 k7 c7))) (T2 : Tch (fun k => some k = (Value.slice ao n c).ownBlock) W w8) (hl : (Value.slice ao n c).ownBlock = some g8 ∨ N ≤ g8) :
    LsM (w8.setCell ⟨m, 0, none⟩ (.slice (some ⟨g8, 0, none⟩) (n + 1) c8)) B m (ls ++ [l]) last (some ⟨g8, 0, none⟩) (n + 1) c8 (vs ++ [.slice a7 k7 c7]) ∧
    Tch (fun k => k = m ∨ RfB ao n c vs k) W (w8.setCell ⟨m, 0, none⟩ (.slice (some ⟨g8, 0, none⟩) (n + 1) c8)) ∧
    (∀ k, RfB (some ⟨g8, 0, none⟩) (n + 1) c8 (vs ++ [.slice a7 k7 c7]) k → RfB ao n c vs k ∨ N ≤ k) := by
  have T3 := tch_set w8 ⟨m, 0, none⟩ (.slice (some ⟨g8, 0, none⟩) (n + 1) c8)
  have hnb : ∀ k, (Value.slice a7 k7 c7).ownBlock = some k → N ≤ k := fun k hk => (h7.lt k hk).1
  have hm2 : ¬ some m = (Value.slice ao n c).ownBlock := fun e => hM.away0 e.symm
  have hg8m : g8 ≠ m := by
    rcases hl with h | h
    · exact fun e => hM.away0 (by rw [h, e])
    · omega
  have e0 := T2.cell hM.c0 hm2
  have e1 := T2.cell hM.c1 hm2
  have fr : ∀ o, w8.frozen? ⟨m, o, none⟩ = false := fun o => (frozen_keep T2 hM.c0 hm2 o).trans (hM.free o)
  have haw : ∀ v ∈ vs ++ [Value.slice a7 k7 c7], v.ownBlock ≠ some m := fun v hv e => by
    rcases List.mem_append.1 hv with hv | hv
    · exact hM.away v hv e
    · rw [List.mem_singleton] at hv
      rw [hv] at e
      have := hnb m e
      omega
  have hrow : w8.ownsRow B tyL 5 (.slice (some ⟨g8, 0, none⟩) (n + 1) c8) (n + 1) (cellsL (ls ++ [l]) (vs ++ [.slice a7 k7 c7])) := by
    rw [cellsL_app hM.vlen, cellsL_one]
    exact h8
  have hnew : Rws W B [.slice a7 k7 c7] [l.bs] := Rws.one (own_base h7 hB) hf
  have R3 : Rws w8 B (vs ++ [.slice a7 k7 c7]) ((ls ++ [l]).map (·.bs)) := by
    rw [List.map_append]
    refine (hM.rows.keep T2 (fun v hv k hk e => hM.far v hv k e.symm hk)).app (hnew.keep T2 (fun v hv k hk e => ?_))
    rw [List.mem_singleton] at hv
    rw [hv] at hk
    have := hN k (.inl e.symm)
    have := hnb k hk
    omega
  refine ⟨⟨World.cell?_setCell_same w8 ⟨m, 0, none⟩ _ e0, (World.cell?_setCell_other _ _ _ _ (fun e => by have := congrArg Addr.off e; simp at this)).trans e1, fun o => by simpa using fr o, hM.hm, ownsRow_setCell_other hrow (fun e => hg8m (by cases e; rfl)) _, R3.keep T3 (fun v hv k hk e => haw v hv (by rw [hk, e])), ?_, haw, fun e => hg8m (by cases e; rfl)⟩, ?_, ?_⟩
  · refine List.pairwise_append.2 ⟨hM.apart, List.pairwise_singleton _ _, fun v hv u hu k hk hk2 => ?_⟩
    rw [List.mem_singleton] at hu
    rw [hu] at hk2
    have h1 := hN k (.inr ⟨v, hv, hk⟩)
    have h2 := hnb k hk2
    omega
  · exact (T2.mono (fun k hk => .inr (.inl hk.symm))).trans (T3.mono (fun k hk => .inl hk))
  · intro k hk
    rcases hk with hk | ⟨v, hv, hk⟩
    · cases hk
      exact hl.imp .inl id
    · rcases List.mem_append.1 hv with hv | hv
      · exact .inl (.inr ⟨v, hv, hk⟩)
      · rw [List.mem_singleton] at hv
        rw [hv] at hk
        exact .inr (hnb k hk)
set_option maxRecDepth 100000 in
set_option maxHeartbeats 2000000 in
theorem refPut_full (B m last : Nat) (F : Nat → Prop) (ls : List Lt) (l : Lt) (v : Value) (w : World) (hL : LSt w B F m ls last) (hf : 4096 ≤ ls.length) :
    Calls Try.prog 38 #[.pointer (some ⟨m, 0, none⟩), l.val v] w fun e w' => e = .returned (.tuple #[.int .i64 0, .int .i64 5]) ∧ LTo w B F m ls last F w' := by
  obtain ⟨ao, n, c, vs, hM, hF⟩ := hL.here
  have hn := hM.len
  have e0 := (tch_alloc w (.cells #[.int .i64 l.id, .int .i64 l.frm, .int .i64 l.dst, .bool l.ctl, v] tyL)).cell hM.c0 (fun h => h)
  have HR := Lib.hid (LTo.same (T := Non) hL (tch_alloc w (.cells #[.int .i64 l.id, .int .i64 l.frm, .int .i64 l.dst, .bool l.ctl, v] tyL)))
  have i0 : (4096 : Int) ≤ (n : Int) := by omega
  obtain ⟨X, hX⟩ : ∃ X, X = w.alloc (.cells #[.int .i64 l.id, .int .i64 l.frm, .int .i64 l.dst, .bool l.ctl, v] tyL) := ⟨_, rfl⟩
  rw [← hX] at e0 HR
  have HX := Lib.hid hX
  clear hL hM hF hf hn hX
  unfold Lt.val
  go_enter Try.func38, Try.ntmps38
  go_upto_region 1 with fail
  rw [← HX.out]
  go_wp2
  go_ret2
  exact ⟨rfl, HR.out⟩
end Go.Proofs.Ytkiccdgfhahdlaa
