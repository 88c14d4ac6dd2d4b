/- Communication in one goroutine, for the walk: a region that begins with a select of one case and a default. No program. -/
import Derived.Test.YtdjeacmonlgdhaaChecked
import Derived.Conc.LoneSelectN
import Derived.Conc.LoneSelect
import Derived.Deep.CutRange
namespace Go.Proofs.Ytdjeacmonlgdhaa
open Go Go.Conc
set_option linter.unusedVariables false
set_option linter.unusedSimpArgs false

theorem stepG_comm_any {P : Program} {b : Frame} {a : Act} {k : List Item} {cs : List Frame} {w : World} {ops : Array Oper} {i : Nat} {rest : List Nat} {o : Oper} {cases : Array CommCase} {blocking : Bool} {shape : CommShape} {w' : World} (ho : ops[i]? = some o) (hw : Region.wanted o (yielded ops a.tmps) = true)
    (hr : (execOp a.eval o).run P w = .ok (.comm cases blocking shape) w') :
    ∃ es, stepG P true (G (b.at a (.inRegion ops (i :: rest) :: k)) cs) w = .comm (G (b.at a (.inRegion ops (i :: rest) :: k)) cs) cases blocking shape w' es := by
  rw [stepG_oper ho hw]
  simp [stepG.apply, hr, G, Frame.at, GStep.after]
/-- The region's operation i, a communication, yields v and leaves w'. -/
def CommTo (P : Program) (ops : Array Oper) (i : Nat) (a : Act) (w : World) (v : Value) (w' : World) : Prop :=
  ∀ (rest : List Nat) (b : Frame) (k : List Item) (cs : List Frame), step P (lone (b.at a (.inRegion ops (i :: rest) :: k)) cs w) = .next (lone (b.at (a.put ((ops[i]?).bind (·.dst)) v) (.inRegion ops rest :: k)) cs w')
theorem wp_region_comm {P : Program} {Q : Exit → Act → World → Prop} {a : Act} {w w' : World} {id : Nat} {o : Oper} {post : List Oper} (v : Value) (h : CommTo P (o :: post).toArray 0 a w v w') (h2 : wpList P (o :: post).toArray Q post (a.put o.dst v) w') : (Code.region id (o :: post).toArray false).wp P Q a w := by
  intro b k cs
  have hs := h (List.range' 1 post.length) b k cs
  have e : List.range (o :: post).toArray.size = 0 :: List.range' 1 post.length := by
    rw [List.range_eq_range', show (o :: post).toArray.size = post.length + 1 by simp, List.range'_succ]
  have h3 : wpOps P (o :: post).toArray Q (List.range' 1 post.length) (a.put o.dst v) w' := by
    rw [wpOps_eq_wpList post 1 (fun j => by simp [Nat.add_comm 1 j])]
    exact h2
  obtain ⟨ex, a', w2, hq, harr⟩ := wp_ops _ _ _ h3 b k cs
  refine ⟨ex, a', w2, hq, .of_steps (.head ?_ (.one hs)) harr⟩
  rw [step_region, e]
section
variable {P : Program} {a : Act} {w : World} {ops : Array Oper} {i : Nat} {o : Oper} {c cap s r : Nat} {buf : Array Value} {z v : Value} {tm : Bool}
theorem comm_send (ho : ops[i]? = some o) (hg : o.guard = none) (hr : (execOp a.eval o).run P w = .ok (.comm #[scase c v z] false .select) w) (hc : w.heap[c]? = some (.chan cap buf false s r tm)) (hroom : buf.size < cap) :
    CommTo P ops i a w (.tuple #[goInt 0, .bool false]) (w.setChan c cap (buf.push v) false (s + 1) r tm) := by
  intro rest b k cs
  obtain ⟨es, h⟩ := stepG_comm_any (b := b) (k := k) (cs := cs) (rest := rest) ho (by simp [Region.wanted, hg]) hr
  rw [lone_eq_solo, lone_eq_solo, step_lone_select_send_room h hc hroom, Frame.finish_at]
theorem comm_full (ho : ops[i]? = some o) (hg : o.guard = none) (hr : (execOp a.eval o).run P w = .ok (.comm #[scase c v z] false .select) w) (hc : w.heap[c]? = some (.chan cap buf false s r tm)) (hfull : cap ≤ buf.size) :
    CommTo P ops i a w (.tuple #[goInt (-1), .bool false]) w := by
  intro rest b k cs
  obtain ⟨es, h⟩ := stepG_comm_any (b := b) (k := k) (cs := cs) (rest := rest) ho (by simp [Region.wanted, hg]) hr
  rw [lone_eq_solo, lone_eq_solo, step_lone_select_send_full h hc hfull, Frame.finish_at]
theorem comm_recv (ho : ops[i]? = some o) (hg : o.guard = none) (hr : (execOp a.eval o).run P w = .ok (.comm #[rcase c z] false .select) w) (hc : w.heap[c]? = some (.chan cap buf false s r tm)) (hsome : 0 < buf.size) :
    CommTo P ops i a w (.tuple #[goInt 0, .bool true, buf.getD 0 undef]) (w.setChan c cap (buf.extract 1 buf.size) false s (r + 1) tm) := by
  intro rest b k cs
  obtain ⟨es, h⟩ := stepG_comm_any (b := b) (k := k) (cs := cs) (rest := rest) ho (by simp [Region.wanted, hg]) hr
  rw [lone_eq_solo, lone_eq_solo, step_lone_select_recv_buf h hc hsome, Frame.finish_at]
theorem comm_none (ho : ops[i]? = some o) (hg : o.guard = none) (hr : (execOp a.eval o).run P w = .ok (.comm #[rcase c z] false .select) w) (hc : w.heap[c]? = some (.chan cap #[] false s r tm)) :
    CommTo P ops i a w (.tuple #[goInt (-1), .bool false, z]) w := by
  intro rest b k cs
  obtain ⟨es, h⟩ := stepG_comm_any (b := b) (k := k) (cs := cs) (rest := rest) ho (by simp [Region.wanted, hg]) hr
  rw [lone_eq_solo, lone_eq_solo, step_lone_select_default h hc, Frame.finish_at]
theorem comm_send_nil (ho : ops[i]? = some o) (hg : o.guard = none) (hr : (execOp a.eval o).run P w = .ok (.comm #[scaseNil v z] false .select) w) :
    CommTo P ops i a w (.tuple #[goInt (-1), .bool false]) w := by
  intro rest b k cs
  obtain ⟨es, h⟩ := stepG_comm_any (b := b) (k := k) (cs := cs) (rest := rest) ho (by simp [Region.wanted, hg]) hr
  rw [lone_eq_solo, lone_eq_solo, step_lone_select_send_nil h, Frame.finish_at]
theorem comm_recv_nil (ho : ops[i]? = some o) (hg : o.guard = none) (hr : (execOp a.eval o).run P w = .ok (.comm #[rcaseNil z] false .select) w) :
    CommTo P ops i a w (.tuple #[goInt (-1), .bool false, z]) w := by
  intro rest b k cs
  obtain ⟨es, h⟩ := stepG_comm_any (b := b) (k := k) (cs := cs) (rest := rest) ho (by simp [Region.wanted, hg]) hr
  rw [lone_eq_solo, lone_eq_solo, step_lone_select_recv_nil h, Frame.finish_at]
end
end Go.Proofs.Ytdjeacmonlgdhaa
