/- Contracts of queue's held, Get, Len, Room. -/
import Derived.Test.YtdjeacmonlgdhaaChA
import Derived.Laws.Pointers
import Derived.Test.YtdjeacmonlgdhaaGenB
import Derived.Lib.Hide
import Derived.Conc.LoneCalls
namespace Go.Proofs.Ytdjeacmonlgdhaa
open Go Go.Conc Go.RowKit
set_option linter.unusedVariables false
set_option linter.unusedSimpArgs false

theorem held_t (q c : Nat) (w : World) (hq : w.cell? ⟨q, 0, none⟩ = some (.chan (some c))) :
    Calls Try.prog 37 #[.pointer (some ⟨q, 0, none⟩)] w fun e w' => e = .returned (.chan (some c)) ∧ w = w' := by
  go_enter Try.func37, Try.ntmps37
  go_wp2
  go_ret
  exact ⟨rfl, rfl⟩
theorem heldN_t (w : World) :
    Calls Try.prog 37 #[.pointer none] w fun e w' => e = .returned (.chan none) ∧ w = w' := by
  go_enter Try.func37, Try.ntmps37
  go_wp2
  go_ret
  exact ⟨rfl, rfl⟩
set_option maxRecDepth 100000 in
theorem get_some (q c cap s r : Nat) (buf buf2 : Array Value) (v : Value) (w : World) (hq : w.cell? ⟨q, 0, none⟩ = some (.chan (some c))) (hc : w.heap[c]? = some (.chan cap buf false s r false)) (hs : 0 < buf.size) (hv : buf.getD 0 undef = v) (hb : buf.extract 1 buf.size = buf2) :
    Calls Try.prog 16 #[.pointer (some ⟨q, 0, none⟩)] w fun e w' => e = .returned (.tuple #[v, .bool true]) ∧ w.setChan c cap buf2 false s (r + 1) false = w' := by
  obtain ⟨W, hW⟩ : ∃ W, W = w.setChan c cap buf2 false s (r + 1) false := ⟨_, rfl⟩
  have CH := Lib.hid (held_t q c w hq)
  go_enter Try.func16, Try.ntmps16
  go_wp2_with fail
  refine CH.out.mono ?_
  rintro e w0 ⟨rfl, rfl⟩
  go_upto_region 2 with fail
  refine wp_region_comm (w' := W) (.tuple #[goInt 0, .bool true, v]) ?h ?h2
  case h =>
    rw [hW, ← hb, ← hv]
    exact comm_recv (c := c) (z := .slice none 0 0) rfl rfl (by simp [go_sem, execOp, rcase, Act.eval]) hc hs
  clear CH
  go_wp2
  go_ret2
  exact ⟨rfl, rfl⟩
set_option maxRecDepth 100000 in
theorem get_none (q c cap s r : Nat) (w : World) (hq : w.cell? ⟨q, 0, none⟩ = some (.chan (some c))) (hc : w.heap[c]? = some (.chan cap #[] false s r false)) :
    Calls Try.prog 16 #[.pointer (some ⟨q, 0, none⟩)] w fun e w' => e = .returned (.tuple #[.slice none 0 0, .bool false]) ∧ w = w' := by
  have CH := Lib.hid (held_t q c w hq)
  go_enter Try.func16, Try.ntmps16
  go_wp2_with fail
  refine CH.out.mono ?_
  rintro e w0 ⟨rfl, rfl⟩
  go_upto_region 2 with fail
  refine wp_region_comm (w' := w) (.tuple #[goInt (-1), .bool false, .slice none 0 0]) ?h ?h2
  case h => exact comm_none (c := c) rfl rfl (by simp [go_sem, execOp, rcase, Act.eval]) hc
  clear CH
  go_wp2
  go_ret2
  exact ⟨rfl, rfl⟩
theorem len_q (q c cap s r : Nat) (buf : Array Value) (w : World) (hq : w.cell? ⟨q, 0, none⟩ = some (.chan (some c))) (hc : w.heap[c]? = some (.chan cap buf false s r false)) :
    Calls Try.prog 22 #[.pointer (some ⟨q, 0, none⟩)] w fun e w' => e = .returned (.int .i64 buf.size) ∧ w = w' := by
  have CH := Lib.hid (held_t q c w hq)
  have hlen := fun ty => run_len_chan (P := Try.prog) 67 ty Try.underlying67 hc
  obtain ⟨n, hn⟩ : ∃ n, n = buf.size := ⟨_, rfl⟩
  rw [← hn] at hlen
  rw [← hn]
  clear hn
  go_enter Try.func22, Try.ntmps22
  go_wp2_with fail
  refine CH.out.mono ?_
  rintro e w0 ⟨rfl, rfl⟩
  clear CH
  go_wp2
  go_ret
  exact ⟨rfl, rfl⟩
theorem room_q (q c cap s r : Nat) (buf : Array Value) (w : World) (hq : w.cell? ⟨q, 0, none⟩ = some (.chan (some c))) (hc : w.heap[c]? = some (.chan cap buf false s r false)) (hn : buf.size ≤ cap) (h63 : cap ≤ 9223372036854775807) :
    Calls Try.prog 23 #[.pointer (some ⟨q, 0, none⟩)] w fun e w' => e = .returned (.int .i64 (cap - buf.size : Nat)) ∧ w = w' := by
  have CH := Lib.hid (held_t q c w hq)
  have CL := Lib.hid (len_q q c cap s r buf w hq hc)
  have hcap := fun ty => run_cap_chan (P := Try.prog) 67 ty Try.underlying67 hc
  obtain ⟨n, hn'⟩ : ∃ n, n = buf.size := ⟨_, rfl⟩
  rw [← hn'] at hn CL
  have v : ∀ [Inhabited Nat], IntKind.i64.wrap ((cap : Int) - (n : Int)) = ((cap - n : Nat) : Int) := by intro _; rw [IntWalk.i64_in _ (by omega)]; omega
  rw [← hn']
  clear hn'
  go_enter Try.func23, Try.ntmps23
  go_wp2_with fail
  refine CH.out.mono ?_
  rintro e w0 ⟨rfl, rfl⟩
  clear CH
  go_wp2_with fail
  refine CL.out.mono ?_
  rintro e w0 ⟨rfl, rfl⟩
  clear CL
  go_wp2
  go_ret
  exact ⟨rfl, rfl⟩
end Go.Proofs.Ytdjeacmonlgdhaa
