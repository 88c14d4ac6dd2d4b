/- Contracts of queue's Get, Len, Room in the walks' form, where a queue is a channel in a struct. -/
import Derived.Test.YtdjeacmonlgdhaaQuA
import Derived.Test.YtdjeacmonlgdhaaQs
import Derived.Conc.LoneCalls
namespace Go.Proofs.Ytdjeacmonlgdhaa
open Go Go.Conc Go.RowKit
set_option linter.unusedVariables false
set_option linter.unusedSimpArgs false

theorem setChan_ne (w : World) {c c' : Nat} (cap : Nat) (buf : Array Value) (cl : Bool) (s r : Nat) (tm : Bool) (h : c ≠ c') : (w.setChan c cap buf cl s r tm).heap[c']? = w.heap[c']? := by
  simp [World.setChan, Array.getElem?_setIfInBounds, h]
theorem tch_chan (w : World) (c cap : Nat) (buf : Array Value) (cl : Bool) (s r : Nat) (tm : Bool) : Tch (· = c) w (w.setChan c cap buf cl s r tm) :=
  ⟨rfl, rfl, rfl, by rw [size_setChan]; exact Nat.le_refl _, fun k _ hn => setChan_ne w cap buf cl s r tm (fun e => hn e.symm)⟩
theorem chan_ne {w : World} {q c cap s r : Nat} {buf : Array Value} {v : Value} (h1 : w.cell? ⟨q, 0, none⟩ = some v) (h2 : w.heap[c]? = some (.chan cap buf false s r false)) : q ≠ c := fun e => by
  subst e
  simp [World.cell?, h2] at h1
theorem tch_drewN (w : World) (k : Nat) : Tch Non w (w.drewN k) := ⟨rfl, rfl, rfl, Nat.le_refl _, fun _ _ _ => rfl⟩
theorem get_q (B : Nat) (F : Nat → Prop) (q size : Nat) (v : Value) (vt : List Value) (p : List Int) (pt : List (List Int)) (w : World) (hQ : QSt w B F q size (v :: vt) (p :: pt)) :
    Calls Try.prog 16 #[.pointer (some ⟨q, 0, none⟩)] w (QGet w B F q size vt p pt v) := by
  obtain ⟨c, s, r, hF, h1, h2⟩ := hQ.inn
  refine (get_some q c size s r (v :: vt).toArray vt.toArray v w h1 h2 (by simp) (by simp) (by simp)).mono ?_
  rintro e w' ⟨rfl, rfl⟩
  have tc := tch_chan w c size vt.toArray false s (r + 1) false
  have ht : Tch F w (w.setChan c size vt.toArray false s (r + 1) false) := tc.mono (fun k hk => (hF k).2 (.inr hk))
  have hle := hQ.le
  exact ⟨rfl, ⟨⟨c, s, r + 1, hF, tc.cell h1 (chan_ne h1 h2), heap_setChan w c size _ _ _ _ _ (lt_of_block h2)⟩, hQ.rows.2.keep ht (fun u hu => hQ.far u (List.mem_cons_of_mem _ hu)), (List.pairwise_cons.1 hQ.apart).2, fun u hu => hQ.far u (List.mem_cons_of_mem _ hu), fun k hk => ⟨(hQ.base k hk).1, Nat.lt_of_lt_of_le (hQ.base k hk).2 ht.size⟩, by simp at hle; omega⟩, ht, ht.own hQ.rows.1.1 (hQ.far v List.mem_cons_self)⟩
theorem get0_q (B : Nat) (F : Nat → Prop) (q size : Nat) (w : World) (hQ : QSt w B F q size [] []) :
    Calls Try.prog 16 #[.pointer (some ⟨q, 0, none⟩)] w fun e w' => e = .returned (.tuple #[.slice none 0 0, .bool false]) ∧ Tch Non w w' := by
  obtain ⟨c, s, r, hF, h1, h2⟩ := hQ.inn
  refine (get_none q c size s r w h1 h2).mono ?_
  rintro e w' ⟨rfl, rfl⟩
  exact ⟨rfl, Tch.refl _ _⟩
theorem len_qq (B : Nat) (F : Nat → Prop) (q size : Nat) (vs : List Value) (ps : List (List Int)) (w : World) (hQ : QSt w B F q size vs ps) :
    Calls Try.prog 22 #[.pointer (some ⟨q, 0, none⟩)] w fun e w' => e = .returned (.int .i64 ps.length) ∧ Tch Non w w' := by
  obtain ⟨c, s, r, hF, h1, h2⟩ := hQ.inn
  refine (len_q q c size s r vs.toArray w h1 h2).mono ?_
  rintro e w' ⟨rfl, rfl⟩
  have hl := hQ.rows.len
  exact ⟨by rw [List.size_toArray, hl], Tch.refl _ _⟩
theorem room_qq (B : Nat) (F : Nat → Prop) (q size : Nat) (vs : List Value) (ps : List (List Int)) (w : World) (hQ : QSt w B F q size vs ps) (hs : size ≤ 4096) :
    Calls Try.prog 23 #[.pointer (some ⟨q, 0, none⟩)] w fun e w' => e = .returned (.int .i64 (size - ps.length : Nat)) ∧ Tch Non w w' := by
  obtain ⟨c, s, r, hF, h1, h2⟩ := hQ.inn
  have hl := hQ.rows.len
  have hle := hQ.le
  refine (room_q q c size s r vs.toArray w h1 h2 (by simp; omega) (by omega)).mono ?_
  rintro e w' ⟨rfl, rfl⟩
  exact ⟨by rw [List.size_toArray, hl], Tch.refl _ _⟩
end Go.Proofs.Ytdjeacmonlgdhaa
