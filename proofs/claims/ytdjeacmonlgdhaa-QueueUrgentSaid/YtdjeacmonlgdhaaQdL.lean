/- The lanes' contracts over the queue's, where lanes are two pointers to queues: both, Urgent, Plain. -/
import Derived.Test.YtdjeacmonlgdhaaLs
import Derived.Test.YtdjeacmonlgdhaaQAl
import Derived.Laws.Pointers
namespace Go.Proofs.Ytdjeacmonlgdhaa
open Go Go.RowKit
set_option linter.unusedVariables false
set_option linter.unusedSimpArgs false

/-- Lanes, taken apart. -/
structure LPa (w : World) (B : Nat) (F : Nat → Prop) (l size : Nat) (us : List Value) (pu : List (List Int)) (vs : List Value) (pp : List (List Int)) (p q : Nat) (F1 F2 : Nat → Prop) : Prop where
  hF : ∀ k, F k ↔ k = l ∨ F1 k ∨ F2 k
  d1 : ∀ k, F1 k → k ≠ l ∧ ¬ F2 k
  d2 : ∀ k, F2 k → k ≠ l
  c0 : w.cell? ⟨l, 0, none⟩ = some (.pointer (some ⟨p, 0, none⟩))
  c1 : w.cell? ⟨l, 1, none⟩ = some (.pointer (some ⟨q, 0, none⟩))
  u : QSt w B F1 p size us pu
  v : QSt w B F2 q size vs pp
theorem LSt.part {w : World} {B : Nat} {F : Nat → Prop} {l size : Nat} {us vs : List Value} {pu pp : List (List Int)} (h : LSt w B F l size us pu vs pp) : ∃ p q F1 F2, LPa w B F l size us pu vs pp p q F1 F2 := by
  obtain ⟨p, q, F1, F2, hF, d1, d2, h0, h1, i1, i2⟩ := h.inn
  have ap := List.pairwise_append.1 h.apart
  exact ⟨p, q, F1, F2, hF, d1, d2, h0, h1,
    ⟨i1, h.urg, ap.1, fun v hv k hk e => h.far v (List.mem_append_left _ hv) k hk ((hF k).2 (.inr (.inl e))), fun k hk => h.base k ((hF k).2 (.inr (.inl hk))), h.leU⟩,
    ⟨i2, h.pla, ap.2.1, fun v hv k hk e => h.far v (List.mem_append_right _ hv) k hk ((hF k).2 (.inr (.inr e))), fun k hk => h.base k ((hF k).2 (.inr (.inr hk))), h.leP⟩⟩
/-- The urgent lane turned. -/
theorem LSt.setU {w w' : World} {B : Nat} {F F1 F2 : Nat → Prop} {l size p q : Nat} {us us' vs : List Value} {pu pu' pp : List (List Int)} (h : LSt w B F l size us pu vs pp) (P : LPa w B F l size us pu vs pp p q F1 F2) (hq : QSt w' B F1 p size us' pu') (ht : Tch F1 w w') (hn : ∀ x ∈ us', ∀ k, x.ownBlock = some k → (∃ y ∈ us, y.ownBlock = some k) ∨ w.heap.size ≤ k) :
    LSt w' B F l size us' pu' vs pp ∧ Tch F w w' := by
  have ht2 : Tch F w w' := ht.mono (fun k hk => (P.hF k).2 (.inr (.inl hk)))
  have hl1 : ¬ F1 l := fun e => (P.d1 l e).1 rfl
  have hvf : ∀ v ∈ vs, ∀ k, v.ownBlock = some k → ¬ F1 k := fun v hv k hk e => h.far v (List.mem_append_right _ hv) k hk ((P.hF k).2 (.inr (.inl e)))
  refine ⟨⟨⟨p, q, F1, F2, P.hF, P.d1, P.d2, ht.cell P.c0 hl1, ht.cell P.c1 hl1, hq.inn, P.v.inn.keep ht (fun k hk e => (P.d1 k e).2 hk)⟩, hq.rows, h.pla.keep ht hvf, List.pairwise_append.2 ⟨hq.apart, P.v.apart, fun x hx y hy k hk hk2 => ?_⟩, fun x hx k hk e => ?_, fun k hk => ⟨(h.base k hk).1, Nat.lt_of_lt_of_le (h.base k hk).2 ht.size⟩, hq.le, h.leP⟩, ht2⟩
  · rcases hn x hx k hk with ⟨z, hz, hzk⟩ | e
    · exact (List.pairwise_append.1 h.apart).2.2 z hz y hy k hzk hk2
    · have := (h.pla.blocks y hy k hk2).2; omega
  · rcases List.mem_append.1 hx with hx | hx
    · rcases hn x hx k hk with ⟨z, hz, hzk⟩ | e2
      · exact h.far z (List.mem_append_left _ hz) k hzk e
      · have := (h.base k e).2; omega
    · exact h.far x (List.mem_append_right _ hx) k hk e
/-- The plain lane turned. -/
theorem LSt.setP {w w' : World} {B : Nat} {F F1 F2 : Nat → Prop} {l size p q : Nat} {us vs vs' : List Value} {pu pp pp' : List (List Int)} (h : LSt w B F l size us pu vs pp) (P : LPa w B F l size us pu vs pp p q F1 F2) (hq : QSt w' B F2 q size vs' pp') (ht : Tch F2 w w') (hn : ∀ x ∈ vs', ∀ k, x.ownBlock = some k → (∃ y ∈ vs, y.ownBlock = some k) ∨ w.heap.size ≤ k) :
    LSt w' B F l size us pu vs' pp' ∧ Tch F w w' := by
  have ht2 : Tch F w w' := ht.mono (fun k hk => (P.hF k).2 (.inr (.inr hk)))
  have hl1 : ¬ F2 l := fun e => P.d2 l e rfl
  have huf : ∀ v ∈ us, ∀ k, v.ownBlock = some k → ¬ F2 k := fun v hv k hk e => h.far v (List.mem_append_left _ hv) k hk ((P.hF k).2 (.inr (.inr e)))
  refine ⟨⟨⟨p, q, F1, F2, P.hF, P.d1, P.d2, ht.cell P.c0 hl1, ht.cell P.c1 hl1, P.u.inn.keep ht (fun k hk e => (P.d1 k hk).2 e), hq.inn⟩, h.urg.keep ht huf, hq.rows, List.pairwise_append.2 ⟨P.u.apart, hq.apart, fun x hx y hy k hk hk2 => ?_⟩, fun x hx k hk e => ?_, fun k hk => ⟨(h.base k hk).1, Nat.lt_of_lt_of_le (h.base k hk).2 ht.size⟩, h.leU, hq.le⟩, ht2⟩
  · rcases hn y hy k hk2 with ⟨z, hz, hzk⟩ | e
    · exact (List.pairwise_append.1 h.apart).2.2 x hx z hz k hk hzk
    · have := (h.urg.blocks x hx k hk).2; omega
  · rcases List.mem_append.1 hx with hx | hx
    · exact h.far x (List.mem_append_left _ hx) k hk e
    · rcases hn x hx k hk with ⟨z, hz, hzk⟩ | e2
      · exact h.far z (List.mem_append_right _ hz) k hzk e
      · have := (h.base k e).2; omega
theorem LPa.keep {T : Nat → Prop} {w w' : World} {B : Nat} {F : Nat → Prop} {l size p q : Nat} {us vs : List Value} {pu pp : List (List Int)} {F1 F2 : Nat → Prop} (P : LPa w B F l size us pu vs pp p q F1 F2) (ht : Tch T w w') (hT : ∀ k, ¬ T k) : LPa w' B F l size us pu vs pp p q F1 F2 :=
  ⟨P.hF, P.d1, P.d2, ht.cell P.c0 (hT _), ht.cell P.c1 (hT _), P.u.keep ht (fun k _ => hT k) (fun _ _ k _ => hT k), P.v.keep ht (fun k _ => hT k) (fun _ _ k _ => hT k)⟩
set_option maxRecDepth 100000 in
theorem both_t (l p q : Nat) (w : World) (h0 : w.cell? ⟨l, 0, none⟩ = some (.pointer (some ⟨p, 0, none⟩))) (h1 : w.cell? ⟨l, 1, none⟩ = some (.pointer (some ⟨q, 0, none⟩))) :
    Calls Try.prog 40 #[.pointer (some ⟨l, 0, none⟩)] w fun e w' => e = .returned (.tuple #[.pointer (some ⟨p, 0, none⟩), .pointer (some ⟨q, 0, none⟩)]) ∧ Tch Non w w' := by
  have HT := Lib.hid (fun k => tch_drewN w k)
  go_enter Try.func40, Try.ntmps40
  go_wp2
  go_quiet (fail)
  go_wp2
  go_ret2
  exact ⟨rfl, HT.out _⟩
set_option maxRecDepth 100000 in
theorem bothN_t (w : World) :
    Calls Try.prog 40 #[.pointer none] w fun e w' => e = .returned (.tuple #[.pointer none, .pointer none]) ∧ w = w' := by
  go_enter Try.func40, Try.ntmps40
  go_wp2
  go_ret2
  exact ⟨rfl, rfl⟩
set_option maxRecDepth 100000 in
theorem urgent_q (B : Nat) (F : Nat → Prop) (l size : Nat) (us : List Value) (pu : List (List Int)) (vs : List Value) (pp : List (List Int)) (rs : List Value) (qs : List (List Int)) (ao : Option Addr) (n c : Nat) (w : World) (hL : LSt w B F l size us pu vs pp) (hB : B ≤ w.heap.size) (hI : ∀ w', Tch F w w' → RsP w' ao n rs qs) (hn : n ≤ 1048576) (hp : ∀ p ∈ qs, p.length ≤ 1048576) :
    Calls Try.prog 25 #[.pointer (some ⟨l, 0, none⟩), .slice ao n c] w (LUrg w B F l size us pu vs pp qs) := by
  obtain ⟨p, q, F1, F2, P⟩ := hL.part
  have CB := Lib.hid (both_t l p q w P.c0 P.c1)
  have CP := Lib.hid (fun U (ht : Tch Non w U) => put_t B F1 p size us rs pu qs ao n c U (P.keep ht (fun _ h => h)).u (Nat.le_trans hB ht.size) (fun w' h => hI w' ((ht.mono (fun _ h => h.elim)).trans (h.mono (fun k hk => (P.hF k).2 (.inr (.inl hk)))))) hn hp)
  have HL := Lib.hid hL
  have HP := Lib.hid P
  clear hL hI hp P
  go_enter Try.func25, Try.ntmps25
  go_wp2_with fail
  refine CB.out.mono ?_
  rintro e w0 ⟨rfl, ht0⟩
  have HT0 := Lib.hid ht0
  clear ht0 CB
  go_wp2_with fail
  refine (CP.out w0 HT0.out).mono ?_
  rintro e w1 ⟨xs, rfl, hq, ht, hx⟩
  obtain ⟨h1, h2⟩ := HL.out.setU HP.out hq ((HT0.out.mono (fun _ h => h.elim)).trans ht) (fun x hm k hk => (List.mem_append.1 hm).elim (fun h => .inl ⟨x, h, hk⟩) (fun h => .inr (Nat.le_trans HT0.out.size (hx x h k hk))))
  have H1 := Lib.hid (show LUrg w B F l size us pu vs pp qs (.returned (.int .i64 (fits pu.length size qs.length))) w1 from ⟨xs, rfl, h1, h2, fun x h k hk => Nat.le_trans HT0.out.size (hx x h k hk)⟩)
  clear h1 h2 hq ht hx CP
  go_wp2
  go_ret
  exact H1.out
set_option maxRecDepth 100000 in
theorem plain_q (B : Nat) (F : Nat → Prop) (l size : Nat) (us : List Value) (pu : List (List Int)) (vs : List Value) (pp : List (List Int)) (rs : List Value) (qs : List (List Int)) (ao : Option Addr) (n c : Nat) (w : World) (hL : LSt w B F l size us pu vs pp) (hB : B ≤ w.heap.size) (hI : ∀ w', Tch F w w' → RsP w' ao n rs qs) (hn : n ≤ 1048576) (hp : ∀ p ∈ qs, p.length ≤ 1048576) :
    Calls Try.prog 26 #[.pointer (some ⟨l, 0, none⟩), .slice ao n c] w (LPla w B F l size us pu vs pp qs) := by
  obtain ⟨p, q, F1, F2, P⟩ := hL.part
  have CB := Lib.hid (both_t l p q w P.c0 P.c1)
  have CP := Lib.hid (fun U (ht : Tch Non w U) => put_t B F2 q size vs rs pp qs ao n c U (P.keep ht (fun _ h => h)).v (Nat.le_trans hB ht.size) (fun w' h => hI w' ((ht.mono (fun _ h => h.elim)).trans (h.mono (fun k hk => (P.hF k).2 (.inr (.inr hk)))))) hn hp)
  have HL := Lib.hid hL
  have HP := Lib.hid P
  clear hL hI hp P
  go_enter Try.func26, Try.ntmps26
  go_wp2_with fail
  refine CB.out.mono ?_
  rintro e w0 ⟨rfl, ht0⟩
  have HT0 := Lib.hid ht0
  clear ht0 CB
  go_wp2_with fail
  refine (CP.out w0 HT0.out).mono ?_
  rintro e w1 ⟨xs, rfl, hq, ht, hx⟩
  obtain ⟨h1, h2⟩ := HL.out.setP HP.out hq ((HT0.out.mono (fun _ h => h.elim)).trans ht) (fun x hm k hk => (List.mem_append.1 hm).elim (fun h => .inl ⟨x, h, hk⟩) (fun h => .inr (Nat.le_trans HT0.out.size (hx x h k hk))))
  have H1 := Lib.hid (show LPla w B F l size us pu vs pp qs (.returned (.int .i64 (fits pp.length size qs.length))) w1 from ⟨xs, rfl, h1, h2, fun x h k hk => Nat.le_trans HT0.out.size (hx x h k hk)⟩)
  clear h1 h2 hq ht hx CP
  go_wp2
  go_ret
  exact H1.out
end Go.Proofs.Ytdjeacmonlgdhaa
