/- The lanes' Get and Len over the queue's; new lanes. -/
import Derived.Test.YtdjeacmonlgdhaaQdL
namespace Go.Proofs.Ytdjeacmonlgdhaa
open Go Go.RowKit
set_option linter.unusedVariables false
set_option linter.unusedSimpArgs false

set_option maxRecDepth 100000 in
theorem lgetU_q (B : Nat) (F : Nat → Prop) (l size : Nat) (u : Value) (ut : List Value) (x : List Int) (xt : List (List Int)) (vs : List Value) (pp : List (List Int)) (w : World) (hL : LSt w B F l size (u :: ut) (x :: xt) vs pp) :
    Calls Try.prog 27 #[.pointer (some ⟨l, 0, none⟩)] w (LGot w B F l size u x true ut xt vs pp) := by
  obtain ⟨p, q, F1, F2, P⟩ := hL.part
  have CB := Lib.hid (both_t l p q w P.c0 P.c1)
  have CG := Lib.hid (fun U (ht : Tch Non w U) => get_t B F1 p size u ut x xt U (P.keep ht (fun _ h => h)).u)
  have HL := Lib.hid hL
  have HP := Lib.hid P
  clear hL P
  go_enter Try.func27, Try.ntmps27
  go_wp2_with fail
  refine CB.out.mono ?_
  rintro e w0 ⟨rfl, ht0⟩
  have HT0 := Lib.hid ht0
  clear ht0 CB
  go_wp2_with fail
  refine (CG.out w0 HT0.out).mono ?_
  rintro e w1 ⟨rfl, hq, ht, ho⟩
  obtain ⟨h1, h2⟩ := HL.out.setU HP.out hq ((HT0.out.mono (fun _ h => h.elim)).trans ht) (fun y hm k hk => .inl ⟨y, List.mem_cons_of_mem _ hm, hk⟩)
  have H1 := Lib.hid (show LGot w B F l size u x true ut xt vs pp (.returned (.tuple #[u, .bool true, .bool true])) w1 from ⟨rfl, h1, h2, ho⟩)
  clear h1 h2 hq ht ho CG
  go_wp2
  go_ret3
  exact H1.out
set_option maxRecDepth 100000 in
theorem lgetP_q (B : Nat) (F : Nat → Prop) (l size : Nat) (u : Value) (ut : List Value) (x : List Int) (xt : List (List Int)) (w : World) (hL : LSt w B F l size [] [] (u :: ut) (x :: xt)) :
    Calls Try.prog 27 #[.pointer (some ⟨l, 0, none⟩)] w (LGot w B F l size u x false [] [] ut xt) := by
  obtain ⟨p, q, F1, F2, P⟩ := hL.part
  have CB := Lib.hid (both_t l p q w P.c0 P.c1)
  have C0 := Lib.hid (fun U (ht : Tch Non w U) => get0_t B F1 p size U (P.keep ht (fun _ h => h)).u)
  have CG := Lib.hid (fun U (ht : Tch Non w U) => get_t B F2 q size u ut x xt U (P.keep ht (fun _ h => h)).v)
  have HL := Lib.hid hL
  have HP := Lib.hid P
  clear hL P
  go_enter Try.func27, Try.ntmps27
  go_wp2_with fail
  refine CB.out.mono ?_
  rintro e w0 ⟨rfl, ht0⟩
  have HT0 := Lib.hid ht0
  clear ht0 CB
  go_wp2_with fail
  refine (C0.out w0 HT0.out).mono ?_
  rintro e w1 ⟨rfl, ht1⟩
  have HT1 := Lib.hid (HT0.out.trans ht1)
  clear ht1 C0 HT0
  go_wp2_with fail
  refine (CG.out w1 HT1.out).mono ?_
  rintro e w2 ⟨rfl, hq, ht, ho⟩
  obtain ⟨h1, h2⟩ := HL.out.setP HP.out hq ((HT1.out.mono (fun _ h => h.elim)).trans ht) (fun y hm k hk => .inl ⟨y, List.mem_cons_of_mem _ hm, hk⟩)
  have H1 := Lib.hid (show LGot w B F l size u x false [] [] ut xt (.returned (.tuple #[u, .bool false, .bool true])) w2 from ⟨rfl, h1, h2, ho⟩)
  clear h1 h2 hq ht ho CG
  go_wp2
  go_ret3
  exact H1.out
set_option maxRecDepth 100000 in
theorem lget0_q (B : Nat) (F : Nat → Prop) (l size : Nat) (w : World) (hL : LSt w B F l size [] [] [] []) :
    Calls Try.prog 27 #[.pointer (some ⟨l, 0, none⟩)] w fun e w' => e = .returned (.tuple #[.slice none 0 0, .bool false, .bool false]) ∧ Tch Non w w' := by
  obtain ⟨p, q, F1, F2, P⟩ := hL.part
  have CB := Lib.hid (both_t l p q w P.c0 P.c1)
  have C0 := Lib.hid (fun U (ht : Tch Non w U) => get0_t B F1 p size U (P.keep ht (fun _ h => h)).u)
  have CG := Lib.hid (fun U (ht : Tch Non w U) => get0_t B F2 q size U (P.keep ht (fun _ h => h)).v)
  clear hL P
  go_enter Try.func27, Try.ntmps27
  go_wp2_with fail
  refine CB.out.mono ?_
  rintro e w0 ⟨rfl, ht0⟩
  have HT0 := Lib.hid ht0
  clear ht0 CB
  go_wp2_with fail
  refine (C0.out w0 HT0.out).mono ?_
  rintro e w1 ⟨rfl, ht1⟩
  have HT1 := Lib.hid (HT0.out.trans ht1)
  clear ht1 C0 HT0
  go_wp2_with fail
  refine (CG.out w1 HT1.out).mono ?_
  rintro e w2 ⟨rfl, ht⟩
  have H1 := Lib.hid (HT1.out.trans ht)
  clear ht CG
  go_wp2
  go_ret3
  exact ⟨rfl, H1.out⟩
set_option maxRecDepth 100000 in
theorem llen_q (B : Nat) (F : Nat → Prop) (l size : Nat) (us : List Value) (pu : List (List Int)) (vs : List Value) (pp : List (List Int)) (w : World) (hL : LSt w B F l size us pu vs pp) (hs : size ≤ 4096) :
    Calls Try.prog 31 #[.pointer (some ⟨l, 0, none⟩)] w fun e w' => e = .returned (.int .i64 ((pu.length + pp.length : Nat) : Int)) ∧ Tch Non w w' := by
  obtain ⟨p, q, F1, F2, P⟩ := hL.part
  have hu := hL.leU
  have hp := hL.leP
  have CB := Lib.hid (both_t l p q w P.c0 P.c1)
  have C0 := Lib.hid (fun U (ht : Tch Non w U) => len_t B F1 p size us pu U (P.keep ht (fun _ h => h)).u)
  have CG := Lib.hid (fun U (ht : Tch Non w U) => len_t B F2 q size vs pp U (P.keep ht (fun _ h => h)).v)
  obtain ⟨x, hx⟩ : ∃ x, x = pu.length := ⟨_, rfl⟩
  obtain ⟨y, hy⟩ : ∃ y, y = pp.length := ⟨_, rfl⟩
  rw [← hx] at C0 hu
  rw [← hy] at CG hp
  rw [← hx, ← hy]
  have v : ∀ [Inhabited Nat], IntKind.i64.wrap ((x : Int) + (y : Int)) = ((x + y : Nat) : Int) := by intro _; rw [IntWalk.i64_in _ (by omega)]; omega
  clear hL P hx hy
  go_enter Try.func31, Try.ntmps31
  go_wp2_with fail
  refine CB.out.mono ?_
  rintro e w0 ⟨rfl, ht0⟩
  have HT0 := Lib.hid ht0
  clear ht0 CB
  go_wp2_with fail
  refine (C0.out w0 HT0.out).mono ?_
  rintro e w1 ⟨rfl, ht1⟩
  have HT1 := Lib.hid (HT0.out.trans ht1)
  clear ht1 C0 HT0
  go_wp2_with fail
  refine (CG.out w1 HT1.out).mono ?_
  rintro e w2 ⟨rfl, ht⟩
  have H1 := Lib.hid (HT1.out.trans ht)
  clear ht CG
  go_wp2
  go_ret
  exact ⟨rfl, H1.out⟩
set_option maxRecDepth 100000 in
theorem newL_q (size : Nat) (h : size ≤ 4096) (w : World) : Calls Try.prog 24 #[.int .i64 size] w fun e w' => ∃ l F, e = .returned (.tuple #[.pointer (some ⟨l, 0, none⟩), .nilIface]) ∧ LSt w' w.heap.size F l size [] [] [] [] ∧ Below w.heap.size w w' := by
  have CS := Lib.hid (size_yes size h w)
  have CN := Lib.hid (fun w => empty_t size h w)
  clear h
  go_enter Try.func24, Try.ntmps24
  go_wp2_with fail
  refine CS.out.mono ?_
  rintro e w0 ⟨rfl, rfl⟩
  clear CS
  go_wp2_with fail
  refine (CN.out w).mono ?_
  rintro e w1 ⟨p, F1, rfl, h1, b1⟩
  have H1 := Lib.hid h1
  have B1 := Lib.hid b1
  clear h1 b1
  go_wp2_with fail
  refine (CN.out w1).mono ?_
  rintro e w2 ⟨q, F2, rfl, h2, b2⟩
  have H2 := Lib.hid h2
  have B2 := Lib.hid b2
  clear h2 b2 CN
  have tb := tch_new B2.out
  have i1 := (H1.out.inn.keep tb (fun _ _ h => h)).keep (tch_new (bl_al (Below.refl w2.heap.size w2) (.cells #[.pointer (some ⟨p, 0, none⟩), .pointer (some ⟨q, 0, none⟩)] 71))) (fun _ _ h => h)
  have i2 := H2.out.inn.keep (tch_new (bl_al (Below.refl w2.heap.size w2) (.cells #[.pointer (some ⟨p, 0, none⟩), .pointer (some ⟨q, 0, none⟩)] 71))) (fun _ _ h => h)
  have f1 := H1.out.base
  have f2 := H2.out.base
  have s1 := B1.out.size
  have s2 := B2.out.size
  have HST : Hid (LSt (w2.alloc (.cells #[.pointer (some ⟨p, 0, none⟩), .pointer (some ⟨q, 0, none⟩)] 71)) w.heap.size (fun k => k = w2.heap.size ∨ F1 k ∨ F2 k) w2.heap.size size [] [] [] []) := Lib.hid ⟨⟨p, q, F1, F2, fun k => Iff.rfl, fun k hk => ⟨by have := f1 k hk; omega, fun e => by have := f1 k hk; have := f2 k e; omega⟩, fun k hk => by have := f2 k hk; omega, cells_new w2 [.pointer (some ⟨p, 0, none⟩), .pointer (some ⟨q, 0, none⟩)] _ (0, 0) 0 _ rfl, cells_new w2 [.pointer (some ⟨p, 0, none⟩), .pointer (some ⟨q, 0, none⟩)] _ (0, 0) 1 _ rfl, i1, i2⟩, trivial, trivial, List.Pairwise.nil, (fun v hv => by cases hv), fun k hk => by
    rw [show ∀ o, (w2.alloc o).heap.size = w2.heap.size + 1 from fun o => by simp]
    rcases hk with hk | hk | hk
    · omega
    · have := f1 k hk; omega
    · have := f2 k hk; omega, Nat.zero_le _, Nat.zero_le _⟩
  have HB := Lib.hid (bl_al (bl_tr B1.out B2.out) (.cells #[.pointer (some ⟨p, 0, none⟩), .pointer (some ⟨q, 0, none⟩)] 71))
  clear tb i1 i2 f1 f2 s1 s2 H1 H2 B1 B2
  go_wp2
  go_ret2
  exact ⟨_, _, rfl, HST.out, HB.out⟩
set_option maxRecDepth 100000 in
theorem newL_q_no (size : Int) (h : size < 0 ∨ 4096 < size) (w : World) : Calls Try.prog 24 #[.int .i64 size] w fun e w' => e = .returned (.tuple #[.pointer none, errnoQ 4]) ∧ Below w.heap.size w w' := by
  have CS := Lib.hid (size_no size h w)
  clear h
  go_enter Try.func24, Try.ntmps24
  go_wp2_with fail
  refine CS.out.mono ?_
  rintro e w0 ⟨rfl, rfl⟩
  clear CS
  go_wp2
  go_ret2
  exact ⟨rfl, Below.refl _ _⟩
end Go.Proofs.Ytdjeacmonlgdhaa
