/- StableNone's walk: it returns true. Conditions: at most 2^47 bytes. -/
import Derived.Test.YtpbgccidhpfmgaaSbL
namespace Go.Proofs.Ytpbgccidhpfmgaa
open Go Go.RowKit Go.Maps
set_option linter.unusedVariables false
set_option linter.unusedSimpArgs false

theorem RsKs.one {w : World} {k : Ky} (hk : k.length ≤ maxLen) : KsIn (w.alloc (.cells #[sv k] tyK)) w.heap.size 1 [k] :=
  ⟨rfl, fun j hj => by
    have e : j = 0 := by omega
    subst e
    simp, fun x hx => by simp at hx; subst hx; exact hk⟩
abbrev noF : Nat → Prop := fun _ => False
theorem rcv_nil (w : World) : Rcv w w.heap.size noF none 0 [] [] := .inl ⟨rfl, rfl, rfl, rfl, fun _ h => h⟩
theorem rto_nil {w w' : World} {B : Nat} {size : Int} {pv : Option Addr} {l m : List Pr} (h : RTo w B noF pv size l m w') : Below w.heap.size w w' := by
  obtain ⟨_, _, _, h3⟩ := h
  exact h3.below (fun _ h => h.elim) (Nat.le_refl _)
theorem errEq (n : Int) (hn : n = 4 ∨ n = 5 ∨ n = 6 ∨ n = 9) (w : World) : (binOp .eql 26 (errnoF n) (errnoF n)).run Try.prog w = .ok (.bool true) w := by
  rcases hn with rfl | rfl | rfl | rfl <;> kernel_rfl
set_option maxRecDepth 100000 in
set_option maxHeartbeats 4000000 in
theorem stableNone_t (k : Ky) (a : Option Addr) (n c : Nat) (r : List Int) (w : World) (hr : In w a n c r) (hk : k.length ≤ maxLen) (hn : n ≤ 140737488355328) :
    Calls Try.prog 9 #[sv k, .slice a n c] w fun e w' => e = .returned (.bool true) ∧ Below w.heap.size w w' := by
  have CA := Lib.hid (alive_c w)
  have HR := Lib.hid hr
  have HK := Lib.hid hk
  have hlen := hr.len
  obtain ⟨q, hq⟩ : ∃ q, q = putN 0 k r [] := ⟨_, rfl⟩
  have HQ := Lib.hid hq
  have hq2 : (OkK k ∧ q = 5) ∨ (¬ OkK k ∧ q = 9) := by
    rw [hq]
    by_cases h : OkK k
    · refine .inl ⟨h, putN_full h ?_⟩
      have := h.1
      simp [cutP, usedP]
      omega
    · exact .inr ⟨h, putN_bad h⟩
  have e5 := errEq 5 (by omega)
  have e6 := errEq 6 (by omega)
  have e9 := errEq 9 (by omega)
  have hlk : (k.length : Int) ≤ 9223372036854775807 := by unfold maxLen at hk; omega
  clear hr hq hk
  go_enter Try.func9, Try.ntmps9
  go_wp2_with fail
  refine CA.out.mono ?_
  rintro e w1 ⟨rfl, hb1⟩
  have HB1 := Lib.hid hb1
  have hp := RsIn.one (HR.out.below hb1)
  have CP := Lib.hid ((put_c _ noF none 0 [] [] k w1.heap.size 1 _ [r] (w1.alloc (.cells #[.slice a n c] tyB)) (rcv_nil _) (Nat.le_refl _) HK.out hp (by omega) (by simp; omega)))
  rw [flat1, ← HQ.out] at CP
  clear hb1 hp CA
  go_wp2_with fail
  refine CP.out.mono ?_
  rintro e w2 ⟨rfl, hT⟩
  have HB2 := Lib.hid (bl_tr (bl_al HB1.out (.cells #[.slice a n c] tyB)) (rto_nil hT))
  have CG := Lib.hid (get_c w2.heap.size noF none 0 [] [] k w2 (rcv_nil _) (Nat.le_refl _) HK.out)
  rw [findP_nil] at CG
  clear hT CP
  go_wp2_with fail
  refine CG.out.mono ?_
  rintro e w3 hG
  obtain ⟨rfl, ht⟩ := hG.no'
  have HB3 := Lib.hid (bl_tr HB2.out (non_below ht))
  have CD := Lib.hid (drop_c _ noF none 0 [] [] w3.heap.size 1 [k] (w3.alloc (.cells #[sv k] tyK)) (rcv_nil _) (Nat.le_refl _) (RsKs.one HK.out) (by omega) (fun h => h) (by simp))
  clear ht hG CG
  rcases hq2 with ⟨hok, rfl⟩ | ⟨hok, rfl⟩
  · have h1 : ¬ ((k.length : Int) < 1) := by have := hok.1; omega
    have h2 : ¬ ((64 : Int) < (k.length : Int)) := by have := hok.2; omega
    rw [show errF ((5 : Nat) : Int) = errnoF 5 from rfl]
    clear hok
    go_wp2_with fail
    refine CD.out.mono ?_
    rintro e w4 ⟨rfl, hT⟩
    rw [show (([] : List Pr).length - (dropP [k] []).length : Nat) = 0 from rfl]
    have HB4 := Lib.hid (bl_tr (bl_al HB3.out (.cells #[sv k] tyK)) (rto_nil hT))
    have CK := Lib.hid (keys_c w4.heap.size noF none 0 [] [] w4 (rcv_nil _) (Nat.le_refl _))
    clear hT CD
    go_wp2_with fail
    refine CK.out.mono ?_
    rintro e w5 ⟨v, rfl, hrow, ht⟩
    have HB5 := Lib.hid (bl_tr HB4.out (non_below ht))
    obtain ⟨ao, cc, rfl⟩ := own_form hrow
    have CU := Lib.hid (used_c w5.heap.size noF none 0 [] [] w5 (rcv_nil _) (Nat.le_refl _))
    clear hrow ht CK
    go_wp2_with fail
    refine CU.out.mono ?_
    rintro e w6 ⟨rfl, ht⟩
    have HB6 := Lib.hid (bl_tr HB5.out (non_below ht))
    have CS := Lib.hid (sync_c w6.heap.size noF none 0 [] [] w6 (rcv_nil _) (Nat.le_refl _))
    clear ht CU
    go_wp2_with fail
    refine CS.out.mono ?_
    rintro e w7 ⟨rfl, hT⟩
    have HB7 := Lib.hid (bl_tr HB6.out (rto_nil hT))
    have CC := Lib.hid (crash_c w7.heap.size noF none 0 [] [] w7 (rcv_nil _) (Nat.le_refl _))
    clear hT CS
    go_wp2_with fail
    refine CC.out.mono ?_
    rintro e w8 ⟨rfl, hT⟩
    have HB8 := Lib.hid (bl_tr HB7.out (rto_nil hT))
    clear hT CC
    go_wp2
    go_ret
    exact ⟨rfl, HB8.out⟩
  · by_cases h1 : (k.length : Int) < 1
    · clear hok
      rw [show errF ((9 : Nat) : Int) = errnoF 9 from rfl]
      go_wp2_with fail
      refine CD.out.mono ?_
      rintro e w4 ⟨rfl, hT⟩
      rw [show (([] : List Pr).length - (dropP [k] []).length : Nat) = 0 from rfl]
      have HB4 := Lib.hid (bl_tr (bl_al HB3.out (.cells #[sv k] tyK)) (rto_nil hT))
      have CK := Lib.hid (keys_c w4.heap.size noF none 0 [] [] w4 (rcv_nil _) (Nat.le_refl _))
      clear hT CD
      go_wp2_with fail
      refine CK.out.mono ?_
      rintro e w5 ⟨v, rfl, hrow, ht⟩
      have HB5 := Lib.hid (bl_tr HB4.out (non_below ht))
      obtain ⟨ao, cc, rfl⟩ := own_form hrow
      have CU := Lib.hid (used_c w5.heap.size noF none 0 [] [] w5 (rcv_nil _) (Nat.le_refl _))
      clear hrow ht CK
      go_wp2_with fail
      refine CU.out.mono ?_
      rintro e w6 ⟨rfl, ht⟩
      have HB6 := Lib.hid (bl_tr HB5.out (non_below ht))
      have CS := Lib.hid (sync_c w6.heap.size noF none 0 [] [] w6 (rcv_nil _) (Nat.le_refl _))
      clear ht CU
      go_wp2_with fail
      refine CS.out.mono ?_
      rintro e w7 ⟨rfl, hT⟩
      have HB7 := Lib.hid (bl_tr HB6.out (rto_nil hT))
      have CC := Lib.hid (crash_c w7.heap.size noF none 0 [] [] w7 (rcv_nil _) (Nat.le_refl _))
      clear hT CS
      go_wp2_with fail
      refine CC.out.mono ?_
      rintro e w8 ⟨rfl, hT⟩
      have HB8 := Lib.hid (bl_tr HB7.out (rto_nil hT))
      clear hT CC
      go_wp2
      go_ret
      exact ⟨rfl, HB8.out⟩
    · have h2 : (64 : Int) < (k.length : Int) := by unfold OkK at hok; omega
      clear hok
      rw [show errF ((9 : Nat) : Int) = errnoF 9 from rfl]
      go_wp2_with fail
      refine CD.out.mono ?_
      rintro e w4 ⟨rfl, hT⟩
      rw [show (([] : List Pr).length - (dropP [k] []).length : Nat) = 0 from rfl]
      have HB4 := Lib.hid (bl_tr (bl_al HB3.out (.cells #[sv k] tyK)) (rto_nil hT))
      have CK := Lib.hid (keys_c w4.heap.size noF none 0 [] [] w4 (rcv_nil _) (Nat.le_refl _))
      clear hT CD
      go_wp2_with fail
      refine CK.out.mono ?_
      rintro e w5 ⟨v, rfl, hrow, ht⟩
      have HB5 := Lib.hid (bl_tr HB4.out (non_below ht))
      obtain ⟨ao, cc, rfl⟩ := own_form hrow
      have CU := Lib.hid (used_c w5.heap.size noF none 0 [] [] w5 (rcv_nil _) (Nat.le_refl _))
      clear hrow ht CK
      go_wp2_with fail
      refine CU.out.mono ?_
      rintro e w6 ⟨rfl, ht⟩
      have HB6 := Lib.hid (bl_tr HB5.out (non_below ht))
      have CS := Lib.hid (sync_c w6.heap.size noF none 0 [] [] w6 (rcv_nil _) (Nat.le_refl _))
      clear ht CU
      go_wp2_with fail
      refine CS.out.mono ?_
      rintro e w7 ⟨rfl, hT⟩
      have HB7 := Lib.hid (bl_tr HB6.out (rto_nil hT))
      have CC := Lib.hid (crash_c w7.heap.size noF none 0 [] [] w7 (rcv_nil _) (Nat.le_refl _))
      clear hT CS
      go_wp2_with fail
      refine CC.out.mono ?_
      rintro e w8 ⟨rfl, hT⟩
      have HB8 := Lib.hid (bl_tr HB7.out (rto_nil hT))
      clear hT CC
      go_wp2
      go_ret
      exact ⟨rfl, HB8.out⟩
end Go.Proofs.Ytpbgccidhpfmgaa
