/- The program's store: orEmpty, sizeAt, size, differences, New. Conditions: as each states. -/
import Derived.Test.YtbkpkakjfhkfaaaSbS
namespace Go.Proofs.Ytbkpkakjfhkfaaa
open Go Go.RowKit Go.Maps
set_option linter.unusedVariables false
set_option linter.unusedSimpArgs false

abbrev sv (k : Ky) : Value := .string ⟨k.toArray⟩
theorem orE_c (p : Nat) (w : World) : Calls Try.prog 84 #[.pointer (some ⟨p, 0, none⟩)] w fun e w' => e = .returned (.pointer (some ⟨p, 0, none⟩)) ∧ w = w' := by
  go_enter Try.func84, Try.ntmps84
  go_wp2
  go_ret
  exact ⟨rfl, rfl⟩
theorem orE_n (w : World) : Calls Try.prog 84 #[.pointer none] w fun e w' => e = .returned (.pointer (some ⟨w.heap.size, 0, none⟩)) ∧ w' = w.alloc (stO 0 none none 0) := by
  go_enter Try.func84, Try.ntmps84
  go_wp2
  go_ret
  exact ⟨rfl, rfl⟩
theorem orE_t (B : Nat) (F : Nat → Prop) (pv : Option Addr) (size : Int) (l m : List Pr) (w : World) (h : Rcv w B F pv size l m) (hB : B ≤ w.heap.size) :
    Calls Try.prog 84 #[.pointer pv] w fun e w' => ∃ G p, e = .returned (.pointer (some ⟨p, 0, none⟩)) ∧ RSt w B F pv size l m G p w' := by
  rcases h with ⟨rfl, rfl, rfl, rfl, hF⟩ | ⟨p, rfl, hs⟩
  · refine (orE_n w).mono ?_
    rintro e w' ⟨rfl, rfl⟩
    refine ⟨fun k => k = w.heap.size, _, rfl, ⟨none, none, ⟨List.Pairwise.nil, List.Pairwise.nil⟩, ⟨by simp, by simp⟩, by omega, by simp [usedP], rfl, fun k hk => ?_, (MapKept.heap_alloc _ _).1, rfl, rfl, Iff.rfl, fun _ => rfl, fun b e => (by cases e)⟩, ?_, .inl ⟨rfl, hF, fun k hk => ⟨hk, Nat.le_of_eq hk.symm⟩⟩⟩
    · simp only [World.size_alloc]; omega
    · exact tch_new (bl_al (Below.refl _ _) _)
  · refine (orE_c p w).mono ?_
    rintro e w' ⟨rfl, rfl⟩
    exact ⟨F, p, rfl, hs, Tch.refl _ _, .inr ⟨rfl, rfl⟩⟩
set_option maxRecDepth 100000 in
theorem sizeAt_c (B : Nat) (F : Nat → Prop) (c : Option Nat) (l : List Pr) (k : Ky) (w : World) (h : MapO w F B c l) (hk : k.length ≤ maxLen) (hr : ∀ r, findP k l = some r → k.length + r.length ≤ 1099511627776) :
    Calls Try.prog 114 #[.map c, sv k] w fun e w' => e = .returned (.int .i64 (sizeAt k l : Nat)) ∧ w = w' := by
  obtain ⟨v, hl, hv⟩ := h.look (k := k) hk
  have hlw := hl w (fun _ _ => rfl)
  cases hf : findP k l with
  | none =>
    have e0 : sizeAt k l = 0 := by unfold sizeAt; rw [hf]
    rw [e0]
    rw [hf] at hlw
    clear hl hv h hr hf e0
    go_enter Try.func114, Try.ntmps114
    go_wp2
    go_ret
    exact ⟨rfl, rfl⟩
  | some r =>
    have e0 : sizeAt k l = k.length + r.length := by unfold sizeAt; rw [hf]
    unfold LookV at hv
    rw [hf] at hv hlw
    have hb := hr r hf
    obtain ⟨ao, cp, rfl⟩ := own_form hv.1
    rw [e0]
    clear hl hv h hr hf e0
    have e1 : ∀ [Inhabited Nat], wrap64 ((k.length : Int) + (r.length : Int)) = (k.length : Int) + (r.length : Int) := by intro _; unfold wrap64; omega
    go_enter Try.func114, Try.ntmps114
    go_wp2
    go_ret
    exact ⟨by push_cast; rfl, rfl⟩
end Go.Proofs.Ytbkpkakjfhkfaaa
