/- The program's store: Keys. Conditions: as it states. -/
import Derived.Test.YtpbgccidhpfmgaaSbC
import Derived.Test.YtpbgccidhpfmgaaShk
import Derived.Shelf.AbstractIn
import Derived.OwnWalkIn
import Derived.TacticsInMore
namespace Go.Proofs.Ytpbgccidhpfmgaa
open Go Go.RowKit Go.Maps Go.Sort Go.Shelf
set_option linter.unusedVariables false
set_option linter.unusedSimpArgs false

theorem sortsK (m : Nat) : AnyZ.SortsIn Try.prog Try.sortedZ_ren Fence.wide m :=
  ⟨fun blk off cap ss W hH hblk hsz => callsIn_wide.2 (AnyM.slices_Sort_string Try.sortZ blk off cap ss W hH hblk hsz),
   fun p cap W => callsIn_wide.2 (AnyM.slices_Sort_string_none Try.sortZ p cap W)⟩
abbrev itK (w : World) : Array Value := #[.pointer (some ⟨w.heap.size, 0, none⟩)]
theorem mkeys_c (mb : Option Nat) (W : World) : CallsIn Fence.wide 5 Try.prog 82 #[.map mb] W fun e w' => e = .returned (.func (.func 101) #[] (itK W)) ∧ w' = W.alloc (.cells #[.map mb] tyM) :=
  AnyZ.keys_in Try.keysZ Fence.wide 5 trivial rfl mb W
/-- What slices.Sorted answers. -/
def GotK (w : World) (ks : List Ky) (e : Ending) (w' : World) : Prop := ∃ v, e = .returned v ∧ w'.ownsRow w.heap.size tyK 1 v ks.length (ks.map encStr) ∧ Below w.heap.size w w'
set_option maxHeartbeats 1000000 in
theorem sorted_c (b : Nat) (F : Nat → Prop) (B : Nat) (l : List Pr) (w : World) (h : MapS w F B b l) (hs : SrtP l) (hn : l.length ≤ 67108864) :
    CallsIn Fence.wide 5 Try.prog 81 #[.func (.func 101) #[] (itK w)] (w.alloc (.cells #[.map (some b)] tyM)) (GotK (w.alloc (.cells #[.map (some b)] tyM)) (l.map (·.k))) := by
  obtain ⟨_, D0, hown, hm⟩ := h
  have hbl := hown.lt
  have hsz := hm.size
  have hseq : SeqGives Fence.wide 2 Try.prog 101 (itK w) encStr (fun ss => ss.Perm (strKeys D0)) (Maps.size D0) (w.alloc (.cells #[.map (some b)] tyM)) :=
    AnyZ.keys_gives (ρ := Try.keysZ_ren) { Try.keysZ with } Fence.wide _ trivial rfl (by omega) w.heap.size b l.length D0 _ (by simp) (by simp) (by
      obtain ⟨es, clock, hb, Ft, hs, hD⟩ := hown
      exact ⟨es, clock, (Below.heap_alloc _ _ b hbl).trans hb, Ft, hs, hD⟩)
  have hC := AnyZ.sorted_in Try.sortedZ Fence.wide 5 trivial trivial trivial trivial rfl (by omega) (sortsK _) (enters_of Try.func100 (by kernel_rfl) rfl) 101 (itK w) trivial (enters_of Try.func101 (by kernel_rfl) rfl) _ _ (by rw [hsz]; unfold maxLen; omega) (by rw [hsz]; omega) _ hseq
  refine hC.mono ?_
  rintro e w' ⟨v, ss, rfl, hS, hrow, hnil, hb⟩
  have h1 : ss.mergeSort leB = l.map (·.k) := (mergeSort_of_perm hS).trans (hm.keys hown hs)
  have h2 : ss.length = (l.map (·.k)).length := by rw [← h1, List.length_mergeSort]
  refine ⟨v, rfl, ?_, hb⟩
  have h3 : ss.mergeSort (fun x y => decide (x ≤ y)) = l.map (·.k) := h1
  rw [h3, h2] at hrow
  exact hrow
set_option maxHeartbeats 1000000 in
theorem sorted_n (w : World) :
    CallsIn Fence.wide 5 Try.prog 81 #[.func (.func 101) #[] (itK w)] (w.alloc (.cells #[.map none] tyM)) (GotK (w.alloc (.cells #[.map none] tyM)) []) := by
  have hseq : SeqGives Fence.wide 2 Try.prog 101 (itK w) encStr (fun ss : List (List UInt8) => ss = []) 0 (w.alloc (.cells #[.map none] tyM)) :=
    AnyZ.keys_gives_nil (ρ := Try.keysZ_ren) { Try.keysZ with } Fence.wide _ trivial rfl w.heap.size _ (by simp) (by simp)
  have hC := AnyZ.sorted_in Try.sortedZ Fence.wide 5 trivial trivial trivial trivial rfl (by omega) (sortsK _) (enters_of Try.func100 (by kernel_rfl) rfl) 101 (itK w) trivial (enters_of Try.func101 (by kernel_rfl) rfl) _ 0 (Nat.zero_le _) (by omega) _ hseq
  refine hC.mono ?_
  rintro e w' ⟨v, ss, rfl, hS, hrow, hnil, hb⟩
  subst hS
  exact ⟨v, rfl, (by have h4 : w'.ownsRow (w.alloc (.cells #[.map none] tyM)).heap.size tyK 1 v _ _ := hrow; simpa using h4), hb⟩
theorem callsIn_of_calls {n : Nat} {P : Program} {f : Nat} {ars : Array Value} {w : World} {Q : Ending → World → Prop} (h : Calls P f ars w Q) : CallsIn Fence.wide n P f ars w Q := callsIn_wide.2 h
set_option maxRecDepth 100000 in
set_option maxHeartbeats 1000000 in
theorem keys_c (B : Nat) (F : Nat → Prop) (pv : Option Addr) (size : Int) (l m : List Pr) (w : World) (h : Rcv w B F pv size l m) (hB : B ≤ w.heap.size) :
    Calls Try.prog 48 #[.pointer pv] w fun e w' => ∃ v, e = .returned v ∧ w'.ownsRow w.heap.size tyK 1 v l.length (l.map (fun e => sv e.k)) ∧ Tch Non w w' := by
  have HO := Lib.hid (orE_t B F pv size l m w h hB)
  clear h
  refine (callsIn_wide (n := 6)).1 ?_
  have hfK : Fence.wide.fn 82 := trivial
  have hfS : Fence.wide.fn 81 := trivial
  have hfO : Fence.wide.fn 69 := trivial
  refine callsIn_of_wp Try.func48 rfl trivial ?_ rfl
  simp only [Try.ntmps48, List.size_toArray, List.length_cons, List.length_nil, Nat.reduceAdd, Nat.reduceSub, Array.replicate_succ, Array.replicate_zero, List.push_toArray, List.append_toArray, List.nil_append, List.cons_append]
  gi_wp2_with (gi_at_call 69; refine (callsIn_of_calls HO.out).mono ?_; rintro e w1 ⟨G, p, rfl, ⟨c1, c2, hK⟩, ht, _⟩; have hc := hK.cells.cs.2.1)
  have HC := Lib.hid hK.cur
  have HS := Lib.hid hK.srt.1
  have HN := Lib.hid hK.lens.1
  have HT := Lib.hid ht
  clear hK ht HO
  cases c1 with
  | none =>
    have hl : l = [] := HC.out
    subst hl
    refine (mkeys_c _ _).mono ?_
    rintro e w2 ⟨rfl, rfl⟩
    gi_wp2_with (gi_at_call 81; refine (sorted_n _).mono ?_; rintro e w' ⟨v, rfl, hrow, hb⟩)
    go_ret
    exact ⟨v, rfl, own_base hrow (by simp; exact Nat.le_succ_of_le HT.out.size), HT.out.trans ((tch_new (bl_al (Below.refl _ _) _)).trans (tch_new hb))⟩
  | some b =>
    refine (mkeys_c _ _).mono ?_
    rintro e w2 ⟨rfl, rfl⟩
    gi_wp2_with (gi_at_call 81; refine (sorted_c b G B l w1 HC.out HS.out HN.out).mono ?_; rintro e w' ⟨v, rfl, hrow, hb⟩)
    go_ret
    refine ⟨v, rfl, ?_, HT.out.trans ((tch_new (bl_al (Below.refl _ _) _)).trans (tch_new hb))⟩
    have h2 := own_base (B' := w.heap.size) hrow (by simp; exact Nat.le_succ_of_le HT.out.size)
    rw [List.length_map, List.map_map] at h2
    exact h2
end Go.Proofs.Ytpbgccidhpfmgaa
