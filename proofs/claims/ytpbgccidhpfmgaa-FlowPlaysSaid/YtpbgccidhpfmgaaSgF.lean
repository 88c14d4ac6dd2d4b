/- Rows of flows and of entries sorted by sort.Slice, as Expire and All call it. Conditions: at most 2^20 of them. -/
import Derived.Test.YtpbgccidhpfmgaaSgS
import Derived.Shelf.SlSortCmp.QuietGrown
namespace Go.Proofs.Ytpbgccidhpfmgaa
open Go Go.RowKit Go.Sort
set_option linter.unusedVariables false
set_option linter.unusedSimpArgs false

instance : Inhabited Fl := ⟨fl0⟩
instance : Inhabited En := ⟨en0⟩
def lessF (a b : Fl) : Bool := decide (ltF a b)
def lessE (a b : En) : Bool := decide (ltF a.f b.f)
theorem lessF_o : SWO lessF := by
  refine ⟨fun x => decide_eq_false (ltF_irr x), fun x y z h1 h2 => ?_, fun x y z h1 h2 => ?_⟩
  · exact decide_eq_true (ltF_trans (of_decide_eq_true h1) (of_decide_eq_true h2))
  · have a := of_decide_eq_false h1
    have b := of_decide_eq_false h2
    refine decide_eq_false (fun h => ?_)
    rcases ltF_total a with e | h3
    · exact b (e ▸ h)
    · exact b (ltF_trans h3 h)
theorem lessE_o : SWO lessE := ⟨fun x => lessF_o.irrefl x.f, fun x y z h1 h2 => lessF_o.trans x.f y.f z.f h1 h2, fun x y z h1 h2 => lessF_o.ntrans x.f y.f z.f h1 h2⟩
theorem holdsF_at {W : World} {b : Nat} {d : Array Fl} (h : HoldsK csF 5 W b 0 d) {j : Nat} (hj : j < d.size) : FlIn W b (j * 5) d[j]! := by
  have hc : ∀ u, u < 5 → W.cell? ⟨b, j * 5 + u, none⟩ = some (csF d[j]!)[u]! := fun u hu => by
    have := (h (j * 5 + u) (by simp; omega)).1
    rw [Nat.zero_add, get_flatK csF 5 d _ (by omega), show (j * 5 + u) / 5 = j by omega, show (j * 5 + u) % 5 = u by omega] at this
    exact this
  exact ⟨hc 0 (by omega), hc 1 (by omega), hc 2 (by omega), hc 3 (by omega), hc 4 (by omega)⟩
theorem holdsE_at {W : World} {b : Nat} {d : Array En} (h : HoldsK csE 10 W b 0 d) {j : Nat} (hj : j < d.size) : FlIn W b (j * 10) d[j]!.f := by
  have hc : ∀ u, u < 10 → W.cell? ⟨b, j * 10 + u, none⟩ = some (csE d[j]!)[u]! := fun u hu => by
    have := (h (j * 10 + u) (by simp; omega)).1
    rw [Nat.zero_add, get_flatK csE 10 d _ (by omega), show (j * 10 + u) / 10 = j by omega, show (j * 10 + u) % 10 = u by omega] at this
    exact this
  exact ⟨hc 0 (by omega), hc 1 (by omega), hc 2 (by omega), hc 3 (by omega), hc 4 (by omega)⟩
set_option maxRecDepth 100000 in
set_option maxHeartbeats 2000000 in
theorem exp1_c (Bs b n c : Nat) (W : World) (f g : Fl) (i j : Nat) (hi : i < n) (hj : j < n) (hB : W.cell? ⟨Bs, 0, none⟩ = some (.slice (some ⟨b, 0, none⟩) n c)) (hf : FlIn W b (i * 5) f) (hg : FlIn W b (j * 5) g) (hn : n ≤ 1048576) :
    Calls Try.prog 64 #[.int .i64 i, .int .i64 j, .pointer (some ⟨Bs, 0, none⟩)] W fun e w' => e = .returned (.bool (decide (ltF f g))) ∧ Grw W w' := by
  have hbl : (⟨b, 0, none⟩ : Addr).block < W.heap.size := hf.lt
  have hBl : (⟨Bs, 0, none⟩ : Addr).block < W.heap.size := block_lt_of_cell hB
  obtain ⟨hi0, hi1, hi2, hi3, hi4⟩ := hf
  obtain ⟨hj0, hj1, hj2, hj3, hj4⟩ := hg
  have cB := fun m os => cell_grown hBl hB m os
  have ai0 := fun m os => cell_grown (a := ⟨b, i * 5, none⟩) hbl hi0 m os
  have ai1 := fun m os => cell_grown (a := ⟨b, i * 5 + 1, none⟩) hbl hi1 m os
  have ai2 := fun m os => cell_grown (a := ⟨b, i * 5 + 2, none⟩) hbl hi2 m os
  have ai3 := fun m os => cell_grown (a := ⟨b, i * 5 + 3, none⟩) hbl hi3 m os
  have ai4 := fun m os => cell_grown (a := ⟨b, i * 5 + 4, none⟩) hbl hi4 m os
  have aj0 := fun m os => cell_grown (a := ⟨b, j * 5, none⟩) hbl hj0 m os
  have aj1 := fun m os => cell_grown (a := ⟨b, j * 5 + 1, none⟩) hbl hj1 m os
  have aj2 := fun m os => cell_grown (a := ⟨b, j * 5 + 2, none⟩) hbl hj2 m os
  have aj3 := fun m os => cell_grown (a := ⟨b, j * 5 + 3, none⟩) hbl hj3 m os
  have aj4 := fun m os => cell_grown (a := ⟨b, j * 5 + 4, none⟩) hbl hj4 m os
  have zi : (i : Int) < (n : Int) := by omega
  have zj : (j : Int) < (n : Int) := by omega
  have z0 : (0 : Int) ≤ (i : Int) := by omega
  have z1 : (0 : Int) ≤ (j : Int) := by omega
  have LG := Lib.hid (fun U => (less_g f g U))
  have mixed : Try.prog.follows .mixedOrders = true := by kernel_rfl
  clear hi0 hi1 hi2 hi3 hi4 hj0 hj1 hj2 hj3 hj4 hB
  go_enter Try.func64, Try.ntmps64
  go_wp2
  go_quiet_grown (first | (go_at_call 65; refine Calls.grown_of ((LG.out _).mono fun _ _ h => h)))
  go_wp2
  go_ret
  exact ⟨rfl, nq, osq, rfl⟩
set_option maxRecDepth 100000 in
set_option maxHeartbeats 2000000 in
theorem all1_c (Bs b n c : Nat) (W : World) (f g : Fl) (i j : Nat) (hi : i < n) (hj : j < n) (hB : W.cell? ⟨Bs, 0, none⟩ = some (.slice (some ⟨b, 0, none⟩) n c)) (hf : FlIn W b (i * 10) f) (hg : FlIn W b (j * 10) g) (hn : n ≤ 1048576) :
    Calls Try.prog 68 #[.int .i64 i, .int .i64 j, .pointer (some ⟨Bs, 0, none⟩)] W fun e w' => e = .returned (.bool (decide (ltF f g))) ∧ Grw W w' := by
  have hbl : (⟨b, 0, none⟩ : Addr).block < W.heap.size := hf.lt
  have hBl : (⟨Bs, 0, none⟩ : Addr).block < W.heap.size := block_lt_of_cell hB
  obtain ⟨hi0, hi1, hi2, hi3, hi4⟩ := hf
  obtain ⟨hj0, hj1, hj2, hj3, hj4⟩ := hg
  have cB := fun m os => cell_grown hBl hB m os
  have ai0 := fun m os => cell_grown (a := ⟨b, i * 10, none⟩) hbl hi0 m os
  have ai1 := fun m os => cell_grown (a := ⟨b, i * 10 + 1, none⟩) hbl hi1 m os
  have ai2 := fun m os => cell_grown (a := ⟨b, i * 10 + 2, none⟩) hbl hi2 m os
  have ai3 := fun m os => cell_grown (a := ⟨b, i * 10 + 3, none⟩) hbl hi3 m os
  have ai4 := fun m os => cell_grown (a := ⟨b, i * 10 + 4, none⟩) hbl hi4 m os
  have aj0 := fun m os => cell_grown (a := ⟨b, j * 10, none⟩) hbl hj0 m os
  have aj1 := fun m os => cell_grown (a := ⟨b, j * 10 + 1, none⟩) hbl hj1 m os
  have aj2 := fun m os => cell_grown (a := ⟨b, j * 10 + 2, none⟩) hbl hj2 m os
  have aj3 := fun m os => cell_grown (a := ⟨b, j * 10 + 3, none⟩) hbl hj3 m os
  have aj4 := fun m os => cell_grown (a := ⟨b, j * 10 + 4, none⟩) hbl hj4 m os
  have zi : (i : Int) < (n : Int) := by omega
  have zj : (j : Int) < (n : Int) := by omega
  have z0 : (0 : Int) ≤ (i : Int) := by omega
  have z1 : (0 : Int) ≤ (j : Int) := by omega
  have LG := Lib.hid (fun U => (less_g f g U))
  have mixed : Try.prog.follows .mixedOrders = true := by kernel_rfl
  clear hi0 hi1 hi2 hi3 hi4 hj0 hj1 hj2 hj3 hj4 hB
  go_enter Try.func68, Try.ntmps68
  go_wp2
  go_quiet_grown (first | (go_at_call 65; refine Calls.grown_of ((LG.out _).mono fun _ _ h => h)))
  go_wp2
  go_ret
  exact ⟨rfl, nq, osq, rfl⟩
theorem infsortF_c : (Try.prog.info? 39).map (·.desc) = some (.slice 38) := by kernel_rfl
theorem inesortF_c : (Try.prog.info? 38).map (fun i => (i.size, i.hasPointers, i.bytes)) = some (5, false, 40) := by kernel_rfl
theorem sortF_c (B n Bs : Nat) (v : Value) (l : List Fl) (w : World) (h : w.ownsRow B 38 5 v n (cellsF l)) (hn : n ≤ 1048576) (hB : w.cell? ⟨Bs, 0, none⟩ = some v) (hne : v.ownBlock ≠ some Bs) :
    Calls Try.prog 63 #[.iface 39 v, .func (.func 64) #[] #[.pointer (some ⟨Bs, 0, none⟩)]] w fun ez w' => ez = .returned (.tuple #[]) ∧ Srt csF 5 lessF 38 B v n l w w' := by
  obtain ⟨i, hi, hd⟩ := Option.map_eq_some_iff.1 infsortF_c
  obtain ⟨ie, hie, he⟩ := Option.map_eq_some_iff.1 inesortF_c
  simp only [Prod.mk.injEq] at he
  obtain ⟨e1, e2, e3⟩ := he
  have hsw : ∀ m, 2 ≤ m → Lib.swapperK m ie 25 = 9 := fun m hm => by
    have z0 : (m == 0) = false := by simp; omega
    have z1 : (m == 1) = false := by simp; omega
    simp [Lib.swapperK, e2, e3, z0, z1]
  have eg : ∀ args w, (callFunc 64 args).run Try.prog w = .ok (.enter 64 args) w := enters_of Try.func64 (by kernel_rfl) rfl
  refine slice_g (cs := csF) (k := 5) (fun _ => rfl) (by omega) csF_one1 lessF lessF_o 39 38 i ie hi hd (by kernel_rfl) hie 25 (fun _ => by kernel_rfl) e1 (fun _ => by kernel_rfl) hsw 64 #[.pointer (some ⟨Bs, 0, none⟩)] eg B n v l w h hn ?_
  intro blk c W dk hv ht hH hs i j hi hj
  subst hv
  have hB2 : W.cell? ⟨Bs, 0, none⟩ = some (.slice (some ⟨blk, 0, none⟩) n c) := ht.cell hB (fun e => hne (by rw [← e]; rfl))
  exact exp1_c Bs blk n c W _ _ i j hi hj hB2 (holdsF_at hH (by omega)) (holdsF_at hH (by omega)) hn
theorem infsortE_c : (Try.prog.info? 32).map (·.desc) = some (.slice 43) := by kernel_rfl
theorem inesortE_c : (Try.prog.info? 43).map (fun i => (i.size, i.hasPointers, i.bytes)) = some (10, false, 72) := by kernel_rfl
theorem sortE_c (B n Bs : Nat) (v : Value) (l : List En) (w : World) (h : w.ownsRow B 43 10 v n (cellsE l)) (hn : n ≤ 1048576) (hB : w.cell? ⟨Bs, 0, none⟩ = some v) (hne : v.ownBlock ≠ some Bs) :
    Calls Try.prog 63 #[.iface 32 v, .func (.func 68) #[] #[.pointer (some ⟨Bs, 0, none⟩)]] w fun ez w' => ez = .returned (.tuple #[]) ∧ Srt csE 10 lessE 43 B v n l w w' := by
  obtain ⟨i, hi, hd⟩ := Option.map_eq_some_iff.1 infsortE_c
  obtain ⟨ie, hie, he⟩ := Option.map_eq_some_iff.1 inesortE_c
  simp only [Prod.mk.injEq] at he
  obtain ⟨e1, e2, e3⟩ := he
  have hsw : ∀ m, 2 ≤ m → Lib.swapperK m ie 25 = 9 := fun m hm => by
    have z0 : (m == 0) = false := by simp; omega
    have z1 : (m == 1) = false := by simp; omega
    simp [Lib.swapperK, e2, e3, z0, z1]
  have eg : ∀ args w, (callFunc 68 args).run Try.prog w = .ok (.enter 68 args) w := enters_of Try.func68 (by kernel_rfl) rfl
  refine slice_g (cs := csE) (k := 10) (fun _ => rfl) (by omega) csE_one1 lessE lessE_o 32 43 i ie hi hd (by kernel_rfl) hie 25 (fun _ => by kernel_rfl) e1 (fun _ => by kernel_rfl) hsw 68 #[.pointer (some ⟨Bs, 0, none⟩)] eg B n v l w h hn ?_
  intro blk c W dk hv ht hH hs i j hi hj
  subst hv
  have hB2 : W.cell? ⟨Bs, 0, none⟩ = some (.slice (some ⟨blk, 0, none⟩) n c) := ht.cell hB (fun e => hne (by rw [← e]; rfl))
  exact all1_c Bs blk n c W _ _ i j hi hj hB2 (holdsE_at hH (by omega)) (holdsE_at hH (by omega)) hn
end Go.Proofs.Ytpbgccidhpfmgaa
