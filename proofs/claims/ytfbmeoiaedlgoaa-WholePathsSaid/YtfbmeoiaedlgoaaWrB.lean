/- The contract of packet's put: numbers are written behind what a writer holds. Conditions: sizes from 1 to 4, numbers from 0 to 2^32 - 1, at most 2^20 bytes. -/
import Derived.Test.YtfbmeoiaedlgoaaWrA
namespace Go.Proofs.Ytfbmeoiaedlgoaa
open Go Go.RowKit
set_option linter.unusedVariables false
set_option linter.unusedSimpArgs false

/-- What put's loops hold. -/
structure Putting (b x : Nat) (ns : List Int) (w wr : World) (cur : List Int) : Prop where
  row : ∃ ao c, wr.heap[b]? = some (.cells #[.slice ao cur.length c] 90 (0, 0)) ∧ wr.ownsRow (b + 1) 5 1 (.slice ao cur.length c) cur.length (u8s cur) ∧ (Value.slice ao cur.length c).ownBlock ≠ some x
  below : Below b w wr
  nums : ∀ j, j < ns.length → wr.cell? ⟨x, j, none⟩ = some (.int .i64 (ns.getD j 0))
  lt : b < x ∧ x < wr.heap.size
  size : w.heap.size ≤ wr.heap.size

theorem Putting.far {b n c : Nat} {w w3 : World} {ao : Option Addr} {u : Value} {t : TypeId} {o : Obj} {xs : List Value} (hC : w.heap[b]? = some (.cells #[u] t (0, 0))) (hO : w.ownsRow (b + 1) 5 1 (.slice ao n c) n xs)
    (hg : (w.alloc o).drew.grownBy w3 (Value.slice ao n c).ownBlock) : w3.heap[b]? = some (.cells #[u] t (0, 0)) := by
  have hs := lt_of_block hC
  rw [hg.block b (by show b < (w.alloc o).heap.size; simp; omega) (fun e => by have := (hO.lt b e.symm).1; omega)]
  show (w.alloc o).heap[b]? = _
  rw [heap_alloc_old w o hs]
  exact hC
theorem Putting.step {b x c g cap : Nat} {ns : List Int} {w wr w3 : World} {cur : List Int} {ao : Option Addr} {o : Obj} {y : Int} (h : Putting b x ns w wr cur) (hC : wr.heap[b]? = some (.cells #[.slice ao cur.length c] 90 (0, 0)))
    (hO : wr.ownsRow (b + 1) 5 1 (.slice ao cur.length c) cur.length (u8s cur)) (hE : (Value.slice ao cur.length c).ownBlock ≠ some x)
    (h3 : w3.ownsRow (b + 1) 5 1 (.slice (some ⟨g, 0, none⟩) (cur.length + 1) cap) (cur.length + 1) (u8s cur ++ [.int .u8 y])) (hg : (wr.alloc o).drew.grownBy w3 (Value.slice ao cur.length c).ownBlock)
    (hat : (Value.slice ao cur.length c).ownBlock = some g ∨ g = (wr.alloc o).drew.heap.size) : Putting b x ns w (w3.setCell ⟨b, 0, none⟩ (.slice (some ⟨g, 0, none⟩) (cur.length + 1) cap)) (cur ++ [y]) := by
  have hb3 := Putting.far hC hO hg
  have hsz : (wr.alloc o).drew.heap.size = wr.heap.size + 1 := by show (wr.alloc o).heap.size = _; simp
  have hl : (cur ++ [y]).length = cur.length + 1 := by simp
  have hx : ∀ k, k < wr.heap.size → k ≠ b → (Value.slice ao cur.length c).ownBlock ≠ some k → (w3.setCell ⟨b, 0, none⟩ (.slice (some ⟨g, 0, none⟩) (cur.length + 1) cap)).heap[k]? = wr.heap[k]? := by
    intro k hk hkb hko
    rw [Below.heap_setCell _ _ _ _ hkb, hg.block k (by omega) (fun e => hko e.symm)]
    exact heap_alloc_old wr o hk
  refine ⟨⟨some ⟨g, 0, none⟩, cap, ?_, ?_, ?_⟩, ?_, ?_, ?_, ?_⟩
  · rw [hl]
    exact one_setCell hb3
  · rw [hl, show u8s (cur ++ [y]) = u8s cur ++ [.int .u8 y] by rw [← u8s_app]; rfl]
    exact ownsRow_setCell_below h3 (Nat.lt_succ_self b) _
  · show some g ≠ some x
    rcases hat with e | e
    · rw [← e]; exact hE
    · have := h.lt.2
      intro e2
      cases e2
      omega
  · exact ((((h.below.alloc (by have := h.lt; omega) o).drew).grown hg (by have := h.lt; omega) (fun k hk => by have := (hO.lt k hk).1; omega)).setCell (p := ⟨b, 0, none⟩) (Nat.le_refl _) _)
  · intro j hj
    have := h.nums j hj
    exact (World.cell?_of_block (w := wr) (a := ⟨x, j, none⟩) (hx x h.lt.2 (by have := h.lt.1; omega) hE)).trans this
  · have h1 := h.lt
    have h2 := hg.size
    refine ⟨h1.1, ?_⟩
    simp
    omega
  · have h1 := h.size
    have h2 := hg.size
    simp
    omega

theorem flat_be_len (size : Nat) : ∀ ns : List Int, (ns.flatMap (be size)).length = ns.length * size
  | [] => by simp
  | n :: ns => by
    rw [List.flatMap_cons, List.length_append, be_len, flat_be_len size ns, List.length_cons, Nat.add_mul]
    omega
theorem flat_be_short {size k : Nat} (ns : List Int) (hk : k ≤ 16) (hs : size ≤ 4) : ((ns.take k).flatMap (be size)).length ≤ 64 := by
  rw [flat_be_len]
  have h1 : (ns.take k).length ≤ 16 := by rw [List.length_take]; omega
  exact Nat.mul_le_mul h1 hs
theorem be_next {size j d : Nat} {n q : Int} (hd : d + 1 + j = size) (hd4 : d ≤ 3) (hq : q = n / 2 ^ (8 * d)) : (be size n).take (j + 1) = (be size n).take j ++ [IntKind.u8.wrap q] := by
  have hj : j < (be size n).length := by rw [be_len]; omega
  rw [take_more _ 0 hj, be_at n (by omega), show size - 1 - j = d by omega, IntKind.wrap_u8', hq]
  have : d = 0 ∨ d = 1 ∨ d = 2 ∨ d = 3 := by omega
  rcases this with rfl | rfl | rfl | rfl <;> rfl

set_option maxRecDepth 100000 in
set_option maxHeartbeats 1000000 in
theorem put_walk (b x size K : Nat) (ns l : List Int) (hK : ns.length = K) (hK4 : K ≤ 16) (hs : 1 ≤ size ∧ size ≤ 4) (hns : ∀ n ∈ ns, 0 ≤ n ∧ n < 4294967296) (hl : l.length ≤ 1048576) (w wx : World) (h : Putting b x ns w wx l) :
    Calls Try.prog 66 #[.pointer (some ⟨b, 0, none⟩), .int .i64 size, .slice (some ⟨x, 0, none⟩) K K] wx fun e w' => e = .returned (.tuple #[]) ∧ ∃ cur, Hid (cur = l ++ ns.flatMap (be size)) ∧ Putting b x ns w w' cur := by
  obtain ⟨s1, s4⟩ := hs
  have HK := Lib.hid hK
  have HNS := Lib.hid hns
  have HP := Lib.hid h
  clear hK hns h
  go_enter Try.func66, Try.ntmps66
  go_wp2
  go_loopw [11] (fun i wr => ∃ (k : Nat) (cur : List Int), k ≤ K ∧ i = .int .i64 k ∧ Hid (cur = l ++ (ns.take k).flatMap (be size)) ∧ Hid (Putting b x ns w wr cur)) (fun i _ => K - (intOf i).toNat)
  case atStart => exact ⟨0, l, by omega, rfl, Lib.hid (by simp), HP⟩
  case round =>
    obtain ⟨k, cur, hk, rfl, hcur, hP⟩ := hrel
    by_cases hlt : k < K
    · have hck := hP.out.nums k (by rw [HK.out]; exact hlt)
      obtain ⟨n, hn⟩ : ∃ n, n = ns.getD k 0 := ⟨_, rfl⟩
      have hn0 := HNS.out n (by rw [hn, List.getD_eq_getElem?_getD, List.getElem?_eq_getElem (by rw [HK.out]; exact hlt)]; exact List.getElem_mem _)
      rw [← hn] at hck
      have HN := Lib.hid hn
      have hcl : cur.length ≤ 1048640 := by
        rw [hcur.out, List.length_append]
        have := flat_be_short ns (k := k) (by omega) s4
        omega
      obtain ⟨n0, n1⟩ := hn0
      clear hn
      go_wp2
      obtain ⟨wo, rfl⟩ : ∃ wo : World, wo = wr := ⟨_, rfl⟩
      go_loopw [16] (fun i wr => ∃ (j : Nat) (c2 : List Int), j ≤ size ∧ i = .int .i64 j ∧ Hid (c2 = cur ++ (be size n).take j) ∧ Hid (Putting b x ns w wr c2)) (fun i _ => size - (intOf i).toNat)
      case atStart => exact ⟨0, cur, by omega, rfl, Lib.hid (by simp), hP⟩
      case round =>
        obtain ⟨j, c2, hj, rfl, hc2, hP2⟩ := hrel
        by_cases hlj : j < size
        · obtain ⟨ao, c, hcell, hown, hne⟩ := hP2.out.row
          have hv := cell_of_one hcell
          have hfr := free_of_one hcell
          have hsz := lt_of_block hcell
          have HO := Lib.hid hown
          have HE := Lib.hid hne
          have HC := Lib.hid hcell
          clear hown hne hcell
          obtain ⟨i0, hi0, hz0, hz1, hz2⟩ := info_parts info5
          obtain ⟨d, hd⟩ : ∃ d : Nat, d + 1 + j = size := ⟨size - 1 - j, by omega⟩
          have hd4 : d ≤ 3 := by omega
          obtain ⟨q, hq⟩ : ∃ q, q = n / 2 ^ (8 * d) := ⟨_, rfl⟩
          have hlc : c2.length ≤ 1048700 := by rw [hc2.out, List.length_append, List.length_take]; omega
          have h63 : c2.length + 1 ≤ maxLen := by unfold maxLen; omega
          have hby : (c2.length + 1) * 1 ≤ 140737488355328 := by omega
          have hba : b + 1 ≤ (wr.alloc (.cells #[.int .u8 (IntKind.u8.wrap q)] 5)).drew.heap.size := by simp; omega
          have hon : ∀ u ∈ [Value.int .u8 (IntKind.u8.wrap q)], u.oneCell' = true := by intro u hu; simp at hu; subst hu; rfl
          have H63 := Lib.hid h63
          have HBY := Lib.hid hby
          have HBA := Lib.hid hba
          have HON := Lib.hid hon
          have a0 : IntKind.i64.wrap ((size : Int) - 1) = (size : Int) - 1 := IntWalk.i64_in _ (by omega)
          have a1 : IntKind.i64.wrap ((size : Int) - 1 - (j : Int)) = (d : Int) := by rw [IntWalk.i64_in _ (by omega)]; omega
          have a2 : IntKind.i64.wrap (8 * (d : Int)) = 8 * (d : Int) := IntWalk.i64_in _ (by omega)
          have a3 : 0 ≤ 8 * (d : Int) := by omega
          have a4 : n / 2 ^ (8 * (d : Int)).toNat = q := by rw [hq]; congr 2
          have HNW : Hid (∀ j u, [Value.int .u8 (IntKind.u8.wrap q)][j]? = some u → (wr.alloc (.cells #[.int .u8 (IntKind.u8.wrap q)] 5)).drew.cell? ((⟨wr.heap.size, 0, none⟩ : Addr).add j) = some u) := Lib.hid (fun j u hu => cell_one_new wr _ _ j u hu)
          have HQ := Lib.hid hq
          have HD := Lib.hid hd
          clear hd hq h63 hby hba hon
          go_wp2
          go_region_law (refine step_append_lies _ rfl (.tmp 22) (.tmp 31) 90 rfl (b + 1) 5 i0 (.int .u8 0) 1 1 Try.underlying90 hi0 hz0 hz1 hz2 rfl (by decide) _ c2.length (u8s c2) rfl (HO.out.alloc _).drew ⟨wr.heap.size, 0, none⟩ 1 1 [.int .u8 (IntKind.u8.wrap q)] rfl rfl HNW.out HON.out (by decide) H63.out HBY.out HBA.out _ rfl ?_; intro g cap w3 hown3 hgrow3 hat hlt; have hb3 := Putting.far HC.out HO.out hgrow3; have hv3 := cell_of_one hb3; have hf3 := free_of_one hb3; clear hb3)
          all_goals
            have HP3 := Lib.hid (Putting.step hP2.out HC.out HO.out HE.out hown3 hgrow3 hat)
            have HC3 : Hid (c2 ++ [IntKind.u8.wrap q] = cur ++ (be size n).take (j + 1)) := Lib.hid (by rw [be_next HD.out hd4 HQ.out, hc2.out, List.append_assoc])
            clear hown3 hgrow3 hat hlt hv3 hf3 hv hfr a0 a1 a2 a3 a4 HNW HON HBA HBY H63 hlc
            try simp only [List.getElem_toArray, List.getElem_cons_succ, List.getElem_cons_zero, List.set_cons_succ, List.set_cons_zero]
            go_wp2
            go_roundw
            case rel => exact ⟨j + 1, _, by omega, by go_num, HC3, HP3⟩
            case measure => simp [intOf]; omega
        · have HC2 : Hid (c2 = l ++ (ns.take (k + 1)).flatMap (be size)) := Lib.hid (by
            rw [hc2.out, hcur.out, List.take_of_length_le (l := be size n) (i := j) (by rw [be_len]; omega), take_more ns 0 (by rw [HK.out]; exact hlt), List.flatMap_append, ← HN.out, List.append_assoc]
            simp)
          go_wp2
          go_roundw
          case rel => exact ⟨k + 1, _, by omega, by go_num, HC2, hP2⟩
          case measure => simp [intOf]; omega
    · have HC2 : Hid (cur = l ++ ns.flatMap (be size)) := Lib.hid (by rw [hcur.out, List.take_of_length_le (by rw [HK.out]; omega)])
      go_wp2
      go_end0
      exact ⟨rfl, _, HC2, hP.out⟩

/-- Numbers laid in a new block, and written behind what a writer holds. -/
theorem put_any (b size K : Nat) (ns l : List Int) (C : Array Value) (hC : C = (ns.map (Value.int .i64)).toArray) (hK : ns.length = K) (hK4 : K ≤ 16) (hs : 1 ≤ size ∧ size ≤ 4) (hns : ∀ n ∈ ns, 0 ≤ n ∧ n < 4294967296) (hl : l.length ≤ 1048576) (w : World) (h : Wr b w l) (x : Nat) (hx : x = w.heap.size) :
    Calls Try.prog 66 #[.pointer (some ⟨b, 0, none⟩), .int .i64 size, .slice (some ⟨x, 0, none⟩) K K] (w.alloc (.cells C 3)) fun e w' => e = .returned (.tuple #[]) ∧ Wr b w' (l ++ ns.flatMap (be size)) ∧ Below b w w' ∧ w.heap.size ≤ w'.heap.size := by
  subst hx
  obtain ⟨ao, c, h1, h2⟩ := h
  have hs1 := lt_of_block h1
  have hP : Putting b w.heap.size ns w (w.alloc (.cells C 3)) l := by
    refine ⟨⟨ao, c, by rw [heap_alloc_old w _ hs1]; exact h1, h2.alloc _, fun e => by have := (h2.lt _ e).2; omega⟩, (Below.refl b w).alloc (by omega) _, fun j hj => ?_, ⟨hs1, by simp⟩, by simp⟩
    subst hC
    have := cells_new w (ns.map (Value.int .i64)) 3 (0, 0) j (.int .i64 (ns.getD j 0)) (by rw [List.getElem?_map, List.getElem?_eq_getElem hj, List.getD_eq_getElem?_getD, List.getElem?_eq_getElem hj]; rfl)
    rw [Nat.zero_add] at this
    exact this
  refine (put_walk b w.heap.size size K ns l hK hK4 hs hns hl w _ hP).mono ?_
  rintro e w' ⟨he, cur, hc, hp⟩
  rw [hc.out] at hp
  obtain ⟨ao', c', g1, g2, _⟩ := hp.row
  exact ⟨he, ⟨ao', c', g1, g2⟩, hp.below, hp.size⟩
end Go.Proofs.Ytfbmeoiaedlgoaa
