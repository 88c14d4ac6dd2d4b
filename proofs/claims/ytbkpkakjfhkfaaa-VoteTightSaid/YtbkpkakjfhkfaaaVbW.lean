/- numbers.write, writeCommand: numbers put behind a row of bytes of the call's own. Conditions: those stated. -/
import Derived.Test.YtbkpkakjfhkfaaaVaC
import Derived.Deep.AppendLies
import Derived.OneCell
import Derived.Deep.RegionLaw
namespace Go.Proofs.Ytbkpkakjfhkfaaa
open Go Go.RowKit
set_option linter.unusedVariables false
set_option linter.unusedSimpArgs false

abbrev tyN : TypeId := 123
theorem be_next8 {size j d : Nat} {n q : Int} (hd : d + 1 + j = size) (hd8 : d ≤ 7) (hq : q = n / 2 ^ (8 * d)) : (be size n).take (j + 1) = (be size n).take j ++ [IntKind.u8.wrap q] := by
  have hj : j < (be size n).length := by rw [be_len]; omega
  rw [take_more _ 0 hj, be_at n (by omega), show size - 1 - j = d by omega, IntKind.wrap_u8', hq]
  have : d = 0 ∨ d = 1 ∨ d = 2 ∨ d = 3 ∨ d = 4 ∨ d = 5 ∨ d = 6 ∨ d = 7 := by omega
  rcases this with rfl | rfl | rfl | rfl | rfl | rfl | rfl | rfl <;> rfl
theorem tch_alloc (w : World) (o : Obj) : Tch Non w (w.alloc o) := tch_new (bl_al (Below.refl _ _) o)
/-- A row of numbers as bytes, in a cell; blocks K are left alone. -/
structure NuS (w : World) (B q : Nat) (l : List Int) (K : Nat → Prop) (ao : Option Addr) (c : Nat) : Prop where
  here : w.heap[q]? = some (.cells #[.slice ao l.length c] tyN)
  own : w.ownsRow B 5 1 (.slice ao l.length c) l.length (u8s l)
  off : (Value.slice ao l.length c).ownBlock ≠ some q
  offK : ∀ k, K k → (Value.slice ao l.length c).ownBlock ≠ some k
  base : B ≤ q
  away : ¬ K q
  lt : ∀ k, K k → k < w.heap.size
theorem NuS.qlt {w : World} {B q c : Nat} {l : List Int} {K : Nat → Prop} {ao : Option Addr} (h : NuS w B q l K ao c) : q < w.heap.size := by
  have := cell_of_one h.here
  exact block_lt_of_cell this
def NuT (w : World) (B q : Nat) (l : List Int) (K : Nat → Prop) : Prop := ∃ ao c, NuS w B q l K ao c
/-- New blocks alone: nothing is lost, and K may take them in. -/
theorem NuS.keep {w w' : World} {B q c : Nat} {l : List Int} {K : Nat → Prop} {ao : Option Addr} (h : NuS w B q l K ao c) (hb : Below w.heap.size w w') : NuS w' B q l K ao c ∧ Kpt K w w' := by
  have ht := tch_new hb
  have hk : Kpt K w w' := fun k hk => ht.block k (h.lt k hk) (fun h => h)
  refine ⟨⟨ht.at h.here (fun h => h), ht.own h.own (fun _ _ h => h), h.off, h.offK, h.base, h.away, fun k hk => Nat.lt_of_lt_of_le (h.lt k hk) ht.size⟩, hk⟩
theorem NuS.more {w : World} {B q c : Nat} {l : List Int} {K : Nat → Prop} {ao : Option Addr} (h : NuS w B q l K ao c) {w' : World} (hb : Below w.heap.size w w') : NuS w' B q l (fun k => K k ∨ (w.heap.size ≤ k ∧ k < w'.heap.size)) ao c := by
  obtain ⟨h1, _⟩ := h.keep hb
  have hq := h.qlt
  refine ⟨h1.here, h1.own, h1.off, fun k hk e => ?_, h1.base, fun hk => ?_, fun k hk => ?_⟩
  · rcases hk with hk | hk
    · exact h.offK k hk e
    · have := (h.own.lt k e).2
      omega
  · rcases hk with hk | hk
    · exact h.away hk
    · omega
  · rcases hk with hk | hk
    · exact h1.lt k hk
    · exact hk.2
theorem NuS.less {w : World} {B q c : Nat} {l : List Int} {K K2 : Nat → Prop} {ao : Option Addr} (h : NuS w B q l K ao c) (hk : ∀ k, K2 k → K k) : NuS w B q l K2 ao c :=
  ⟨h.here, h.own, h.off, fun k h2 => h.offK k (hk k h2), h.base, fun h2 => h.away (hk q h2), fun k h2 => h.lt k (hk k h2)⟩
theorem NuS.step {w w8 : World} {B q c : Nat} {l : List Int} {K : Nat → Prop} {ao : Option Addr} (h : NuS w B q l K ao c) {x : Int} {g8 c8 : Nat} (hown : w8.ownsRow B 5 1 (.slice (some ⟨g8, 0, none⟩) (l.length + 1) c8) (l.length + 1) (u8s (l ++ [x]))) (ht : Tch (fun k => some k = (Value.slice ao l.length c).ownBlock) w w8) (hB : B ≤ w.heap.size)
    (hl : (Value.slice ao l.length c).ownBlock = some g8 ∨ w.heap.size ≤ g8) :
    NuS (w8.setCell ⟨q, 0, none⟩ (.slice (some ⟨g8, 0, none⟩) (l.length + 1) c8)) B q (l ++ [x]) K (some ⟨g8, 0, none⟩) c8 ∧ Kpt K w (w8.setCell ⟨q, 0, none⟩ (.slice (some ⟨g8, 0, none⟩) (l.length + 1) c8)) ∧ Below B w (w8.setCell ⟨q, 0, none⟩ (.slice (some ⟨g8, 0, none⟩) (l.length + 1) c8)) := by
  have hq := h.qlt
  have e1 : (l ++ [x]).length = l.length + 1 := by simp
  have hgq : g8 ≠ q := fun e => by
    rcases hl with hl | hl
    · exact h.off (by rw [hl, e])
    · omega
  have hT2 := tch_set w8 ⟨q, 0, none⟩ (.slice (some ⟨g8, 0, none⟩) (l.length + 1) c8)
  have hTT : Tch (fun k => some k = (Value.slice ao l.length c).ownBlock ∨ k = q) w (w8.setCell ⟨q, 0, none⟩ (.slice (some ⟨g8, 0, none⟩) (l.length + 1) c8)) := ht.join hT2 (fun k h => .inl h) (fun k h => .inr h)
  refine ⟨⟨?_, ?_, ?_, ?_, h.base, h.away, fun k hk => Nat.lt_of_lt_of_le (h.lt k hk) hTT.size⟩, ?_, ?_⟩
  · have h8 := ht.at h.here (fun e => h.off e.symm)
    have := put_row (i := 0) h8 (.slice (some ⟨g8, 0, none⟩) (l.length + 1) c8)
    rw [e1]
    exact this
  · rw [e1]
    exact hT2.own hown (fun g hg e => by cases hg; exact hgq e)
  · intro e
    cases e
    exact hgq rfl
  · intro k hk e
    cases e
    rcases hl with hl | hl
    · exact h.offK _ hk hl
    · have := h.lt g8 hk; omega
  · intro k hk
    refine hTT.block k (h.lt k hk) (fun e => ?_)
    rcases e with e | e
    · exact h.offK k hk e.symm
    · exact h.away (e ▸ hk)
  · refine hTT.below (fun k hk => ?_) hB
    rcases hk with hk | hk
    · exact (h.own.lt k hk.symm).1
    · rw [hk]; exact h.base
set_option maxRecDepth 100000 in
set_option maxHeartbeats 4000000 in
theorem write_c (ns : List Int) (B q : Nat) (l : List Int) (K : Nat → Prop) (a : Option Addr) (n c : Nat) (w : World) (hN : NuT w B q l K) (hI : InI w a n c ns) (hK : ∀ ad, a = some ad → K ad.block) (hn : n ≤ 4096) (hl : l.length ≤ 1048576) (hB : B ≤ w.heap.size) :
    Calls Try.prog 57 #[.pointer (some ⟨q, 0, none⟩), .slice a n c] w fun e w' => e = .returned (.tuple #[]) ∧ NuT w' B q (l ++ nb ns) K ∧ Kpt K w w' ∧ Below B w w' := by
  obtain ⟨i0, hi0, hz0, hz1, hz2⟩ := info_parts info5
  have hlen := hI.len
  have hroom := hI.room
  have HK := Lib.hid hK
  have HI := Lib.hid hI
  have HB := Lib.hid hB
  have HL := Lib.hid hl
  have S0 : Hid (NuT w B q (l ++ nb (ns.take 0)) K ∧ Kpt K w w ∧ Below B w w) := Lib.hid ⟨by simpa [nb] using hN, fun _ _ => rfl, Below.refl _ _⟩
  have HT : Hid (ns.take n = ns) := Lib.hid (List.take_of_length_le (by omega))
  clear hN hI hK hB hl
  go_enter Try.func57, Try.ntmps57
  go_wp2
  go_loopw [5, 6, 9] (fun _ _ iv wr => ∃ i : Nat, i ≤ n ∧ iv = .int .i64 i ∧ Hid (NuT wr B q (l ++ nb (ns.take i)) K ∧ Kpt K w wr ∧ Below B w wr)) (fun _ _ iv _ => n - (intOf iv).toNat)
  case atStart => exact ⟨0, by omega, rfl, S0⟩
  case round =>
    obtain ⟨i, hi, rfl, HS⟩ := hrel
    obtain ⟨w2, rfl⟩ : ∃ v, v = wr := ⟨_, rfl⟩
    clear S0
    by_cases hlt : i < n
    · have ii : (i : Int) < (n : Int) := by omega
      have i0' : (0 : Int) ≤ (i : Int) := by omega
      have ic : (i : Int) ≤ (c : Int) := by omega
      obtain ⟨b1, o1, rfl⟩ := in_blockI HI.out (by omega)
      have hx := in_cellI HI.out i hlt
      have hx2 : w2.cell? ⟨b1, o1 + i, none⟩ = some (.int .i64 (ns.getD i 0)) := HS.out.2.1.cell hx (HK.out ⟨b1, o1, none⟩ rfl)
      obtain ⟨x, ex⟩ : ∃ x, x = ns.getD i 0 := ⟨_, rfl⟩
      have hxt : -9223372036854775808 ≤ x ∧ x < 9223372036854775808 := by rw [ex]; exact fitI_at HI.out.fit (by omega)
      have HNX : Hid (nb (ns.take (i + 1)) = nb (ns.take i) ++ b8 x) := Lib.hid (by rw [take_more ns 0 (by omega), nb_app, nb_one, ex])
      have HLN : Hid ((nb (ns.take i)).length ≤ 32768) := Lib.hid (by rw [nb_len, List.length_take]; omega)
      have HS0 : Hid (NuT w2 B q (l ++ nb (ns.take i) ++ (b8 x).take 0) K ∧ Kpt K w w2 ∧ Below B w w2) := Lib.hid (by simpa using HS.out)
      rw [← ex] at hx2
      clear hx ex HS
      go_wp2
      clear hx2
      go_loopw [6, 13] (fun _ jv wr => ∃ j : Nat, j ≤ 8 ∧ jv = .int .i64 j ∧ Hid (NuT wr B q (l ++ nb (ns.take i) ++ (b8 x).take j) K ∧ Kpt K w wr ∧ Below B w wr)) (fun _ jv _ => 8 - (intOf jv).toNat)
      case atStart => exact ⟨0, by omega, rfl, HS0⟩
      case round =>
        obtain ⟨j, hj, rfl, HJ⟩ := hrel
        obtain ⟨w4, rfl⟩ : ∃ v, v = wr := ⟨_, rfl⟩
        clear HS0
        by_cases hlj : j < 8
        · obtain ⟨d, hd⟩ : ∃ d : Nat, d + 1 + j = 8 := ⟨7 - j, by omega⟩
          have hd8 : d ≤ 7 := by omega
          obtain ⟨y, hy⟩ : ∃ y, y = x / 2 ^ (8 * d) := ⟨_, rfl⟩
          have a1 : ∀ [Inhabited Nat], IntKind.i64.wrap (7 - (j : Int)) = (d : Int) := by intro _; rw [IntWalk.i64_in _ (by omega)]; omega
          have a2' : ∀ [Inhabited Nat], IntKind.i64.wrap (8 * (d : Int)) = 8 * (d : Int) := by intro _; exact IntWalk.i64_in _ (by omega)
          have a3 : 0 ≤ 8 * (d : Int) := by omega
          have a4 : x / 2 ^ (8 * (d : Int)).toNat = y := by rw [hy]; congr 2
          have HNJ : Hid ((b8 x).take (j + 1) = (b8 x).take j ++ [IntKind.u8.wrap y]) := Lib.hid (by rw [← be8]; exact be_next8 hd hd8 hy)
          have ilj : (j : Int) < 8 := by omega
          obtain ⟨M, hM⟩ : ∃ M, M = l ++ nb (ns.take i) ++ (b8 x).take j := ⟨_, rfl⟩
          have hM8 : M.length ≤ 1081352 := by rw [hM]; simp only [List.length_append, List.length_take]; have := HL.out; have := HLN.out; omega
          have HMJ : Hid (l ++ nb (ns.take i) ++ (b8 x).take (j + 1) = M ++ [IntKind.u8.wrap y]) := Lib.hid (by rw [HNJ.out, hM, ← List.append_assoc])
          obtain ⟨hT, hk, hb⟩ := HJ.out
          rw [← hM] at hT
          obtain ⟨ao, c1, hS⟩ := hT
          have HS4 := Lib.hid hS
          have HK4 := Lib.hid hk
          have HB4 := Lib.hid hb
          have HBW : Hid (B ≤ w4.heap.size) := Lib.hid (by have := HB.out; have := hb.size; omega)
          have hqW := hS.qlt
          have e0 := cell_of_one hS.here
          have ef := free_of_one hS.here
          have hTA := tch_alloc w4 (.cells #[.int .u8 (IntKind.u8.wrap y)] 5)
          have HQA := Lib.hid (hTA.at hS.here (fun h => h))
          have HEA := Lib.hid (hTA.cell e0 (fun h => h))
          have HOL := Lib.hid (hS.own.alloc (.cells #[.int .u8 (IntKind.u8.wrap y)] 5))
          have HN5 := Lib.hid (one_new w4 (.int .u8 (IntKind.u8.wrap y)) 5)
          have HA0 : Hid (¬ some q = (Value.slice ao M.length c1).ownBlock) := Lib.hid (fun e => hS.off e.symm)
          obtain ⟨m, hm⟩ : ∃ m, m = M.length := ⟨_, rfl⟩
          rw [← hm] at e0 HOL HA0 HEA HQA hM8
          have HM := Lib.hid hm
          have HD := Lib.hid hd
          clear hy hd hM hS hk hb hTA HJ hm hxt
          go_upto_region 6 with fail
          go_region_law (first
            | (refine step_append_lies _ rfl (.tmp 19) (.tmp 26) 123 rfl B 5 i0 (.int .u8 0) 1 1 Try.underlying123 hi0 hz0 hz1 hz2 rfl (by decide) _ m (u8s M) rfl HOL.out ⟨w4.heap.size, 0, none⟩ 1 1 [.int .u8 (IntKind.u8.wrap y)] rfl rfl HN5.out (by intro u hu; simp at hu; subst hu; rfl) (by decide) (by unfold maxLen; omega) (by omega) (by have := HBW.out; simp; omega) _ rfl ?_; intro g8 c8 w8 hown8 hg8 hlie hlt8; have hT8 := tch_grown hg8; have h8 := hT8.at HQA.out HA0.out; have e08 := cell_of_one h8; have ef8 := free_of_one h8)
            | fail)
          all_goals
            have hTT : Tch (fun k => some k = (Value.slice ao m c1).ownBlock) w4 w8 := ((tch_new ((bl_al (Below.refl w4.heap.size w4) (.cells #[.int .u8 (IntKind.u8.wrap y)] 5)).drew)).mono (fun _ h => h.elim)).trans hT8
            have hlx : (Value.slice ao m c1).ownBlock = some g8 ∨ w4.heap.size ≤ g8 := hlie.imp (fun h => h) (fun h => by rw [h]; simp)
            rw [HM.out] at hown8 hTT hlx
            have hst := HS4.out.step (x := IntKind.u8.wrap y) (by rw [← u8s_app]; exact hown8) hTT HBW.out hlx
            have HST := Lib.hid hst
            clear hown8 hTT hlx hlie hlt8 hT8 h8 e08 ef8 hg8 e0 ef hst a3 a4 HOL HN5 HQA HEA HA0
            rw [← HM.out] at HST
            go_wp2
            go_roundw
            case rel =>
              exact ⟨j + 1, by omega, by go_num, Lib.hid ⟨⟨some ⟨g8, 0, none⟩, c8, by rw [HMJ.out]; exact HST.out.1⟩, HK4.out.trans HST.out.2.1, HB4.out.trans HST.out.2.2⟩⟩
            case measure => simp [intOf]; omega
        · have hj8 : j = 8 := by omega
          subst hj8
          have HF : Hid (NuT w4 B q (l ++ nb (ns.take (i + 1))) K ∧ Kpt K w w4 ∧ Below B w w4) := Lib.hid (by
            have := HJ.out
            rw [show (b8 x).take 8 = b8 x from List.take_of_length_le (by rw [b8_len]; omega), List.append_assoc, ← HNX.out] at this
            exact this)
          clear HJ
          go_wp2
          go_roundw
          case rel => exact ⟨i + 1, by omega, by go_num, HF⟩
          case measure => simp [intOf]; omega
    · have ii : ¬ (i : Int) < (n : Int) := by omega
      obtain rfl : i = n := by omega
      go_wp2
      go_end0
      have := HS.out
      rw [HT.out] at this
      exact ⟨rfl, this⟩
end Go.Proofs.Ytbkpkakjfhkfaaa
