/- numbers.write, writeCommand: numbers put behind a row of bytes of the call's own. Conditions: those stated. numbers.writeCommand. Conditions: those stated. A set of names as a map; CheckLog. Conditions: the row came in. The program's Write. Condition: the row came in. copyLog and the document's Copy. Condition: the row came in. -/
import Derived.Test.YtnhnpfhfcbmmlaaVaC
import Derived.Deep.AppendLies
import Derived.OneCell
import Derived.Deep.RegionLaw
import Derived.Maps.OwnSet
import Derived.Maps.RangeWalk
import Derived.DeepKeys4
import Derived.Laws.AppendOwnNone
import Derived.Laws.Rows
namespace Go.Proofs.Ytnhnpfhfcbmmlaa
open Go Go.RowKit
set_option linter.unusedVariables false
set_option linter.unusedSimpArgs false

abbrev tyN : TypeId := 123
theorem be_next8 {size j d : Nat} {n q : Int} (hd : d + 1 + j = size) (hd8 : d ≤ 7) (hq : q = n / 2 ^ (8 * d)) : (be size n).take (j + 1) = (be size n).take j ++ [IntKind.u8.wrap q] := by
  have hj : j < (be size n).length := by rw [be_len]; omega
  rw [take_more _ 0 hj, be_at n (by omega), show size - 1 - j = d by omega, IntKind.wrap_u8', hq]
  have : d = 0 ∨ d = 1 ∨ d = 2 ∨ d = 3 ∨ d = 4 ∨ d = 5 ∨ d = 6 ∨ d = 7 := by omega
  rcases this with rfl | rfl | rfl | rfl | rfl | rfl | rfl | rfl <;> rfl
theorem tch_alloc (w : World) (o : Obj) : Tch Non w (w.alloc o) := tch_new (bl_al (Below.refl _ _) o)
/-- A row of numbers as bytes, in a cell; blocks K are left alone. -/
structure NuS (w : World) (B q : Nat) (l : List Int) (K : Nat → Prop) (ao : Option Addr) (c : Nat) : Prop where
  here : w.heap[q]? = some (.cells #[.slice ao l.length c] tyN)
  own : w.ownsRow B 5 1 (.slice ao l.length c) l.length (u8s l)
  off : (Value.slice ao l.length c).ownBlock ≠ some q
  offK : ∀ k, K k → (Value.slice ao l.length c).ownBlock ≠ some k
  base : B ≤ q
  away : ¬ K q
  lt : ∀ k, K k → k < w.heap.size
theorem NuS.qlt {w : World} {B q c : Nat} {l : List Int} {K : Nat → Prop} {ao : Option Addr} (h : NuS w B q l K ao c) : q < w.heap.size := by
  have := cell_of_one h.here
  exact block_lt_of_cell this
def NuT (w : World) (B q : Nat) (l : List Int) (K : Nat → Prop) : Prop := ∃ ao c, NuS w B q l K ao c
/-- New blocks alone: nothing is lost, and K may take them in. -/
theorem NuS.keep {w w' : World} {B q c : Nat} {l : List Int} {K : Nat → Prop} {ao : Option Addr} (h : NuS w B q l K ao c) (hb : Below w.heap.size w w') : NuS w' B q l K ao c ∧ Kpt K w w' := by
  have ht := tch_new hb
  have hk : Kpt K w w' := fun k hk => ht.block k (h.lt k hk) (fun h => h)
  refine ⟨⟨ht.at h.here (fun h => h), ht.own h.own (fun _ _ h => h), h.off, h.offK, h.base, h.away, fun k hk => Nat.lt_of_lt_of_le (h.lt k hk) ht.size⟩, hk⟩
theorem NuS.more {w : World} {B q c : Nat} {l : List Int} {K : Nat → Prop} {ao : Option Addr} (h : NuS w B q l K ao c) {w' : World} (hb : Below w.heap.size w w') : NuS w' B q l (fun k => K k ∨ (w.heap.size ≤ k ∧ k < w'.heap.size)) ao c := by
  obtain ⟨h1, _⟩ := h.keep hb
  have hq := h.qlt
  refine ⟨h1.here, h1.own, h1.off, fun k hk e => ?_, h1.base, fun hk => ?_, fun k hk => ?_⟩
  · rcases hk with hk | hk
    · exact h.offK k hk e
    · have := (h.own.lt k e).2
      omega
  · rcases hk with hk | hk
    · exact h.away hk
    · omega
  · rcases hk with hk | hk
    · exact h1.lt k hk
    · exact hk.2
theorem NuS.less {w : World} {B q c : Nat} {l : List Int} {K K2 : Nat → Prop} {ao : Option Addr} (h : NuS w B q l K ao c) (hk : ∀ k, K2 k → K k) : NuS w B q l K2 ao c :=
  ⟨h.here, h.own, h.off, fun k h2 => h.offK k (hk k h2), h.base, fun h2 => h.away (hk q h2), fun k h2 => h.lt k (hk k h2)⟩
theorem NuS.step {w w8 : World} {B q c : Nat} {l : List Int} {K : Nat → Prop} {ao : Option Addr} (h : NuS w B q l K ao c) {x : Int} {g8 c8 : Nat} (hown : w8.ownsRow B 5 1 (.slice (some ⟨g8, 0, none⟩) (l.length + 1) c8) (l.length + 1) (u8s (l ++ [x]))) (ht : Tch (fun k => some k = (Value.slice ao l.length c).ownBlock) w w8) (hB : B ≤ w.heap.size)
    (hl : (Value.slice ao l.length c).ownBlock = some g8 ∨ w.heap.size ≤ g8) :
    NuS (w8.setCell ⟨q, 0, none⟩ (.slice (some ⟨g8, 0, none⟩) (l.length + 1) c8)) B q (l ++ [x]) K (some ⟨g8, 0, none⟩) c8 ∧ Kpt K w (w8.setCell ⟨q, 0, none⟩ (.slice (some ⟨g8, 0, none⟩) (l.length + 1) c8)) ∧ Below B w (w8.setCell ⟨q, 0, none⟩ (.slice (some ⟨g8, 0, none⟩) (l.length + 1) c8)) := by
  have hq := h.qlt
  have e1 : (l ++ [x]).length = l.length + 1 := by simp
  have hgq : g8 ≠ q := fun e => by
    rcases hl with hl | hl
    · exact h.off (by rw [hl, e])
    · omega
  have hT2 := tch_set w8 ⟨q, 0, none⟩ (.slice (some ⟨g8, 0, none⟩) (l.length + 1) c8)
  have hTT : Tch (fun k => some k = (Value.slice ao l.length c).ownBlock ∨ k = q) w (w8.setCell ⟨q, 0, none⟩ (.slice (some ⟨g8, 0, none⟩) (l.length + 1) c8)) := ht.join hT2 (fun k h => .inl h) (fun k h => .inr h)
  refine ⟨⟨?_, ?_, ?_, ?_, h.base, h.away, fun k hk => Nat.lt_of_lt_of_le (h.lt k hk) hTT.size⟩, ?_, ?_⟩
  · have h8 := ht.at h.here (fun e => h.off e.symm)
    have := put_row (i := 0) h8 (.slice (some ⟨g8, 0, none⟩) (l.length + 1) c8)
    rw [e1]
    exact this
  · rw [e1]
    exact hT2.own hown (fun g hg e => by cases hg; exact hgq e)
  · intro e
    cases e
    exact hgq rfl
  · intro k hk e
    cases e
    rcases hl with hl | hl
    · exact h.offK _ hk hl
    · have := h.lt g8 hk; omega
  · intro k hk
    refine hTT.block k (h.lt k hk) (fun e => ?_)
    rcases e with e | e
    · exact h.offK k hk e.symm
    · exact h.away (e ▸ hk)
  · refine hTT.below (fun k hk => ?_) hB
    rcases hk with hk | hk
    · exact (h.own.lt k hk.symm).1
    · rw [hk]; exact h.base
set_option maxRecDepth 100000 in
set_option maxHeartbeats 4000000 in
theorem write_c (ns : List Int) (B q : Nat) (l : List Int) (K : Nat → Prop) (a : Option Addr) (n c : Nat) (w : World) (hN : NuT w B q l K) (hI : InI w a n c ns) (hK : ∀ ad, a = some ad → K ad.block) (hn : n ≤ 4096) (hl : l.length ≤ 1048576) (hB : B ≤ w.heap.size) :
    Calls Try.prog 57 #[.pointer (some ⟨q, 0, none⟩), .slice a n c] w fun e w' => e = .returned (.tuple #[]) ∧ NuT w' B q (l ++ nb ns) K ∧ Kpt K w w' ∧ Below B w w' := by
  obtain ⟨i0, hi0, hz0, hz1, hz2⟩ := info_parts info5
  have hlen := hI.len
  have hroom := hI.room
  have HK := Lib.hid hK
  have HI := Lib.hid hI
  have HB := Lib.hid hB
  have HL := Lib.hid hl
  have S0 : Hid (NuT w B q (l ++ nb (ns.take 0)) K ∧ Kpt K w w ∧ Below B w w) := Lib.hid ⟨by simpa [nb] using hN, fun _ _ => rfl, Below.refl _ _⟩
  have HT : Hid (ns.take n = ns) := Lib.hid (List.take_of_length_le (by omega))
  clear hN hI hK hB hl
  go_enter Try.func57, Try.ntmps57
  go_wp2
  go_loopw [5, 6, 9] (fun _ _ iv wr => ∃ i : Nat, i ≤ n ∧ iv = .int .i64 i ∧ Hid (NuT wr B q (l ++ nb (ns.take i)) K ∧ Kpt K w wr ∧ Below B w wr)) (fun _ _ iv _ => n - (intOf iv).toNat)
  case atStart => exact ⟨0, by omega, rfl, S0⟩
  case round =>
    obtain ⟨i, hi, rfl, HS⟩ := hrel
    obtain ⟨w2, rfl⟩ : ∃ v, v = wr := ⟨_, rfl⟩
    clear S0
    by_cases hlt : i < n
    · have ii : (i : Int) < (n : Int) := by omega
      have i0' : (0 : Int) ≤ (i : Int) := by omega
      have ic : (i : Int) ≤ (c : Int) := by omega
      obtain ⟨b1, o1, rfl⟩ := in_blockI HI.out (by omega)
      have hx := in_cellI HI.out i hlt
      have hx2 : w2.cell? ⟨b1, o1 + i, none⟩ = some (.int .i64 (ns.getD i 0)) := HS.out.2.1.cell hx (HK.out ⟨b1, o1, none⟩ rfl)
      obtain ⟨x, ex⟩ : ∃ x, x = ns.getD i 0 := ⟨_, rfl⟩
      have hxt : -9223372036854775808 ≤ x ∧ x < 9223372036854775808 := by rw [ex]; exact fitI_at HI.out.fit (by omega)
      have HNX : Hid (nb (ns.take (i + 1)) = nb (ns.take i) ++ b8 x) := Lib.hid (by rw [take_more ns 0 (by omega), nb_app, nb_one, ex])
      have HLN : Hid ((nb (ns.take i)).length ≤ 32768) := Lib.hid (by rw [nb_len, List.length_take]; omega)
      have HS0 : Hid (NuT w2 B q (l ++ nb (ns.take i) ++ (b8 x).take 0) K ∧ Kpt K w w2 ∧ Below B w w2) := Lib.hid (by simpa using HS.out)
      rw [← ex] at hx2
      clear hx ex HS
      go_wp2
      clear hx2
      go_loopw [6, 13] (fun _ jv wr => ∃ j : Nat, j ≤ 8 ∧ jv = .int .i64 j ∧ Hid (NuT wr B q (l ++ nb (ns.take i) ++ (b8 x).take j) K ∧ Kpt K w wr ∧ Below B w wr)) (fun _ jv _ => 8 - (intOf jv).toNat)
      case atStart => exact ⟨0, by omega, rfl, HS0⟩
      case round =>
        obtain ⟨j, hj, rfl, HJ⟩ := hrel
        obtain ⟨w4, rfl⟩ : ∃ v, v = wr := ⟨_, rfl⟩
        clear HS0
        by_cases hlj : j < 8
        · obtain ⟨d, hd⟩ : ∃ d : Nat, d + 1 + j = 8 := ⟨7 - j, by omega⟩
          have hd8 : d ≤ 7 := by omega
          obtain ⟨y, hy⟩ : ∃ y, y = x / 2 ^ (8 * d) := ⟨_, rfl⟩
          have a1 : ∀ [Inhabited Nat], IntKind.i64.wrap (7 - (j : Int)) = (d : Int) := by intro _; rw [IntWalk.i64_in _ (by omega)]; omega
          have a2' : ∀ [Inhabited Nat], IntKind.i64.wrap (8 * (d : Int)) = 8 * (d : Int) := by intro _; exact IntWalk.i64_in _ (by omega)
          have a3 : 0 ≤ 8 * (d : Int) := by omega
          have a4 : x / 2 ^ (8 * (d : Int)).toNat = y := by rw [hy]; congr 2
          have HNJ : Hid ((b8 x).take (j + 1) = (b8 x).take j ++ [IntKind.u8.wrap y]) := Lib.hid (by rw [← be8]; exact be_next8 hd hd8 hy)
          have ilj : (j : Int) < 8 := by omega
          obtain ⟨M, hM⟩ : ∃ M, M = l ++ nb (ns.take i) ++ (b8 x).take j := ⟨_, rfl⟩
          have hM8 : M.length ≤ 1081352 := by rw [hM]; simp only [List.length_append, List.length_take]; have := HL.out; have := HLN.out; omega
          have HMJ : Hid (l ++ nb (ns.take i) ++ (b8 x).take (j + 1) = M ++ [IntKind.u8.wrap y]) := Lib.hid (by rw [HNJ.out, hM, ← List.append_assoc])
          obtain ⟨hT, hk, hb⟩ := HJ.out
          rw [← hM] at hT
          obtain ⟨ao, c1, hS⟩ := hT
          have HS4 := Lib.hid hS
          have HK4 := Lib.hid hk
          have HB4 := Lib.hid hb
          have HBW : Hid (B ≤ w4.heap.size) := Lib.hid (by have := HB.out; have := hb.size; omega)
          have hqW := hS.qlt
          have e0 := cell_of_one hS.here
          have ef := free_of_one hS.here
          have hTA := tch_alloc w4 (.cells #[.int .u8 (IntKind.u8.wrap y)] 5)
          have HQA := Lib.hid (hTA.at hS.here (fun h => h))
          have HEA := Lib.hid (hTA.cell e0 (fun h => h))
          have HOL := Lib.hid (hS.own.alloc (.cells #[.int .u8 (IntKind.u8.wrap y)] 5))
          have HN5 := Lib.hid (one_new w4 (.int .u8 (IntKind.u8.wrap y)) 5)
          have HA0 : Hid (¬ some q = (Value.slice ao M.length c1).ownBlock) := Lib.hid (fun e => hS.off e.symm)
          obtain ⟨m, hm⟩ : ∃ m, m = M.length := ⟨_, rfl⟩
          rw [← hm] at e0 HOL HA0 HEA HQA hM8
          have HM := Lib.hid hm
          have HD := Lib.hid hd
          clear hy hd hM hS hk hb hTA HJ hm hxt
          go_upto_region 6 with fail
          go_region_law (first
            | (refine step_append_lies _ rfl (.tmp 19) (.tmp 26) 123 rfl B 5 i0 (.int .u8 0) 1 1 Try.underlying123 hi0 hz0 hz1 hz2 rfl (by decide) _ m (u8s M) rfl HOL.out ⟨w4.heap.size, 0, none⟩ 1 1 [.int .u8 (IntKind.u8.wrap y)] rfl rfl HN5.out (by intro u hu; simp at hu; subst hu; rfl) (by decide) (by unfold maxLen; omega) (by omega) (by have := HBW.out; simp; omega) _ rfl ?_; intro g8 c8 w8 hown8 hg8 hlie hlt8; have hT8 := tch_grown hg8; have h8 := hT8.at HQA.out HA0.out; have e08 := cell_of_one h8; have ef8 := free_of_one h8)
            | fail)
          all_goals
            have hTT : Tch (fun k => some k = (Value.slice ao m c1).ownBlock) w4 w8 := ((tch_new ((bl_al (Below.refl w4.heap.size w4) (.cells #[.int .u8 (IntKind.u8.wrap y)] 5)).drew)).mono (fun _ h => h.elim)).trans hT8
            have hlx : (Value.slice ao m c1).ownBlock = some g8 ∨ w4.heap.size ≤ g8 := hlie.imp (fun h => h) (fun h => by rw [h]; simp)
            rw [HM.out] at hown8 hTT hlx
            have hst := HS4.out.step (x := IntKind.u8.wrap y) (by rw [← u8s_app]; exact hown8) hTT HBW.out hlx
            have HST := Lib.hid hst
            clear hown8 hTT hlx hlie hlt8 hT8 h8 e08 ef8 hg8 e0 ef hst a3 a4 HOL HN5 HQA HEA HA0
            rw [← HM.out] at HST
            go_wp2
            go_roundw
            case rel =>
              exact ⟨j + 1, by omega, by go_num, Lib.hid ⟨⟨some ⟨g8, 0, none⟩, c8, by rw [HMJ.out]; exact HST.out.1⟩, HK4.out.trans HST.out.2.1, HB4.out.trans HST.out.2.2⟩⟩
            case measure => simp [intOf]; omega
        · have hj8 : j = 8 := by omega
          subst hj8
          have HF : Hid (NuT w4 B q (l ++ nb (ns.take (i + 1))) K ∧ Kpt K w w4 ∧ Below B w w4) := Lib.hid (by
            have := HJ.out
            rw [show (b8 x).take 8 = b8 x from List.take_of_length_le (by rw [b8_len]; omega), List.append_assoc, ← HNX.out] at this
            exact this)
          clear HJ
          go_wp2
          go_roundw
          case rel => exact ⟨i + 1, by omega, by go_num, HF⟩
          case measure => simp [intOf]; omega
    · have ii : ¬ (i : Int) < (n : Int) := by omega
      obtain rfl : i = n := by omega
      go_wp2
      go_end0
      have := HS.out
      rw [HT.out] at this
      exact ⟨rfl, this⟩
end Go.Proofs.Ytnhnpfhfcbmmlaa
namespace Go.Proofs.Ytnhnpfhfcbmmlaa
open Go Go.RowKit
set_option linter.unusedVariables false
set_option linter.unusedSimpArgs false

theorem InE.kpt {K : Nat → Prop} {w w' : World} {a : Option Addr} {n cap : Nat} {es : List En} (h : InE w a n cap es) (hk : Kpt K w w') (hK : ∀ ad, a = some ad → 0 < n → K ad.block) : InE w' a n cap es := by
  refine ⟨h.len, h.room, h.none, ?_, h.typ⟩
  rcases h.here with h0 | ⟨b, off, ha, hc⟩
  · exact .inl h0
  · by_cases hn : 0 < n
    · exact .inr ⟨b, off, ha, fun t u hu => hk.cell (hc t u hu) (hK ⟨b, off, .none⟩ ha hn)⟩
    · exact .inl (List.eq_nil_of_length_eq_zero (by have := h.len; omega))
theorem InE.blk {w : World} {a : Option Addr} {n cap : Nat} {es : List En} (h : InE w a n cap es) : ∀ ad, a = some ad → 0 < n → ad.block < w.heap.size := by
  intro ad ha hn
  rcases h.here with h0 | ⟨b, off, ha2, hc⟩
  · have := h.len; rw [h0] at this; simp at this; omega
  · subst ha
    cases ha2
    exact block_lt_of_cell (h.cell (j := 0) hn).1
theorem CAt.kpt {K : Nat → Prop} {w w' : World} {b o : Nat} {x : Cm} {v : Value} (h : CAt w b o x v) (hk : Kpt K w w') (hb : K b) : CAt w' b o x v :=
  h.map (fun k u hc => hk.cell hc hb)
theorem NuT.keep {w w' : World} {B q : Nat} {l : List Int} {K : Nat → Prop} (h : NuT w B q l K) (hb : Below w.heap.size w w') : NuT w' B q l K ∧ Kpt K w w' := by
  obtain ⟨ao, c, h⟩ := h
  exact ⟨⟨ao, c, (h.keep hb).1⟩, (h.keep hb).2⟩
theorem NuT.more {w w' : World} {B q : Nat} {l : List Int} {K : Nat → Prop} (h : NuT w B q l K) (hb : Below w.heap.size w w') : NuT w' B q l (fun k => K k ∨ (w.heap.size ≤ k ∧ k < w'.heap.size)) := by
  obtain ⟨ao, c, h⟩ := h
  exact ⟨ao, c, h.more hb⟩
theorem NuT.less {w : World} {B q : Nat} {l : List Int} {K K2 : Nat → Prop} (h : NuT w B q l K) (hk : ∀ k, K2 k → K k) : NuT w B q l K2 := by
  obtain ⟨ao, c, h⟩ := h
  exact ⟨ao, c, h.less hk⟩
theorem inI_new (w : World) (ns : List Int) (C : Array Value) (hC : C = (ns.map (Value.int .i64)).toArray) (n : Nat) (hn : n = ns.length) (hf : fitI ns) : InI (w.alloc (.cells C 3)) (some ⟨w.heap.size, 0, none⟩) n n ns := by
  subst hn
  exact ⟨rfl, Nat.le_refl _, (fun e => by cases e), AtI.new w ns C hC _ _ _ _ rfl _ rfl, hf⟩
/-- Numbers that lie in a row of the call's own, just made. -/
theorem writeL_c (ns : List Int) (C : Array Value) (hC : C = (ns.map (Value.int .i64)).toArray) (B q : Nat) (l : List Int) (K : Nat → Prop) (n : Nat) (w : World) (hN : NuT w B q l K) (hf : fitI ns) (hl1 : n = ns.length) (hn : n ≤ 4096) (hl : l.length ≤ 1048576) (hB : B ≤ w.heap.size) :
    Calls Try.prog 57 #[.pointer (some ⟨q, 0, none⟩), .slice (some ⟨w.heap.size, 0, none⟩) n n] (w.alloc (.cells C 3)) fun e w' => e = .returned (.tuple #[]) ∧ NuT w' B q (l ++ nb ns) K ∧ Kpt K w w' ∧ Below B w w' := by
  have hb := bl_al (Below.refl w.heap.size w) (.cells C 3)
  have h2 := hN.more hb
  have hk0 := (hN.keep hb).2
  refine (write_c ns B q l _ (some ⟨w.heap.size, 0, none⟩) n n _ h2 (inI_new w ns C hC n hl1 hf) (fun ad e => by cases e; exact .inr ⟨Nat.le_refl _, by simp⟩) hn hl (by simp; omega)).mono ?_
  rintro e w' ⟨rfl, h3, h4, h5⟩
  exact ⟨rfl, h3.less (fun k hk => .inl hk), hk0.trans (h4.less (fun k hk => .inl hk)), (hb.mono hB).trans h5⟩
theorem w64_u {x : Int} (h : u32c x) : wrap64 x = x := by
  unfold u32c at h
  unfold wrap64
  omega
theorem fitI_head {x : Cm} (h : TyC x) : fitI [x.node, x.boot, x.seq, x.time, x.kind] ∧ fitI [x.vip, x.proto, x.port, (x.es.length : Int)] ∧ fitI [x.dip, x.cvip, ub x.up] := by
  obtain ⟨h1, h2, h3, h4, h5, h6, h7, h8, h9, h10, h11, h12⟩ := h
  unfold i64c at *
  unfold u32c at *
  have hu : 0 ≤ ub x.up ∧ ub x.up ≤ 1 := by unfold ub; split <;> omega
  refine ⟨?_, ?_, ?_⟩ <;> intro b hb <;> simp only [List.mem_cons, List.not_mem_nil, or_false] at hb
  · rcases hb with rfl | rfl | rfl | rfl | rfl <;> omega
  · rcases hb with rfl | rfl | rfl | rfl <;> omega
  · rcases hb with rfl | rfl | rfl <;> omega
theorem fitI_end {e : En} (h : TyEn e) : fitI [e.dip, e.port, e.wt] := by
  obtain ⟨h1, h2, h3⟩ := h
  intro b hb
  simp only [List.mem_cons, List.not_mem_nil, or_false] at hb
  rcases hb with rfl | rfl | rfl <;> omega
set_option maxRecDepth 100000 in
set_option maxHeartbeats 4000000 in
theorem wcmd_c (x : Cm) (a : Option Addr) (n c : Nat) (B q : Nat) (l : List Int) (K : Nat → Prop) (w : World) (hN : NuT w B q l K) (hI : InE w a n c x.es) (hT : TyC x) (hK : ∀ ad, a = some ad → 0 < n → K ad.block) (hn : n ≤ 64) (hl : l.length ≤ 1000000) (hB : B ≤ w.heap.size) :
    Calls Try.prog 58 #[.pointer (some ⟨q, 0, none⟩), x.val (.slice a n c)] w fun e w' => e = .returned (.tuple #[]) ∧ NuT w' B q (l ++ nb (numC x)) K ∧ Kpt K w w' ∧ Below B w w' := by
  have hlen := hI.len
  have hroom := hI.room
  obtain ⟨f1, f2, f3⟩ := fitI_head hT
  rw [hlen] at f2
  have HF := Lib.hid (And.intro f1 (And.intro f2 f3))
  have v1 := w64_u hT.vip
  have v2 := w64_u hT.dip
  have v3 := w64_u hT.cvip
  obtain ⟨W, hW⟩ : ∃ W, W = w.alloc (x.obj (.slice a n c)) := ⟨_, rfl⟩
  have hA := cAt_new w x (.slice a n c)
  rw [← hW] at hA
  have hb0 : Below w.heap.size w W := by rw [hW]; exact bl_al (Below.refl _ _) _
  obtain ⟨p, hp⟩ : ∃ p, p = w.heap.size := ⟨_, rfl⟩
  have hs : W.heap.size = p + 1 := by rw [hW, hp]; simp
  rw [← hp] at hA
  have HW := Lib.hid (And.intro hW hp)
  obtain ⟨K1, hK1⟩ : ∃ K1 : Nat → Prop, K1 = fun k => K k ∨ k = p := ⟨_, rfl⟩
  have hN1 : NuT W B q l K1 := by
    rw [hK1]
    exact (hN.more hb0).less (fun k hk => hk.imp (fun h => h) (fun h => by omega))
  have HK1 : Hid (K1 p ∧ (∀ k, K k → K1 k) ∧ (∀ ad, a = some ad → 0 < n → K1 ad.block)) := Lib.hid (by rw [hK1]; exact ⟨.inr rfl, fun k h => .inl h, fun ad h h2 => .inl (hK ad h h2)⟩)
  have HK0 := Lib.hid (hN.keep hb0).2
  have HBW : Hid (B ≤ W.heap.size ∧ Below B w W) := Lib.hid ⟨by omega, hb0.mono hB⟩
  have HI := Lib.hid (hI.below hb0)
  have HA := Lib.hid hA
  have HT := Lib.hid hT
  have HL := Lib.hid hl
  have HTK : Hid (x.es.take n = x.es) := Lib.hid (List.take_of_length_le (by omega))
  have HN1 := Lib.hid hN1
  obtain ⟨k0, k1, k2, k3, k4, k5, k6, k7, k8, k9, k10, k11⟩ := hA.lit
  clear hA hW hp hb0 hN hN1 hI hT hK hK1 hl hB f1 f2 f3 hs
  go_enter Try.func58, Try.ntmps58
  go_upto_region 1 with fail
  rw [show w.alloc (.cells #[.int .i64 x.node, .int .i64 x.boot, .int .i64 x.seq, .int .i64 x.time, .int .i64 x.kind, .int .u32 x.vip, .int .i64 x.proto, .int .i64 x.port, .slice a n c, .int .u32 x.dip, .int .u32 x.cvip, .bool x.up] tyC) = W from HW.out.1.symm, ← HW.out.2]
  go_wp2_with fail
  refine (writeL_c [x.node, x.boot, x.seq, x.time, x.kind] _ rfl B q l K1 5 W HN1.out HF.out.1 rfl (by omega) (by have := HL.out; omega) HBW.out.1).mono ?_
  rintro e w1 ⟨rfl, hN1, hk1, hb1⟩
  have HN2 := Lib.hid hN1
  have HKW := Lib.hid hk1
  have HB1 := Lib.hid hb1
  have HBS : Hid (B ≤ w1.heap.size) := Lib.hid (by have := HBW.out.1; have := hb1.size; omega)
  clear hN1 hk1 hb1 k0 k1 k2 k3 k4 k5 k6 k7 k8 k9 k10 k11
  obtain ⟨k0, k1, k2, k3, k4, k5, k6, k7, k8, k9, k10, k11⟩ := (HA.out.kpt HKW.out HK1.out.1).lit
  go_wp2_with fail
  refine (writeL_c [x.vip, x.proto, x.port, (n : Int)] _ rfl B q _ K1 4 w1 HN2.out HF.out.2.1 rfl (by omega) (by have := HL.out; simp only [List.length_append, nb_len, List.length_cons, List.length_nil]; omega) HBS.out).mono ?_
  rintro e w2 ⟨rfl, hN1, hk1, hb1⟩
  have HN3 : Hid (NuT w2 B q (l ++ nb (head9 x)) K1) := Lib.hid (by
    have e1 : head9 x = [x.node, x.boot, x.seq, x.time, x.kind] ++ [x.vip, x.proto, x.port, (n : Int)] := by unfold head9; rw [hlen]; rfl
    rw [e1, nb_app, ← List.append_assoc]
    exact hN1)
  have HKW2 := Lib.hid (HKW.out.trans hk1)
  have HB2 := Lib.hid (HB1.out.trans hb1)
  have HBS2 : Hid (B ≤ w2.heap.size) := Lib.hid (by have := HBS.out; have := hb1.size; omega)
  clear hN1 hk1 hb1 k0 k1 k2 k3 k4 k5 k6 k7 k8 k9 k10 k11
  obtain ⟨k0, k1, k2, k3, k4, k5, k6, k7, k8, k9, k10, k11⟩ := (HA.out.kpt HKW2.out HK1.out.1).lit
  go_wp2
  clear k0 k1 k2 k3 k4 k5 k6 k7 k8 k9 k10 k11 HN2 HKW HB1 HBS
  go_loopw [5, 41] (fun _ iv wr => ∃ i : Nat, i ≤ n ∧ iv = .int .i64 i ∧ Hid (NuT wr B q (l ++ nb (head9 x) ++ nb (numEs (x.es.take i))) K1 ∧ Kpt K1 W wr ∧ Below B W wr)) (fun _ iv _ => n - (intOf iv).toNat)
  case atStart => exact ⟨0, by omega, rfl, Lib.hid ⟨by simpa [nb, numEs] using HN3.out, HKW2.out, HB2.out⟩⟩
  case round =>
    obtain ⟨i, hi, rfl, HS⟩ := hrel
    obtain ⟨w3, rfl⟩ : ∃ v, v = wr := ⟨_, rfl⟩
    clear HN3 HKW2 HB2 HBS2
    by_cases hlt : i < n
    · have ii : (i : Int) < (n : Int) := by omega
      have i0 : (0 : Int) ≤ (i : Int) := by omega
      have ic : (i : Int) ≤ (c : Int) := by omega
      obtain ⟨b1, o1, rfl⟩ := HI.out.block (by omega)
      have hI3 := HI.out.kpt HS.out.2.1 HK1.out.2.2
      obtain ⟨c0, c1, c2⟩ := hI3.cell hlt
      have ht := HI.out.typ _ (memE (es := x.es) (i := i) (by omega))
      have HTE := Lib.hid (take_moreE x.es (i := i) (by omega))
      obtain ⟨y, hy⟩ : ∃ y, y = x.es.getD i en0 := ⟨_, rfl⟩
      rw [← hy] at c0 c1 c2 ht HTE
      have HTY := Lib.hid (fitI_end ht)
      obtain ⟨y0, y1, y2⟩ := y
      have v4 : wrap64 y0 = y0 := w64_u ht.1
      obtain ⟨w4, hw4⟩ : ∃ w4, w4 = w3.alloc (.cells #[.int .u32 y0, .int .i64 y1, .int .i64 y2] tyE) := ⟨_, rfl⟩
      have hE := enAt_new w3 ⟨y0, y1, y2⟩
      have hbe : Below w3.heap.size w3 w4 := by rw [hw4]; exact bl_al (Below.refl _ _) _
      obtain ⟨p3, hp3⟩ : ∃ p3, p3 = w3.heap.size := ⟨_, rfl⟩
      have HW4 := Lib.hid (And.intro hw4 hp3)
      rw [← hp3, show w3.alloc (En.obj ⟨y0, y1, y2⟩) = w4 from hw4.symm] at hE
      obtain ⟨d0, d1, d2⟩ := hE
      have HB3 : Hid (B ≤ w4.heap.size ∧ Below B W w4) := Lib.hid (by
        have h1 := HBW.out.1
        have h2 := HS.out.2.2
        have h3 := h2.size
        have h4 := hbe.size
        exact ⟨by omega, h2.trans (hbe.mono (by omega))⟩)
      have HN4 := Lib.hid (HS.out.1.keep hbe)
      have HLL : Hid ((l ++ nb (head9 x) ++ nb (numEs (x.es.take i))).length ≤ 1048576) := Lib.hid (by
        have := HL.out
        simp only [List.length_append, nb_len, numEs_len, List.length_take]
        have : (head9 x).length = 9 := rfl
        omega)
      clear hy ht hI3 hw4 hp3 hbe
      go_upto_region 6 with fail
      rw [show w3.alloc (.cells #[.int .u32 y0, .int .i64 y1, .int .i64 y2] tyE) = w4 from HW4.out.1.symm, ← HW4.out.2]
      clear c0 c1 c2
      go_wp2_with fail
      refine (writeL_c [y0, y1, y2] _ rfl B q _ K1 3 w4 HN4.out.1 HTY.out rfl (by omega) HLL.out HB3.out.1).mono ?_
      rintro e w5 ⟨rfl, hN1, hk1, hb1⟩
      have HF5 : Hid (NuT w5 B q (l ++ nb (head9 x) ++ nb (numEs (x.es.take (i + 1)))) K1 ∧ Kpt K1 W w5 ∧ Below B W w5) := Lib.hid ⟨by
        rw [HTE.out, numEs_app, numEs_one, nb_app, ← List.append_assoc]
        exact hN1, HS.out.2.1.trans (HN4.out.2.trans hk1), HB3.out.2.trans hb1⟩
      clear hN1 hk1 hb1 d0 d1 d2
      go_wp2
      go_roundw
      case rel => exact ⟨i + 1, by omega, by go_num, HF5⟩
      case measure => simp [intOf]; omega
    · have ii : ¬ (i : Int) < (n : Int) := by omega
      obtain rfl : i = n := by omega
      obtain ⟨k0, k1, k2, k3, k4, k5, k6, k7, k8, k9, k10, k11⟩ := (HA.out.kpt HS.out.2.1 HK1.out.1).lit
      have HN5 : Hid (NuT w3 B q (l ++ nb (head9 x) ++ nb (numEs x.es)) K1) := Lib.hid (by have := HS.out.1; rwa [HTK.out] at this)
      have HBS3 : Hid (B ≤ w3.heap.size) := Lib.hid (by have := HBW.out.1; have := HS.out.2.2.size; omega)
      have HLL : Hid ((l ++ nb (head9 x) ++ nb (numEs x.es)).length ≤ 1048576) := Lib.hid (by
        have := HL.out
        simp only [List.length_append, nb_len, numEs_len]
        have : (head9 x).length = 9 := rfl
        omega)
      have HU : Hid (ub x.up = if x.up then 1 else 0) := Lib.hid rfl
      have fin : ∀ w6, NuT w6 B q (l ++ nb (head9 x) ++ nb (numEs x.es) ++ nb [x.dip, x.cvip, ub x.up]) K1 → Kpt K1 w3 w6 → Below B w3 w6 → (Ending.returned (.tuple #[]) = Ending.returned (.tuple #[]) ∧ NuT w6 B q (l ++ nb (numC x)) K ∧ Kpt K w w6 ∧ Below B w w6) := fun w6 g1 g2 g3 => ⟨rfl, by
        have e1 : l ++ nb (numC x) = l ++ nb (head9 x) ++ nb (numEs x.es) ++ nb [x.dip, x.cvip, ub x.up] := by
          unfold numC tail3
          simp only [nb_app, List.append_assoc]
        rw [e1]
        exact g1.less HK1.out.2.1, HK0.out.trans ((HS.out.2.1.trans g2).less HK1.out.2.1), HBW.out.2.trans (HS.out.2.2.trans g3)⟩
      have FIN := Lib.hid fin
      have HFF := Lib.hid HF.out.2.2
      clear fin
      cases hu : x.up with
      | true =>
        rw [hu] at k11
        have eu : ub x.up = 1 := by rw [hu]; rfl
        rw [eu] at FIN HFF
        clear hu eu HU
        go_wp2_with fail
        refine (writeL_c [x.dip, x.cvip, 1] _ rfl B q _ K1 3 w3 HN5.out HFF.out rfl (by omega) HLL.out HBS3.out).mono ?_
        rintro e w6 ⟨rfl, hN1, hk1, hb1⟩
        have HZ := Lib.hid (FIN.out w6 hN1 hk1 hb1)
        clear hN1 hk1 hb1 k0 k1 k2 k3 k4 k5 k6 k7 k8 k9 k10 k11
        go_wp2
        go_end0
        exact ⟨rfl, HZ.out.2⟩
      | false =>
        rw [hu] at k11
        have eu : ub x.up = 0 := by rw [hu]; rfl
        rw [eu] at FIN HFF
        clear hu eu HU
        go_wp2_with fail
        refine (writeL_c [x.dip, x.cvip, 0] _ rfl B q _ K1 3 w3 HN5.out HFF.out rfl (by omega) HLL.out HBS3.out).mono ?_
        rintro e w6 ⟨rfl, hN1, hk1, hb1⟩
        have HZ := Lib.hid (FIN.out w6 hN1 hk1 hb1)
        clear hN1 hk1 hb1 k0 k1 k2 k3 k4 k5 k6 k7 k8 k9 k10 k11
        go_wp2
        go_end0
        exact ⟨rfl, HZ.out.2⟩
end Go.Proofs.Ytnhnpfhfcbmmlaa
namespace Go.Proofs.Ytnhnpfhfcbmmlaa
open Go Go.RowKit Go.Maps
set_option linter.unusedVariables false
set_option linter.unusedSimpArgs false

abbrev DU := DataW Unit
abbrev tyU : TypeId := 128
abbrev tyK3 : TypeId := 131
abbrev tyO : TypeId := 129
def nmV (x : Nm) : Value := .agg #[.int .i64 x.1, .int .i64 x.2.1, .int .i64 x.2.2]
def TyNm (x : Nm) : Prop := i64c x.1 ∧ i64c x.2.1 ∧ i64c x.2.2
theorem laidN : laidOutB Try.prog = true := by kernel_rfl
theorem rowN : (tyK3 : TypeId) < Try.prog.types.size := of_decide_eq_true (by kernel_rfl)
theorem wideN : (match Try.prog.underlying tyK3 with | some (.array _ _) | some (.struct _) => true | _ => false) = true := by rw [Try.underlying131]
set_option maxRecDepth 100000 in
theorem lawN : Keyed Try.prog tyK3 := Keyed.of_law (deep_law_laid laidN (m := 3) (by omega) rowN (by kernel_rfl) wideN)
theorem zeroU (w : World) : (zeroValue tyO).run Try.prog w = .ok (.agg #[]) w := by kernel_rfl
def KeyN (x : Nm) (kl : Lit) : Prop := keyOf Try.prog tyK3 (nmV x) = some kl
theorem nmV_inj {f g : Nm} (h : nmV f = nmV g) : f = g := by
  obtain ⟨a, b, c⟩ := f; obtain ⟨d, e, k⟩ := g
  simp only [nmV, Value.agg.injEq, Array.mk.injEq, List.cons.injEq, Value.int.injEq] at h
  obtain ⟨⟨_, rfl⟩, ⟨_, rfl⟩, ⟨_, rfl⟩, _⟩ := h
  rfl
theorem KeyN.inj {f g : Nm} {kl : Lit} (h : KeyN f kl) (h2 : KeyN g kl) : f = g := nmV_inj (lawN.inj h h2)
theorem KeyN.ne {f g : Nm} {kl kg : Lit} (h : KeyN f kl) (h2 : KeyN g kg) (hn : g ≠ f) : kg ≠ kl := fun e => hn (h2.inj (e ▸ h))
theorem KeyN.one {f : Nm} {kl kg : Lit} (h : KeyN f kl) (h2 : KeyN f kg) : kl = kg := by unfold KeyN at *; rw [h] at h2; exact Option.some.inj h2
theorem wfI {n : Int} (h : i64c n) : (Lit.int .i64 n).wf = true := WalkArith.wf_i64 (by unfold i64c at h; omega)
theorem keyT3 : Try.prog.keyType tyK3 = true := by kernel_rfl
theorem formN (x : Nm) : (nmV x).formed Try.prog tyK3 = true := by
  have : Try.prog.cellsOf tyK3 = 3 := by kernel_rfl
  simp [Value.formed, nmV, Try.underlying131, this]
set_option maxRecDepth 100000 in
theorem keyN {x : Nm} (h : TyNm x) : ∃ kl, KeyN x kl := by
  have h0 := wfI h.1
  have h1 := wfI h.2.1
  have h2 := wfI h.2.2
  have c3 : Try.prog.cellsOf tyK3 = 3 := by kernel_rfl
  have ci : Try.prog.cellsOf 3 = 1 := by kernel_rfl
  obtain ⟨m, hm⟩ : ∃ m, Try.prog.types.size + 1 = m + 1 + 1 := by
    have h9 : 0 < Try.prog.types.size := Nat.lt_of_le_of_lt (Nat.zero_le _) rowN
    generalize Try.prog.types.size = n at h9
    exact ⟨n - 1, by omega⟩
  unfold KeyN keyOf
  simp only [Try.underlying131]
  rw [if_pos (by rw [keyT3, formN]; rfl), hm]
  unfold Program.keyLits
  simp only [Try.underlying131, Value.cells, nmV]
  rw [if_pos ⟨by rw [c3]; rfl, by simp⟩]
  simp [Program.keyLits, Try.underlying3, ci, h0, h1, h2]
def rdU (v : Value) : Option (DU × List MemPlace) := match v with
  | .agg a => if a.size = 0 then some (.held (), []) else none
  | _ => none
theorem rdU_val : rdU (.agg #[]) = some (.held (), []) := rfl
/-- A map reads as a set. -/
structure MRn (D : DU) (s : List Nm) : Prop where
  has : ∀ x kl, KeyN x kl → Maps.has D kl = decide (x ∈ s)
  size : Maps.size D = s.length
theorem MRn.nil : MRn (.map []) [] := ⟨fun _ _ _ => rfl, rfl⟩
def addN (x : Nm) (s : List Nm) : List Nm := if x ∈ s then s else s ++ [x]
theorem mem_addN {x y : Nm} {s : List Nm} : y ∈ addN x s ↔ y = x ∨ y ∈ s := by
  unfold addN
  split
  · rename_i h
    exact ⟨fun h2 => .inr h2, fun h2 => h2.elim (fun e => e ▸ h) (fun h => h)⟩
  · rw [List.mem_append, List.mem_singleton]
    exact ⟨fun h => h.elim (fun h => .inr h) (fun h => .inl h), fun h => h.elim (fun h => .inr h) (fun h => .inl h)⟩
theorem MRn.put {D : DU} {s : List Nm} (h : MRn D s) (hT : Tidy D) {x : Nm} {kl : Lit} (hk : KeyN x kl) : MRn (D.put kl (.held ())) (addN x s) := by
  have ik : Go.WideAt.IsKeyLit kl := lawN.key hk
  refine ⟨fun g kg hg => ?_, ?_⟩
  · by_cases e : g = x
    · subst e
      rw [hg.one hk, has_put_same hT.isMap ik]
      exact (decide_eq_true (mem_addN.2 (.inl rfl))).symm
    · rw [has_put_other (hk.ne hg e), h.has g kg hg]
      exact decide_eq_decide.2 ⟨fun h2 => mem_addN.2 (.inr h2), fun h2 => (mem_addN.1 h2).resolve_left e⟩
  · rw [size_put hT, h.has _ _ hk, h.size]
    unfold addN
    by_cases e : x ∈ s
    · rw [if_pos e, decide_eq_true e]; rfl
    · rw [if_neg e, decide_eq_false e, List.length_append]; rfl
def MapN (w : World) (b : Nat) (s : List Nm) : Prop := ∃ D : DU, w.ownsMap Try.prog tyK3 rdU b s.length D ∧ MRn D s
theorem own_tightN {P : Program} {k : TypeId} {R : Value → Option (DU × List MemPlace)} {w : World} {b n : Nat} {D : DU} (h : w.ownsMap P k R b n D) : w.ownsMap P k R b (Maps.size D) D := by
  obtain ⟨es, clock, hb, F, hs, rfl⟩ := h
  exact ⟨es, clock, hb, F, by simp [Maps.size, length_sorted], rfl⟩
theorem MapN.of {w : World} {b n : Nat} {D : DU} {s : List Nm} (h : w.ownsMap Try.prog tyK3 rdU b n D) (hm : MRn D s) : MapN w b s := ⟨D, by rw [← hm.size]; exact own_tightN h, hm⟩
theorem MapN.block {w w' : World} {b : Nat} {s : List Nm} (h : MapN w b s) (hb : w'.heap[b]? = w.heap[b]?) : MapN w' b s := by
  obtain ⟨D, ⟨es, clock, h1, h2⟩, hm⟩ := h
  exact ⟨D, ⟨es, clock, hb.trans h1, h2⟩, hm⟩
theorem MapN.lt {w : World} {b : Nat} {s : List Nm} (h : MapN w b s) : b < w.heap.size := by
  obtain ⟨D, hd, _⟩ := h
  exact hd.lt
theorem MapN.new (w : World) : MapN (w.alloc (.map #[] 0)) w.heap.size [] := ⟨_, World.ownsMap_made w _ _ _, MRn.nil⟩
theorem MapN.tch {T : Nat → Prop} {w w' : World} {b : Nat} {s : List Nm} (h : MapN w b s) (ht : Tch T w w') (hn : ¬ T b) : MapN w' b s := h.block (ht.block b h.lt hn)
theorem MapN.len {w : World} {b : Nat} {s : List Nm} (h : MapN w b s) (ty : TypeId) : (Builtin.len_ #[tyU] ty #[.map (some b)]).run Try.prog w = .ok (.int .i64 (s.length : Nat)) w := by
  obtain ⟨D, hown, hm⟩ := h
  rw [hown.len (t := tyU) Try.underlying128 ty, hm.size]
theorem tch_turnedN {w w' : World} {b : Nat} (h : w.mapTurned w' b) : Tch (· = b) w w' := by
  have := tch_grown h.grown
  exact this.mono (fun k hk => by simpa using hk)
theorem MapN.store {w : World} {b : Nat} {s : List Nm} (h : MapN w b s) (hn : s.length ≤ 1048576) {x : Nm} (hx : TyNm x) :
    ∃ w', (Instr.mapUpdate tyU (.map (some b)) (nmV x) (.agg #[])).run Try.prog w = .ok () w' ∧ MapN w' b (addN x s) ∧ Tch (· = b) w w' ∧ w'.heap.size = w.heap.size := by
  obtain ⟨D, hown, hmr⟩ := h
  obtain ⟨kl, hk⟩ := keyN hx
  obtain ⟨w', hr, h1, h2⟩ := hown.store (t := tyU) lawN Try.underlying128 (by unfold maxLen; omega) hk rdU_val
  refine ⟨w', hr, MapN.of h1 (hmr.put (hown.tidy lawN) hk), tch_turnedN h2, ?_⟩
  obtain ⟨es, clock, es', clock', hb, rfl⟩ := h2
  simp [Go.ChangeMaps.setBlock]
/-! ### The names that were seen -/
def seenN (l : List Nm) : List Nm := l.foldl (fun s x => addN x s) []
theorem seen_more (l : List Nm) (x : Nm) : seenN (l ++ [x]) = addN x (seenN l) := by unfold seenN; rw [List.foldl_append]; rfl
theorem list_rev {α : Type} {P : List α → Prop} (h0 : P []) (h1 : ∀ l x, P l → P (l ++ [x])) : ∀ l, P l := by
  intro l
  rw [← List.reverse_reverse l]
  induction l.reverse with
  | nil => exact h0
  | cons x t ih => rw [List.reverse_cons]; exact h1 _ _ ih
theorem seen_mem (l : List Nm) : ∀ y, y ∈ seenN l ↔ y ∈ l := by
  refine list_rev (P := fun l => ∀ y, y ∈ seenN l ↔ y ∈ l) (fun y => Iff.rfl) (fun l x ih y => ?_) l
  rw [seen_more, mem_addN, ih, List.mem_append, List.mem_singleton]
  exact ⟨fun h => h.elim (fun h => .inr h) (fun h => .inl h), fun h => h.elim (fun h => .inr h) (fun h => .inl h)⟩
theorem seen_len (l : List Nm) : (seenN l).length ≤ l.length ∧ ((seenN l).length = l.length ↔ l.Nodup) := by
  refine list_rev (P := fun l => (seenN l).length ≤ l.length ∧ ((seenN l).length = l.length ↔ l.Nodup)) ⟨Nat.le_refl _, by simp [seenN]⟩ (fun l x ih => ?_) l
  obtain ⟨i1, i2⟩ := ih
  rw [seen_more]
  have hm := seen_mem l x
  unfold addN
  rw [List.length_append, List.length_singleton, List.nodup_append]
  by_cases e : x ∈ seenN l
  · rw [if_pos e]
    refine ⟨by omega, ⟨fun h => by omega, fun h => ?_⟩⟩
    exact absurd rfl (h.2.2 x (hm.1 e) x (by simp))
  · rw [if_neg e, List.length_append, List.length_singleton]
    refine ⟨by omega, ⟨fun h => ⟨i2.1 (by omega), by simp, fun a ha b hb => ?_⟩, fun h => by rw [i2.2 h.1]⟩⟩
    rw [List.mem_singleton] at hb
    subst hb
    intro e2
    subst e2
    exact e (hm.2 ha)
theorem nine_neq (w : World) : (binOp .neq 28 (errnoF 9) .nilIface).run Try.prog w = .ok (.bool true) w := by kernel_rfl
theorem nm_ty {x : Cm} (h : TyC x) : TyNm x.nm := ⟨h.node, h.boot, h.seq⟩
theorem nil_nilIface : (errF 0 = .nilIface) ∧ (errF 9 = errnoF 9) := ⟨rfl, rfl⟩
set_option maxRecDepth 100000 in
set_option maxHeartbeats 4000000 in
theorem checkLog_c (ls : List Cm) (vs : List Value) (a : Option Addr) (n c : Nat) (w : World) (hI : InC w a n c ls vs) (hn : n ≤ 4611686018427387904) :
    Calls Try.prog 20 #[.slice a n c] w fun e w' => e = .returned (errF (if GoodL ls then 0 else 9)) ∧ Below w.heap.size w w' := by
  obtain ⟨z, hz⟩ : ∃ z : Int, z = if GoodL ls then 0 else 9 := ⟨_, rfl⟩
  rw [← hz]
  have hlen := hI.len
  have hroom := hI.room
  have HI := Lib.hid hI
  have HZ := Lib.hid hz
  by_cases h256 : 256 < n
  · have HE : Hid (z = 9) := Lib.hid (by rw [hz, if_neg (fun h : GoodL ls => by have := h.1; omega)])
    have g : (256 : Int) < (n : Int) := by omega
    clear hI hz
    go_enter Try.func20, Try.ntmps20
    go_wp2
    go_ret
    exact ⟨by rw [HE.out]; rfl, Below.refl _ _⟩
  have g : ¬ (256 : Int) < (n : Int) := by omega
  obtain ⟨W, hW⟩ : ∃ W, W = w.alloc (.map #[] 0) := ⟨_, rfl⟩
  have hM := MapN.new w
  rw [← hW] at hM
  have hb0 : Below w.heap.size w W := by rw [hW]; exact bl_al (Below.refl _ _) _
  obtain ⟨p, hp⟩ : ∃ p, p = w.heap.size := ⟨_, rfl⟩
  rw [← hp] at hM
  have HP : Hid (w.heap.size ≤ p ∧ p < W.heap.size ∧ w.heap.size ≤ W.heap.size) := Lib.hid ⟨by omega, hM.lt, by rw [hW]; simp⟩
  have HW := Lib.hid (And.intro hW hp)
  have HT : Hid (ls.take n = ls) := Lib.hid (List.take_of_length_le (by omega))
  have HM0 : Hid (MapN W p (seenN ((ls.take 0).map Cm.nm))) := Lib.hid hM
  have HB0 := Lib.hid hb0
  have HG0 : Hid (∀ x ∈ ls.take 0, GoodC x) := Lib.hid (fun x hx => by simp at hx)
  clear hI hz hW hp hM hb0
  have mk : (Instr.makeMap tyU none).run Try.prog w = .ok (.map (some w.heap.size)) (w.alloc (.map #[] 0)) := by kernel_rfl
  go_enter Try.func20, Try.ntmps20
  go_upto_region 4 with fail
  clear mk
  rw [show w.alloc (.map #[] 0) = W from HW.out.1.symm, ← HW.out.2]
  go_wp2
  go_loopw [5, 6, 14] (fun _ _ iv wr => ∃ i : Nat, i ≤ n ∧ iv = .int .i64 i ∧ Hid (MapN wr p (seenN ((ls.take i).map Cm.nm))) ∧ Hid (Below w.heap.size w wr) ∧ Hid (∀ x ∈ ls.take i, GoodC x)) (fun _ _ iv _ => n - (intOf iv).toNat)
  case atStart => exact ⟨0, by omega, rfl, HM0, HB0, HG0⟩
  case round =>
    obtain ⟨i, hi, rfl, HM, HB, HG⟩ := hrel
    obtain ⟨w2, rfl⟩ : ∃ v, v = wr := ⟨_, rfl⟩
    clear HM0 HB0 HG0
    by_cases hlt : i < n
    · have ii : (i : Int) < (n : Int) := by omega
      have i0 : (0 : Int) ≤ (i : Int) := by omega
      have ic : (i : Int) ≤ (c : Int) := by omega
      have hI2 := HI.out.below HB.out
      obtain ⟨b1, o1, rfl⟩ := HI.out.block (by omega)
      obtain ⟨k0, k1, k2, k3, k4, k5, k6, k7, k8, k9, k10, k11⟩ := hI2.cell hlt
      obtain ⟨a2, n2, c2, hv, hE⟩ := hI2.ends i hlt
      have ht := HI.out.ty hlt
      rw [hv] at k8
      have hmem := memC (ls := ls) (i := i) (by omega)
      have HTK : Hid (ls.take (i + 1) = ls.take i ++ [ls.getD i cm0]) := Lib.hid (take_moreC ls (i := i) (by omega))
      obtain ⟨x, hx⟩ : ∃ x, x = ls.getD i cm0 := ⟨_, rfl⟩
      rw [← hx] at k0 k1 k2 k3 k4 k5 k6 k7 k9 k10 k11 hE ht hmem HTK
      have HMEM := Lib.hid hmem
      have hn2 : n2 ≤ 4611686018427387904 := by rw [← hE.len]; exact ht.few
      obtain ⟨w3, hw3⟩ : ∃ w3, w3 = w2.alloc (x.obj (.slice a2 n2 c2)) := ⟨_, rfl⟩
      have hA := cAt_new w2 x (.slice a2 n2 c2)
      have hb3 : Below w2.heap.size w2 w3 := by rw [hw3]; exact bl_al (Below.refl _ _) _
      have hM3 := HM.out.tch (tch_new hb3) (fun h => h)
      obtain ⟨p3, hp3⟩ : ∃ p3, p3 = w2.heap.size := ⟨_, rfl⟩
      rw [← hp3, ← hw3] at hA
      have HPP : Hid (p ≠ p3) := Lib.hid (by have := HM.out.lt; omega)
      have HM3 := Lib.hid hM3
      have HW3 := Lib.hid (And.intro hw3 hp3)
      have HB3 := Lib.hid (bl_tr HB.out hb3)
      have HE3 := Lib.hid (hE.below hb3)
      have HA3 := Lib.hid hA
      have HTY := Lib.hid ht
      obtain ⟨d0, d1, d2, d3, d4, d5, d6, d7, d8, d9, d10, d11⟩ := hA.lit
      clear hx ht hE hv hI2 hmem hw3 hb3 hM3 hp3 hA
      go_upto_region 7 with fail
      rw [show w2.alloc (.cells #[.int .i64 x.node, .int .i64 x.boot, .int .i64 x.seq, .int .i64 x.time, .int .i64 x.kind, .int .u32 x.vip, .int .i64 x.proto, .int .i64 x.port, .slice a2 n2 c2, .int .u32 x.dip, .int .u32 x.cvip, .bool x.up] tyC) = w3 from HW3.out.1.symm, ← HW3.out.2]
      clear k0 k1 k2 k3 k4 k5 k6 k7 k8 k9 k10 k11
      go_wp2_with fail
      refine (check_c x a2 n2 c2 w3 HE3.out HTY.out hn2).mono ?_
      rintro e w4 ⟨rfl, hb⟩
      have HB4 := Lib.hid (bl_tr HB3.out hb)
      have HM4 := Lib.hid (HM3.out.tch (tch_new hb) (fun h => h))
      have HA4 := Lib.hid (HA3.out.below hb)
      clear hb d0 d1 d2 d3 d4 d5 d6 d7 d8 d9 d10 d11
      by_cases hg : GoodC x
      · have HG2 : Hid (∀ y ∈ ls.take (i + 1), GoodC y) := Lib.hid (fun y hy => by
          rw [HTK.out, List.mem_append, List.mem_singleton] at hy
          rcases hy with hy | hy
          · exact HG.out y hy
          · rw [hy]; exact hg)
        rw [if_pos hg, nil_nilIface.1]
        have q0 := nilNe
        obtain ⟨w5, hr, hM5, hT5, hs5⟩ := HM4.out.store (x := x.nm) (by
          have h1 := (seen_len ((ls.take i).map Cm.nm)).1
          rw [List.length_map, List.length_take] at h1
          omega) (nm_ty HTY.out)
        have hr' : (Instr.mapUpdate tyU (.map (some p)) (.agg #[.int .i64 x.node, .int .i64 x.boot, .int .i64 x.seq]) (.agg #[])).run Try.prog w4 = .ok () w5 := hr
        have HM5 : Hid (MapN w5 p (seenN ((ls.take (i + 1)).map Cm.nm))) := Lib.hid (by
          rw [HTK.out, List.map_append, List.map_singleton, seen_more]
          exact hM5)
        have HB5 : Hid (Below w.heap.size w w5) := Lib.hid (HB4.out.trans (hT5.below (fun k hk => by rw [hk]; exact HP.out.1) (by have := HB4.out.size; omega)))
        obtain ⟨d0, d1, d2, d3, d4, d5, d6, d7, d8, d9, d10, d11⟩ := HA4.out.lit
        clear hr hM5 hT5 hs5 hg
        go_wp2
        go_roundw
        case rel => exact ⟨i + 1, by omega, by go_num, HM5, HB5, HG2⟩
        case measure => simp [intOf]; omega
      · have HE : Hid (z = 9) := Lib.hid (by rw [HZ.out, if_neg (fun h : GoodL ls => hg (h.2.1 _ HMEM.out))])
        rw [if_neg hg, nil_nilIface.2]
        have q9 := nine_neq
        clear hg
        go_wp2
        go_ret
        exact ⟨by rw [HE.out]; rfl, HB4.out⟩
    · have ii : ¬ (i : Int) < (n : Int) := by omega
      obtain rfl : i = n := by omega
      have hL := HM.out.len
      have h1 := seen_len ((ls.take i).map Cm.nm)
      rw [HT.out] at h1 hL
      rw [List.length_map, hlen] at h1
      have HGA : Hid (∀ x ∈ ls, GoodC x) := Lib.hid (by have := HG.out; rwa [HT.out] at this)
      obtain ⟨m, hm⟩ : ∃ m, m = (seenN (ls.map Cm.nm)).length := ⟨_, rfl⟩
      rw [← hm] at hL h1
      by_cases hd : m < i
      · have HE : Hid (z = 9) := Lib.hid (by rw [HZ.out, if_neg (fun h : GoodL ls => by have := h1.2.2 h.2.2; omega)])
        have gg : (m : Int) < (i : Int) := by omega
        clear h1 hm
        go_wp2
        go_ret
        exact ⟨by rw [HE.out]; rfl, HB.out⟩
      · have HE : Hid (z = 0) := Lib.hid (by rw [HZ.out, if_pos (show GoodL ls from ⟨by omega, HGA.out, h1.2.1 (by omega)⟩)])
        have gg : ¬ (m : Int) < (i : Int) := by omega
        clear h1 hm
        go_wp2
        go_ret
        exact ⟨by rw [HE.out]; rfl, HB.out⟩
end Go.Proofs.Ytnhnpfhfcbmmlaa
namespace Go.Proofs.Ytnhnpfhfcbmmlaa
open Go Go.RowKit
set_option linter.unusedVariables false
set_option linter.unusedSimpArgs false

structure GotW (w : World) (ls : List Cm) (e : Ending) (w' : World) : Prop where
  yes : GoodL ls → ∃ ao c, e = .returned (.tuple #[.slice ao (bytesL ls).length c, .nilIface]) ∧ w'.ownsRow w.heap.size 5 1 (.slice ao (bytesL ls).length c) (bytesL ls).length (u8s (bytesL ls))
  no : ¬ GoodL ls → e = .returned (.tuple #[.slice none 0 0, errnoF 9])
  bel : Below w.heap.size w w'
theorem nuT_new (w : World) (K : Nat → Prop) (B : Nat) (hB : B ≤ w.heap.size) (hK : ∀ k, K k → k < w.heap.size) : NuT (w.alloc (.cells #[.slice none 0 0] tyN)) B w.heap.size [] K := by
  refine ⟨none, 0, ?_, ?_, (fun e => by cases e), (fun k hk e => by cases e), hB, fun h => by have := hK _ h; omega, fun k hk => by have := hK k hk; simp; omega⟩
  · exact heap_alloc_new w _
  · exact ⟨rfl, .inl ⟨rfl, rfl⟩⟩
theorem taken_end {ls : List Cm} {n : Nat} (h : ls.length = n) : ls.take n = ls := List.take_of_length_le (by omega)
set_option maxRecDepth 100000 in
set_option maxHeartbeats 4000000 in
theorem wr_c (ls : List Cm) (vs : List Value) (a : Option Addr) (n c : Nat) (w : World) (hI : InC w a n c ls vs) (hn : n ≤ 4611686018427387904) :
    Calls Try.prog 17 #[.slice a n c] w (GotW w ls) := by
  have hlen := hI.len
  have hroom := hI.room
  have HI := Lib.hid hI
  have CK := Lib.hid (checkLog_c ls vs a n c w hI hn)
  by_cases hg : GoodL ls
  · rw [if_pos hg, nil_nilIface.1] at CK
    have q0 := nilNe
    have h256 := hg.1
    have hends := ends_good hg.2.1
    have HG := Lib.hid hg
    clear hI hg
    go_enter Try.func17, Try.ntmps17
    go_wp2_with fail
    refine CK.out.mono ?_
    rintro e w1 ⟨rfl, hb1⟩
    obtain ⟨W, hW⟩ : ∃ W, W = w1.alloc (.cells #[.slice none 0 0] tyN) := ⟨_, rfl⟩
    have hN := nuT_new w1 (fun k => k < w.heap.size) w.heap.size hb1.size (fun k hk => Nat.lt_of_lt_of_le hk hb1.size)
    rw [← hW] at hN
    have hb2 : Below w.heap.size w W := by rw [hW]; exact hb1.alloc hb1.size _
    obtain ⟨p, hp⟩ : ∃ p, p = w1.heap.size := ⟨_, rfl⟩
    rw [← hp] at hN
    have HW := Lib.hid (And.intro hW hp)
    have HN := Lib.hid hN
    have HB := Lib.hid hb2
    have HEN := Lib.hid hends
    clear CK hW hp hN hb1 hb2 hends
    go_upto_region 5 with fail
    rw [show w1.alloc (.cells #[.slice none 0 0] tyN) = W from HW.out.1.symm, ← HW.out.2]
    go_wp2_with fail
    refine (writeL_c [(n : Int)] _ rfl w.heap.size p [] _ 1 W HN.out (by intro b hb; simp at hb; omega) rfl (by omega) (by simp) HB.out.size).mono ?_
    rintro e w2 ⟨rfl, hN1, hk1, hb1⟩
    have HS0 : Hid (NuT w2 w.heap.size p (nb ((n : Int) :: numL (ls.take 0))) (fun k => k < w.heap.size) ∧ Below w.heap.size w w2) := Lib.hid ⟨hN1, HB.out.trans hb1⟩
    clear hN1 hk1 hb1 HN
    go_wp2
    go_loopw [7, 19] (fun _ iv wr => ∃ i : Nat, i ≤ n ∧ iv = .int .i64 i ∧ Hid (NuT wr w.heap.size p (nb ((n : Int) :: numL (ls.take i))) (fun k => k < w.heap.size) ∧ Below w.heap.size w wr)) (fun _ iv _ => n - (intOf iv).toNat)
    case atStart => exact ⟨0, by omega, rfl, HS0⟩
    case round =>
      obtain ⟨i, hi, rfl, HS⟩ := hrel
      obtain ⟨w3, rfl⟩ : ∃ v, v = wr := ⟨_, rfl⟩
      clear HS0
      by_cases hlt : i < n
      · have ii : (i : Int) < (n : Int) := by omega
        have i0 : (0 : Int) ≤ (i : Int) := by omega
        have ic : (i : Int) ≤ (c : Int) := by omega
        have hI2 := HI.out.below HS.out.2
        obtain ⟨b1, o1, rfl⟩ := HI.out.block (by omega)
        obtain ⟨k0, k1, k2, k3, k4, k5, k6, k7, k8, k9, k10, k11⟩ := hI2.cell hlt
        obtain ⟨a2, n2, c2, hv, hE0⟩ := HI.out.ends i hlt
        have hE := hE0.below HS.out.2
        have ht := HI.out.ty hlt
        rw [hv] at k8
        have hmem := memC (ls := ls) (i := i) (by omega)
        have HTK : Hid (ls.take (i + 1) = ls.take i ++ [ls.getD i cm0]) := Lib.hid (take_moreC ls (i := i) (by omega))
        have hle : (nb ((n : Int) :: numL (ls.take i))).length ≤ 1000000 := by
          have h1 := ends_good (l := ls.take i) (fun x hx => HG.out.2.1 x (List.mem_of_mem_take hx))
          rw [nb_len, List.length_cons, numL_len]
          rw [List.length_take] at h1 ⊢
          omega
        obtain ⟨x, hx⟩ : ∃ x, x = ls.getD i cm0 := ⟨_, rfl⟩
        rw [← hx] at k0 k1 k2 k3 k4 k5 k6 k7 k9 k10 k11 hE hE0 ht hmem HTK
        have hn2 : n2 ≤ 64 := by rw [← hE.len]; exact goodC_es (HG.out.2.1 x hmem)
        obtain ⟨w4, hw4⟩ : ∃ w4, w4 = w3.alloc (x.obj (.slice a2 n2 c2)) := ⟨_, rfl⟩
        have hA := cAt_new w3 x (.slice a2 n2 c2)
        have hb4 : Below w3.heap.size w3 w4 := by rw [hw4]; exact bl_al (Below.refl _ _) _
        obtain ⟨p4, hp4⟩ : ∃ p4, p4 = w3.heap.size := ⟨_, rfl⟩
        rw [← hp4, ← hw4] at hA
        have HW4 := Lib.hid (And.intro hw4 hp4)
        have HN4 := Lib.hid (HS.out.1.keep hb4).1
        have HB4 := Lib.hid (bl_tr HS.out.2 hb4)
        have HE4 := Lib.hid (hE.below hb4)
        have HKB := Lib.hid hE0.blk
        have HTY := Lib.hid ht
        have HLE := Lib.hid hle
        obtain ⟨d0, d1, d2, d3, d4, d5, d6, d7, d8, d9, d10, d11⟩ := hA.lit
        clear hx ht hE hv hI2 hmem hw4 hb4 hp4 hA hE0 hle
        go_upto_region 9 with fail
        rw [show w3.alloc (.cells #[.int .i64 x.node, .int .i64 x.boot, .int .i64 x.seq, .int .i64 x.time, .int .i64 x.kind, .int .u32 x.vip, .int .i64 x.proto, .int .i64 x.port, .slice a2 n2 c2, .int .u32 x.dip, .int .u32 x.cvip, .bool x.up] tyC) = w4 from HW4.out.1.symm, ← HW4.out.2]
        clear k0 k1 k2 k3 k4 k5 k6 k7 k8 k9 k10 k11
        go_wp2_with fail
        refine (wcmd_c x a2 n2 c2 w.heap.size p _ _ w4 HN4.out HE4.out HTY.out HKB.out hn2 HLE.out HB4.out.size).mono ?_
        rintro e w5 ⟨rfl, hN1, hk1, hb1⟩
        have HS5 : Hid (NuT w5 w.heap.size p (nb ((n : Int) :: numL (ls.take (i + 1)))) (fun k => k < w.heap.size) ∧ Below w.heap.size w w5) := Lib.hid ⟨by
          have e1 : nb ((n : Int) :: numL (ls.take (i + 1))) = nb ((n : Int) :: numL (ls.take i)) ++ nb (numC x) := by
            rw [HTK.out, numL_app, numL_one, nb_cons, nb_cons, nb_app, List.append_assoc]
          rw [e1]
          exact hN1, HB4.out.trans hb1⟩
        clear hN1 hk1 hb1 d0 d1 d2 d3 d4 d5 d6 d7 d8 d9 d10 d11
        go_wp2
        go_roundw
        case rel => exact ⟨i + 1, by omega, by go_num, HS5⟩
        case measure => simp [intOf]; omega
      · have ii : ¬ (i : Int) < (n : Int) := by omega
        obtain rfl : i = n := by omega
        have hT := HS.out.1
        rw [taken_end hlen] at hT
        have e1 : nb ((i : Int) :: numL ls) = bytesL ls := by unfold bytesL; rw [hlen]
        rw [e1] at hT
        obtain ⟨ao, c1, hS⟩ := hT
        have e0 := cell_of_one hS.here
        have HO := Lib.hid hS.own
        have HB3 := Lib.hid HS.out.2
        obtain ⟨m, hm⟩ : ∃ m, m = (bytesL ls).length := ⟨_, rfl⟩
        rw [← hm] at e0
        have HM := Lib.hid hm
        clear hS HS hm e1
        go_wp2
        go_ret2
        exact ⟨fun _ => ⟨ao, c1, by rw [HM.out]; rfl, HO.out⟩, fun h => absurd HG.out h, HB3.out⟩
  · rw [if_neg hg, nil_nilIface.2] at CK
    have q9 := nine_neq
    have HG := Lib.hid hg
    clear hI hg
    go_enter Try.func17, Try.ntmps17
    go_wp2_with fail
    refine CK.out.mono ?_
    rintro e w1 ⟨rfl, hb1⟩
    have HB := Lib.hid hb1
    clear CK hb1
    go_wp2
    go_ret2
    exact ⟨fun h => absurd h HG.out, fun _ => rfl, HB.out⟩
end Go.Proofs.Ytnhnpfhfcbmmlaa
namespace Go.Proofs.Ytnhnpfhfcbmmlaa
open Go Go.RowKit
set_option linter.unusedVariables false
set_option linter.unusedSimpArgs false

theorem own_kinds {w : World} {B B' n k s s' : Nat} {e e' : TypeId} {v u : Value} {xs ys : List Value} (h : w.ownsRow B e s v n xs) (h2 : w.ownsRow B' e' s' u k ys) (hne : e ≠ e') : Aprt v u := by
  intro g hg hg2
  rcases h.2 with ⟨rfl, _⟩ | ⟨g1, _, _, rfl, _, e1, _⟩
  · cases hg
  rcases h2.2 with ⟨rfl, _⟩ | ⟨g2, _, _, rfl, _, e2, _⟩
  · cases hg2
  have i1 : g1 = g := by cases hg; rfl
  have i2 : g2 = g := by cases hg2; rfl
  subst i1
  subst i2
  rw [e1] at e2
  simp at e2
  exact hne e2.2
theorem own_ne_box {w : World} {B n size p : Nat} {e t : TypeId} {v : Value} {xs : List Value} {cs : Array Value} {fr : Nat × Nat} (h : w.ownsRow B e size v n xs) (hb : w.heap[p]? = some (.cells cs t fr)) (hne : e ≠ t) : ∀ g, v.ownBlock = some g → g ≠ p := by
  intro g hg hgp
  rcases h.2 with ⟨rfl, _⟩ | ⟨g1, _, _, rfl, _, e1, _⟩
  · cases hg
  have i1 : g1 = g := by cases hg; rfl
  subst i1
  subst hgp
  rw [e1] at hb
  simp at hb
  exact hne hb.2.1
/-- A box of a command. -/
def BxC (w : World) (p : Nat) (x : Cm) (v : Value) : Prop := w.heap[p]? = some (.cells (x.arr v) tyC (0, 0))
theorem bxC_new (w : World) (x : Cm) (v : Value) : BxC (w.alloc (x.obj v)) w.heap.size x v := heap_alloc_new w _
theorem BxC.at {w : World} {p : Nat} {x : Cm} {v : Value} (h : BxC w p x v) : CAt w p 0 x v := by
  refine ⟨?_, ?_, ?_, ?_, ?_, ?_, ?_, ?_, ?_, ?_, ?_, ?_⟩ <;> (rw [cell_of_row w p _ _ _ _ h]; rfl)
theorem BxC.free {w : World} {p : Nat} {x : Cm} {v : Value} (h : BxC w p x v) (o : Nat) : w.frozen? ⟨p, o, none⟩ = false := frozen_of_row w p o _ _ h
theorem BxC.lt {w : World} {p : Nat} {x : Cm} {v : Value} (h : BxC w p x v) : p < w.heap.size := lt_of_block h
theorem BxC.later {w w' : World} {p : Nat} {x : Cm} {v : Value} (h : BxC w p x v) (hb : Below w.heap.size w w') : BxC w' p x v := (hb.block p h.lt).trans h
theorem BxC.set8 {w : World} {p : Nat} {x : Cm} {v : Value} (h : BxC w p x v) (u : Value) : BxC (w.setCell ⟨p, 8, none⟩ u) p x u := by
  have := put_row (i := 8) h u
  exact this
theorem bl_set {B : Nat} {w w' : World} (h : Below B w w') {p o : Nat} (hp : B ≤ p) (v : Value) : Below B w (w'.setCell ⟨p, o, none⟩ v) :=
  ⟨h.os, h.tape, h.output, by simp only [World.size_setCell]; exact h.size, fun k hk => (heap_setCell_other w' ⟨p, o, none⟩ k v (by show k ≠ p; omega)).trans (h.block k hk)⟩
/-- Rows of ends of the call's own. -/
def EndsO (w : World) (B : Nat) (ls : List Cm) (vs : List Value) : Prop := ∀ j, j < ls.length → ∃ ao c, vs.getD j undef = .slice ao (ls.getD j cm0).es.length c ∧ w.ownsRow B tyE 3 (.slice ao (ls.getD j cm0).es.length c) (ls.getD j cm0).es.length (cellsE (ls.getD j cm0).es)
/-- A log of the call's own. -/
structure OwC (w : World) (B : Nat) (ls : List Cm) (ao : Option Addr) (c : Nat) (vs : List Value) : Prop where
  own : w.ownsRow B tyC 12 (.slice ao ls.length c) ls.length (cellsC ls vs)
  vlen : vs.length = ls.length
  ends : EndsO w B ls vs
theorem EndsO.tch {T : Nat → Prop} {w w' : World} {B : Nat} {ls : List Cm} {vs : List Value} (h : EndsO w B ls vs) (ht : Tch T w w') (hn : ∀ j, j < ls.length → ∀ g, (vs.getD j undef).ownBlock = some g → ¬ T g) : EndsO w' B ls vs := fun j hj => by
  obtain ⟨ao, c, e, ho⟩ := h j hj
  exact ⟨ao, c, e, ht.own ho (fun g hg => hn j hj g (by rw [e]; exact hg))⟩
theorem OwC.tch {T : Nat → Prop} {w w' : World} {B c : Nat} {ls : List Cm} {ao : Option Addr} {vs : List Value} (h : OwC w B ls ao c vs) (ht : Tch T w w') (hn : ∀ k, T k → B ≤ k → False) : OwC w' B ls ao c vs :=
  ⟨ht.own h.own (fun g hg hT => hn g hT (h.own.lt g hg).1), h.vlen, h.ends.tch ht (fun j hj g hg hT => by
    obtain ⟨a2, c2, e, ho⟩ := h.ends j hj
    rw [e] at hg
    exact hn g hT (ho.lt g hg).1)⟩
theorem OwC.later {w w' : World} {B c : Nat} {ls : List Cm} {ao : Option Addr} {vs : List Value} (h : OwC w B ls ao c vs) (hb : Below w.heap.size w w') : OwC w' B ls ao c vs :=
  ⟨owns_bel h.own hb, h.vlen, fun j hj => by
    obtain ⟨a2, c2, e, ho⟩ := h.ends j hj
    exact ⟨a2, c2, e, owns_bel ho hb⟩⟩
theorem OwC.base {w : World} {B B' c : Nat} {ls : List Cm} {ao : Option Addr} {vs : List Value} (h : OwC w B ls ao c vs) (hb : B' ≤ B) : OwC w B' ls ao c vs :=
  ⟨own_base h.own hb, h.vlen, fun j hj => by
    obtain ⟨a2, c2, e, ho⟩ := h.ends j hj
    exact ⟨a2, c2, e, own_base ho hb⟩⟩
theorem OwC.in {w : World} {B c : Nat} {ls : List Cm} {ao : Option Addr} {vs : List Value} (h : OwC w B ls ao c vs) (ht : ∀ x ∈ ls, TyC x) : InC w ao ls.length c ls vs := by
  refine own_inC h.own h.vlen (fun j hj => ?_) ht
  obtain ⟨a2, c2, e, ho⟩ := h.ends j hj
  exact ⟨a2, _, c2, e, own_inE ho (ht _ (memC hj)).es⟩
theorem owC_nil (w : World) (B : Nat) : OwC w B [] none 0 [] := ⟨⟨rfl, .inl ⟨rfl, rfl⟩⟩, rfl, fun j hj => absurd hj (Nat.not_lt_zero j)⟩
/-- One more. -/
theorem OwC.more {w7 w8 : World} {B c c8 : Nat} {ls : List Cm} {ao a8 : Option Addr} {vs : List Value} {x : Cm} {u : Value} (h : OwC w7 B ls ao c vs) {a2 : Option Addr} {c2 : Nat} (hu : u = .slice a2 x.es.length c2) (he : w7.ownsRow B tyE 3 (.slice a2 x.es.length c2) x.es.length (cellsE x.es))
    (hown : w8.ownsRow B tyC 12 (.slice a8 (ls.length + 1) c8) (ls.length + 1) (cellsC ls vs ++ x.cs u)) (hg : w7.grownBy w8 (Value.slice ao ls.length c).ownBlock) : OwC w8 B (ls ++ [x]) a8 c8 (vs ++ [u]) := by
  have hne : tyC ≠ tyE := by decide
  have hT := tch_grown hg
  have hl : (ls ++ [x]).length = ls.length + 1 := by simp
  refine ⟨?_, by simp [h.vlen], fun j hj => ?_⟩
  · rw [hl, cellsC_app h.vlen, cellsC_one]
    exact hown
  · rw [hl] at hj
    by_cases hj2 : j < ls.length
    · obtain ⟨a3, c3, e, ho⟩ := h.ends j hj2
      have e1 : (ls ++ [x]).getD j cm0 = ls.getD j cm0 := by rw [List.getD_eq_getElem?_getD, List.getD_eq_getElem?_getD, List.getElem?_append_left hj2]
      have e2 : (vs ++ [u]).getD j undef = vs.getD j undef := by rw [List.getD_eq_getElem?_getD, List.getD_eq_getElem?_getD, List.getElem?_append_left (by rw [h.vlen]; exact hj2)]
      rw [e1, e2]
      exact ⟨a3, c3, e, hT.own ho (fun g hg2 e3 => own_kinds h.own ho hne g e3.symm hg2)⟩
    · obtain rfl : j = ls.length := by omega
      have e1 : (ls ++ [x]).getD ls.length cm0 = x := by rw [List.getD_eq_getElem?_getD, List.getElem?_append_right (by omega)]; simp
      have e2 : (vs ++ [u]).getD ls.length undef = u := by rw [List.getD_eq_getElem?_getD, List.getElem?_append_right (by rw [h.vlen]; omega), h.vlen]; simp
      rw [e1, e2]
      exact ⟨a2, c2, hu, hT.own he (fun g hg2 e3 => own_kinds h.own he hne g e3.symm hg2)⟩
theorem own_litE (w : World) (B : Nat) (hB : B ≤ w.heap.size) : (w.alloc (.cells #[] tyE)).ownsRow B tyE 3 (.slice (some ⟨w.heap.size, 0, none⟩) 0 0) 0 [] :=
  ⟨rfl, .inr ⟨w.heap.size, 0, _, rfl, hB, heap_alloc_new w _, Nat.le_refl _, by unfold maxLen; omega, by simp, by simp⟩⟩
def GotC (w : World) (ls : List Cm) (e : Ending) (w' : World) : Prop := (∃ ao c vs, e = .returned (.slice ao ls.length c) ∧ OwC w' w.heap.size ls ao c vs) ∧ Below w.heap.size w w'
theorem cs_new (w : World) (x : Cm) (v : Value) : ∀ j u, (x.cs v)[j]? = some u → (w.alloc (.cells (x.arr v) tyC)).cell? ((⟨w.heap.size, 0, none⟩ : Addr).add j) = some u := by
  intro j u hu
  rw [Go.WideShapes.add_plain, World.cell?_alloc_mark, Nat.zero_add]
  have : (x.arr v) = (x.cs v).toArray := rfl
  rw [this, List.getElem?_toArray]
  exact hu
set_option maxRecDepth 100000 in
set_option maxHeartbeats 4000000 in
theorem copyLog_c (ls : List Cm) (vs : List Value) (a : Option Addr) (n c : Nat) (w : World) (hI : InC w a n c ls vs) (hn : n ≤ 1048576) (hes : ∀ x ∈ ls, x.es.length ≤ 1048576) :
    Calls Try.prog 83 #[.slice a n c] w (GotC w ls) := by
  obtain ⟨j0, hj0, hy0, hy1, hy2⟩ := info_parts infoE
  obtain ⟨i0, hi0, hz0, hz1, hz2⟩ := info_parts infoC
  have hlen := hI.len
  have hroom := hI.room
  have HI := Lib.hid hI
  have HES := Lib.hid hes
  have S0 : Hid (∃ ao c vs, (Value.slice none 0 0 = .slice ao 0 c) ∧ OwC w w.heap.size (ls.take 0) ao c vs) := Lib.hid ⟨none, 0, [], rfl, owC_nil w _⟩
  have HB0 := Lib.hid (Below.refl w.heap.size w)
  clear hI hes
  go_enter Try.func83, Try.ntmps83
  go_wp2
  go_loopw [3, 5, 8] (fun rv _ iv wr => ∃ i : Nat, i ≤ n ∧ iv = .int .i64 i ∧ Hid (∃ ao c vs, rv = .slice ao i c ∧ OwC wr w.heap.size (ls.take i) ao c vs) ∧ Hid (Below w.heap.size w wr)) (fun _ _ iv _ => n - (intOf iv).toNat)
  case atStart => exact ⟨0, by omega, rfl, S0, HB0⟩
  case round =>
    obtain ⟨i, hi, rfl, HS, HB⟩ := hrel
    obtain ⟨w3, rfl⟩ : ∃ v, v = wr := ⟨_, rfl⟩
    clear S0 HB0
    obtain ⟨ao, cm, vm, erv, hO⟩ := HS.out
    subst erv
    clear HS
    have hlt3 : w.heap.size ≤ w3.heap.size := HB.out.size
    by_cases hlt : i < n
    · have ii : (i : Int) < (n : Int) := by omega
      have i0' : (0 : Int) ≤ (i : Int) := by omega
      have ic : (i : Int) ≤ (c : Int) := by omega
      have hI2 := HI.out.below HB.out
      obtain ⟨b1, o1, rfl⟩ := HI.out.block (by omega)
      obtain ⟨k0, k1, k2, k3, k4, k5, k6, k7, k8, k9, k10, k11⟩ := hI2.cell hlt
      obtain ⟨a2, n2, c2, hv, hE⟩ := hI2.ends i hlt
      have ht := HI.out.ty hlt
      rw [hv] at k8
      have hmem := memC (ls := ls) (i := i) (by omega)
      have HTK : Hid (ls.take (i + 1) = ls.take i ++ [ls.getD i cm0] ∧ (ls.take i).length = i) := Lib.hid ⟨take_moreC ls (i := i) (by omega), by rw [List.length_take]; omega⟩
      obtain ⟨x, hx⟩ : ∃ x, x = ls.getD i cm0 := ⟨_, rfl⟩
      rw [← hx] at k0 k1 k2 k3 k4 k5 k6 k7 k9 k10 k11 hE ht hmem HTK
      have hn2 : n2 ≤ 1048576 := by rw [← hE.len]; exact HES.out x hmem
      have hel := hE.len
      have HEL := Lib.hid hel
      obtain ⟨w4, hw4⟩ : ∃ w4, w4 = w3.alloc (x.obj (.slice a2 n2 c2)) := ⟨_, rfl⟩
      have hA := bxC_new w3 x (.slice a2 n2 c2)
      have hb4 : Below w3.heap.size w3 w4 := by rw [hw4]; exact bl_al (Below.refl _ _) _
      have hs4 : w4.heap.size = w3.heap.size + 1 := by rw [hw4]; simp
      obtain ⟨p4, hp4⟩ : ∃ p4, p4 = w3.heap.size := ⟨_, rfl⟩
      rw [← hp4, ← hw4] at hA
      have HP4 : Hid (p4 = w3.heap.size ∧ w4.heap.size = p4 + 1 ∧ w.heap.size ≤ p4) := Lib.hid ⟨hp4, by omega, by omega⟩
      have HW4 := Lib.hid (And.intro hw4 hp4)
      have HB4 := Lib.hid (bl_tr HB.out hb4)
      have HO4 := Lib.hid (hO.later hb4)
      have HE4 := Lib.hid (hE.below hb4)
      have HA4 := Lib.hid hA
      have HBLT := Lib.hid hO.own
      have HOB : Hid (∀ g, (Value.slice ao i cm).ownBlock = some g → g < p4) := Lib.hid (fun g hg => by have := (hO.own.lt g (by rw [HTK.out.2]; exact hg)).2; omega)
      have HVB : Hid (∀ j, j < (ls.take i).length → ∀ g, (vm.getD j undef).ownBlock = some g → g < p4) := Lib.hid (fun j hj g hg => by
        obtain ⟨a3, c3, e, ho⟩ := hO.ends j hj
        rw [e] at hg
        have := (ho.lt g hg).2
        omega)
      obtain ⟨d0, d1, d2, d3, d4, d5, d6, d7, d8, d9, d10, d11⟩ := hA.at.lit
      have df := hA.free 8
      clear hx ht hE hv hI2 hmem hw4 hb4 hp4 hA hs4 hel hO
      go_upto_region 5 with fail
      rw [show w3.alloc (.cells #[.int .i64 x.node, .int .i64 x.boot, .int .i64 x.seq, .int .i64 x.time, .int .i64 x.kind, .int .u32 x.vip, .int .i64 x.proto, .int .i64 x.port, .slice a2 n2 c2, .int .u32 x.dip, .int .u32 x.cvip, .bool x.up] tyC) = w4 from HW4.out.1.symm, ← HW4.out.2]
      clear k0 k1 k2 k3 k4 k5 k6 k7 k8 k9 k10 k11
      have HZ2 := Lib.hid HE4.out.zero
      have HCL : Hid ((cellsE x.es).length = n2 * 3) := Lib.hid (by rw [cellsE_len, HEL.out])
      have HCE := Lib.hid HE4.out.cells
      have HBS : Hid (w.heap.size ≤ w4.heap.size) := Lib.hid HB4.out.size
      go_wp2_with (at_builtin; refine append_any rfl (.const (.slice none 0 0)) (.tmp 14) 38 rfl w.heap.size tyE j0 (.agg #[.int .u32 0, .int .i64 0, .int .i64 0]) 3 24 Try.underlying38 hj0 hy0 hy1 hy2 rfl (by decide) (.slice none 0 0) 0 [] rfl ⟨rfl, .inl ⟨rfl, rfl⟩⟩ a2 n2 c2 (cellsE x.es) rfl HZ2.out HCL.out HCE.out (cellsE_one' x.es) (by unfold maxLen; omega) (by omega) HBS.out ?_)
      intro v5 w5 hown5 hg5
      obtain ⟨a5, c5, rfl⟩ := own_form hown5
      try simp only [Nat.zero_add, List.nil_append] at hown5
      have hb5 : Below w4.heap.size w4 w5 := (tch_grown hg5).below (fun k hk => by cases hk) (Nat.le_refl _)
      have hO5 := HO4.out.later hb5
      have hA5 := HA4.out.later hb5
      have hne5 : ∀ g, (Value.slice a5 n2 c5).ownBlock = some g → g ≠ p4 := own_ne_box hown5 hA5 (by decide)
      obtain ⟨w6, hw6⟩ : ∃ w6, w6 = w5.setCell ⟨p4, 8, none⟩ (.slice a5 n2 c5) := ⟨_, rfl⟩
      have hT6 : Tch (· = p4) w5 w6 := by rw [hw6]; exact tch_set w5 ⟨p4, 8, none⟩ _
      have hA6 : BxC w6 p4 x (.slice a5 n2 c5) := by rw [hw6]; exact hA5.set8 _
      have hs6 : w6.heap.size = w5.heap.size := by rw [hw6]; simp
      have hO6 : OwC w6 w.heap.size (ls.take i) ao cm vm := ⟨hT6.own hO5.own (fun g hg e => by
        have := HOB.out g (by rw [HTK.out.2] at hg; exact hg); omega), hO5.vlen, hO5.ends.tch hT6 (fun j hj g hg e => by have := HVB.out j hj g hg; omega)⟩
      have hE6 : w6.ownsRow w.heap.size tyE 3 (.slice a5 n2 c5) n2 (cellsE x.es) := hT6.own hown5 (fun g hg e => hne5 g hg e)
      have hB6 : Below w.heap.size w w6 := (bl_tr HB4.out hb5).trans (hT6.below (fun k hk => by have := HP4.out; omega) (by have := HB4.out.size; have := hb5.size; omega))
      have df5 := hA5.free 8
      have dc5 := hA5.at.lit.2.2.2.2.2.2.2.2.1
      have HW6 := Lib.hid hw6
      have HO6 := Lib.hid hO6
      have HE6 := Lib.hid hE6
      have HB6 := Lib.hid hB6
      have HA6 := Lib.hid hA6
      clear hown5 hg5 hb5 hO5 hA5 hw6 hT6 hA6 hs6 hO6 hE6 hB6 d0 d1 d2 d3 d4 d5 d6 d7 d8 d9 d10 d11 df HBLT hne5
      go_upto_region 6 with fail
      rw [← HW6.out]
      clear df5 dc5
      obtain ⟨d0, d1, d2, d3, d4, d5, d6, d7, d8, d9, d10, d11⟩ := HA6.out.at.lit
      have HOO : Hid ((w6.alloc (.cells #[.int .i64 x.node, .int .i64 x.boot, .int .i64 x.seq, .int .i64 x.time, .int .i64 x.kind, .int .u32 x.vip, .int .i64 x.proto, .int .i64 x.port, .slice a5 n2 c5, .int .u32 x.dip, .int .u32 x.cvip, .bool x.up] tyC)).ownsRow w.heap.size tyC 12 (.slice ao i cm) i (cellsC (ls.take i) vm)) := Lib.hid (by have := HO6.out.own; rw [HTK.out.2] at this; exact this.alloc _)
      have HNN := Lib.hid (cs_new w6 x (.slice a5 n2 c5))
      have HO1 := Lib.hid (cs_one1 x (v := .slice a5 n2 c5) rfl)
      go_wp2_with (at_builtin; refine wpList_append_own _ rfl (.tmp 18) (.tmp 20) 22 rfl w.heap.size tyC i0 _ 12 104 Try.underlying22 hi0 hz0 hz1 hz2 rfl (by decide) _ i (cellsC (ls.take i) vm) rfl HOO.out ⟨w6.heap.size, 0, none⟩ 1 1 (x.cs (.slice a5 n2 c5)) rfl rfl HNN.out HO1.out (by unfold maxLen; omega) (by omega) (by have := HB6.out.size; simp; omega) ?_)
      intro v8 w8 hown8 hg8 _
      obtain ⟨a8, c8, rfl⟩ := own_form hown8
      have hb7 := bl_al (Below.refl w6.heap.size w6) (.cells (x.arr (.slice a5 n2 c5)) tyC)
      have hO7 := HO6.out.later hb7
      have hE7 := owns_bel HE6.out hb7
      have HF : Hid (∃ ao c vs, (Value.slice a8 (i + 1) c8 = .slice ao (i + 1) c) ∧ OwC w8 w.heap.size (ls.take (i + 1)) ao c vs) := Lib.hid (by
        have e2 := HEL.out
        refine ⟨a8, c8, vm ++ [.slice a5 n2 c5], rfl, ?_⟩
        rw [HTK.out.1]
        refine hO7.more (x := x) (a2 := a5) (c2 := c5) (by rw [e2]) (by rw [e2]; exact hE7) ?_ (by rw [HTK.out.2]; exact hg8)
        rw [HTK.out.2]
        exact hown8)
      have HB8 : Hid (Below w.heap.size w w8) := Lib.hid ((HB6.out.alloc HB6.out.size _).grown hg8 (by have := HB6.out.size; simp; omega) (fun k hk => (HOO.out.lt k hk).1))
      clear hown8 hg8 hb7 hO7 hE7 HOO HNN HO1 d0 d1 d2 d3 d4 d5 d6 d7 d8 d9 d10 d11
      go_wp2
      go_roundw
      case rel => exact ⟨i + 1, by omega, by go_num, HF, HB8⟩
      case measure => simp [intOf]; omega
    · have ii : ¬ (i : Int) < (n : Int) := by omega
      obtain rfl : i = n := by omega
      have HF : Hid (GotC w ls (.returned (.slice ao i cm)) w3) := Lib.hid ⟨⟨ao, cm, vm, by rw [hlen], by rw [taken_end hlen] at hO; exact hO⟩, HB.out⟩
      clear hO
      go_wp2
      go_ret
      exact HF.out
set_option maxRecDepth 100000 in
set_option maxHeartbeats 4000000 in
theorem copyR_c (ls : List Cm) (vs : List Value) (a : Option Addr) (n c : Nat) (w : World) (hI : InC w a n c ls vs) (hn : n ≤ 1048576) (hes : ∀ x ∈ ls, x.es.length ≤ 1048576) :
    Calls Try.prog 16 #[.slice a n c] w (GotC w ls) := by
  obtain ⟨j0, hj0, hy0, hy1, hy2⟩ := info_parts infoE
  obtain ⟨i0, hi0, hz0, hz1, hz2⟩ := info_parts infoC
  have hlen := hI.len
  have hroom := hI.room
  have HI := Lib.hid hI
  have HES := Lib.hid hes
  have S0 : Hid (∃ ao c vs, (Value.slice none 0 0 = .slice ao 0 c) ∧ OwC w w.heap.size (ls.take 0) ao c vs) := Lib.hid ⟨none, 0, [], rfl, owC_nil w _⟩
  have HB0 := Lib.hid (Below.refl w.heap.size w)
  clear hI hes
  go_enter Try.func16, Try.ntmps16
  go_wp2
  go_loopw [3, 4, 5] (fun rv iv _ wr => ∃ i : Nat, i ≤ n ∧ iv = .int .i64 i ∧ Hid (∃ ao c vs, rv = .slice ao i c ∧ OwC wr w.heap.size (ls.take i) ao c vs) ∧ Hid (Below w.heap.size w wr)) (fun _ iv _ _ => n - (intOf iv).toNat)
  case atStart => exact ⟨0, by omega, rfl, S0, HB0⟩
  case round =>
    obtain ⟨i, hi, rfl, HS, HB⟩ := hrel
    obtain ⟨w3, rfl⟩ : ∃ v, v = wr := ⟨_, rfl⟩
    clear S0 HB0
    obtain ⟨ao, cm, vm, erv, hO⟩ := HS.out
    subst erv
    clear HS
    have hlt3 : w.heap.size ≤ w3.heap.size := HB.out.size
    by_cases hlt : i < n
    · have ii : (i : Int) < (n : Int) := by omega
      have i0' : (0 : Int) ≤ (i : Int) := by omega
      have ic : (i : Int) ≤ (c : Int) := by omega
      have hI2 := HI.out.below HB.out
      obtain ⟨b1, o1, rfl⟩ := HI.out.block (by omega)
      obtain ⟨k0, k1, k2, k3, k4, k5, k6, k7, k8, k9, k10, k11⟩ := hI2.cell hlt
      obtain ⟨a2, n2, c2, hv, hE⟩ := hI2.ends i hlt
      have ht := HI.out.ty hlt
      rw [hv] at k8
      have hmem := memC (ls := ls) (i := i) (by omega)
      have HTK : Hid (ls.take (i + 1) = ls.take i ++ [ls.getD i cm0] ∧ (ls.take i).length = i) := Lib.hid ⟨take_moreC ls (i := i) (by omega), by rw [List.length_take]; omega⟩
      obtain ⟨x, hx⟩ : ∃ x, x = ls.getD i cm0 := ⟨_, rfl⟩
      rw [← hx] at k0 k1 k2 k3 k4 k5 k6 k7 k9 k10 k11 hE ht hmem HTK
      have hn2 : n2 ≤ 1048576 := by rw [← hE.len]; exact HES.out x hmem
      have hel := hE.len
      have HEL := Lib.hid hel
      obtain ⟨w4, hw4⟩ : ∃ w4, w4 = w3.alloc (x.obj (.slice a2 n2 c2)) := ⟨_, rfl⟩
      have hA := bxC_new w3 x (.slice a2 n2 c2)
      have hb4 : Below w3.heap.size w3 w4 := by rw [hw4]; exact bl_al (Below.refl _ _) _
      have hs4 : w4.heap.size = w3.heap.size + 1 := by rw [hw4]; simp
      obtain ⟨p4, hp4⟩ : ∃ p4, p4 = w3.heap.size := ⟨_, rfl⟩
      rw [← hp4, ← hw4] at hA
      have HP4 : Hid (p4 = w3.heap.size ∧ w4.heap.size = p4 + 1 ∧ w.heap.size ≤ p4) := Lib.hid ⟨hp4, by omega, by omega⟩
      have HW4 := Lib.hid (And.intro hw4 hp4)
      have HB4 := Lib.hid (bl_tr HB.out hb4)
      have HO4 := Lib.hid (hO.later hb4)
      have HE4 := Lib.hid (hE.below hb4)
      have HA4 := Lib.hid hA
      have HBLT := Lib.hid hO.own
      have HOB : Hid (∀ g, (Value.slice ao i cm).ownBlock = some g → g < p4) := Lib.hid (fun g hg => by have := (hO.own.lt g (by rw [HTK.out.2]; exact hg)).2; omega)
      have HVB : Hid (∀ j, j < (ls.take i).length → ∀ g, (vm.getD j undef).ownBlock = some g → g < p4) := Lib.hid (fun j hj g hg => by
        obtain ⟨a3, c3, e, ho⟩ := hO.ends j hj
        rw [e] at hg
        have := (ho.lt g hg).2
        omega)
      obtain ⟨d0, d1, d2, d3, d4, d5, d6, d7, d8, d9, d10, d11⟩ := hA.at.lit
      have df := hA.free 8
      clear hx ht hE hv hI2 hmem hw4 hb4 hp4 hA hs4 hel hO
      go_upto_region 6 with fail
      rw [show w3.alloc (.cells #[.int .i64 x.node, .int .i64 x.boot, .int .i64 x.seq, .int .i64 x.time, .int .i64 x.kind, .int .u32 x.vip, .int .i64 x.proto, .int .i64 x.port, .slice a2 n2 c2, .int .u32 x.dip, .int .u32 x.cvip, .bool x.up] tyC) = w4 from HW4.out.1.symm, ← HW4.out.2]
      clear k0 k1 k2 k3 k4 k5 k6 k7 k8 k9 k10 k11
      have HZ2 := Lib.hid HE4.out.zero
      have HCL : Hid ((cellsE x.es).length = n2 * 3) := Lib.hid (by rw [cellsE_len, HEL.out])
      have HCE0 := Lib.hid HE4.out.cells
      have HBS : Hid (w.heap.size ≤ (w4.alloc (.cells #[] tyE)).heap.size) := Lib.hid (by have := HB4.out.size; simp; omega)
      have HEM := Lib.hid (own_litE w4 w.heap.size HB4.out.size)
      have HCE := Lib.hid (HE4.out.below (bl_al (Below.refl _ _) (.cells #[] tyE))).cells
      have hp4w : p4 < w4.heap.size := HA4.out.lt
      go_wp2_with (at_builtin; refine append_any rfl (.tmp 16) (.tmp 19) 38 rfl w.heap.size tyE j0 (.agg #[.int .u32 0, .int .i64 0, .int .i64 0]) 3 24 Try.underlying38 hj0 hy0 hy1 hy2 rfl (by decide) _ 0 [] rfl HEM.out a2 n2 c2 (cellsE x.es) rfl HZ2.out HCL.out HCE.out (cellsE_one' x.es) (by unfold maxLen; omega) (by omega) HBS.out ?_)
      intro v5 w5 hown5 hg5
      obtain ⟨a5, c5, rfl⟩ := own_form hown5
      try simp only [Nat.zero_add, List.nil_append] at hown5
      have hb5 : Below w4.heap.size w4 w5 := ((bl_al (Below.refl w4.heap.size w4) (.cells #[] tyE)).grown hg5 (by simp) (fun k hk => by cases hk; exact Nat.le_refl _))
      have hO5 := HO4.out.later hb5
      have hA5 := HA4.out.later hb5
      have hne5 : ∀ g, (Value.slice a5 n2 c5).ownBlock = some g → g ≠ p4 := own_ne_box hown5 hA5 (by decide)
      obtain ⟨w6, hw6⟩ : ∃ w6, w6 = w5.setCell ⟨p4, 8, none⟩ (.slice a5 n2 c5) := ⟨_, rfl⟩
      have hT6 : Tch (· = p4) w5 w6 := by rw [hw6]; exact tch_set w5 ⟨p4, 8, none⟩ _
      have hA6 : BxC w6 p4 x (.slice a5 n2 c5) := by rw [hw6]; exact hA5.set8 _
      have hs6 : w6.heap.size = w5.heap.size := by rw [hw6]; simp
      have hO6 : OwC w6 w.heap.size (ls.take i) ao cm vm := ⟨hT6.own hO5.own (fun g hg e => by
        have := HOB.out g (by rw [HTK.out.2] at hg; exact hg); omega), hO5.vlen, hO5.ends.tch hT6 (fun j hj g hg e => by have := HVB.out j hj g hg; omega)⟩
      have hE6 : w6.ownsRow w.heap.size tyE 3 (.slice a5 n2 c5) n2 (cellsE x.es) := hT6.own hown5 (fun g hg e => hne5 g hg e)
      have hB6 : Below w.heap.size w w6 := (bl_tr HB4.out hb5).trans (hT6.below (fun k hk => by have := HP4.out; omega) (by have := HB4.out.size; have := hb5.size; omega))
      have df5 := hA5.free 8
      have dc5 := hA5.at.lit.2.2.2.2.2.2.2.2.1
      have HW6 := Lib.hid hw6
      have HO6 := Lib.hid hO6
      have HE6 := Lib.hid hE6
      have HB6 := Lib.hid hB6
      have HA6 := Lib.hid hA6
      clear hp4w hown5 hg5 hb5 hO5 hA5 hw6 hT6 hA6 hs6 hO6 hE6 hB6 d0 d1 d2 d3 d4 d5 d6 d7 d8 d9 d10 d11 df HBLT hne5
      go_upto_region 7 with fail
      rw [← HW6.out]
      clear df5 dc5
      obtain ⟨d0, d1, d2, d3, d4, d5, d6, d7, d8, d9, d10, d11⟩ := HA6.out.at.lit
      have HOO : Hid ((w6.alloc (.cells #[.int .i64 x.node, .int .i64 x.boot, .int .i64 x.seq, .int .i64 x.time, .int .i64 x.kind, .int .u32 x.vip, .int .i64 x.proto, .int .i64 x.port, .slice a5 n2 c5, .int .u32 x.dip, .int .u32 x.cvip, .bool x.up] tyC)).ownsRow w.heap.size tyC 12 (.slice ao i cm) i (cellsC (ls.take i) vm)) := Lib.hid (by have := HO6.out.own; rw [HTK.out.2] at this; exact this.alloc _)
      have HNN := Lib.hid (cs_new w6 x (.slice a5 n2 c5))
      have HO1 := Lib.hid (cs_one1 x (v := .slice a5 n2 c5) rfl)
      go_wp2_with (at_builtin; refine wpList_append_own _ rfl (.tmp 23) (.tmp 25) 22 rfl w.heap.size tyC i0 _ 12 104 Try.underlying22 hi0 hz0 hz1 hz2 rfl (by decide) _ i (cellsC (ls.take i) vm) rfl HOO.out ⟨w6.heap.size, 0, none⟩ 1 1 (x.cs (.slice a5 n2 c5)) rfl rfl HNN.out HO1.out (by unfold maxLen; omega) (by omega) (by have := HB6.out.size; simp; omega) ?_)
      intro v8 w8 hown8 hg8 _
      obtain ⟨a8, c8, rfl⟩ := own_form hown8
      have hb7 := bl_al (Below.refl w6.heap.size w6) (.cells (x.arr (.slice a5 n2 c5)) tyC)
      have hO7 := HO6.out.later hb7
      have hE7 := owns_bel HE6.out hb7
      have HF : Hid (∃ ao c vs, (Value.slice a8 (i + 1) c8 = .slice ao (i + 1) c) ∧ OwC w8 w.heap.size (ls.take (i + 1)) ao c vs) := Lib.hid (by
        have e2 := HEL.out
        refine ⟨a8, c8, vm ++ [.slice a5 n2 c5], rfl, ?_⟩
        rw [HTK.out.1]
        refine hO7.more (x := x) (a2 := a5) (c2 := c5) (by rw [e2]) (by rw [e2]; exact hE7) ?_ (by rw [HTK.out.2]; exact hg8)
        rw [HTK.out.2]
        exact hown8)
      have HB8 : Hid (Below w.heap.size w w8) := Lib.hid ((HB6.out.alloc HB6.out.size _).grown hg8 (by have := HB6.out.size; simp; omega) (fun k hk => (HOO.out.lt k hk).1))
      clear hown8 hg8 hb7 hO7 hE7 HOO HNN HO1 d0 d1 d2 d3 d4 d5 d6 d7 d8 d9 d10 d11
      go_wp2
      go_roundw
      case rel => exact ⟨i + 1, by omega, by go_num, HF, HB8⟩
      case measure => simp [intOf]; omega
    · have ii : ¬ (i : Int) < (n : Int) := by omega
      obtain rfl : i = n := by omega
      have HF : Hid (GotC w ls (.returned (.slice ao i cm)) w3) := Lib.hid ⟨⟨ao, cm, vm, by rw [hlen], by rw [taken_end hlen] at hO; exact hO⟩, HB.out⟩
      clear hO
      go_wp2
      go_ret
      exact HF.out
end Go.Proofs.Ytnhnpfhfcbmmlaa
