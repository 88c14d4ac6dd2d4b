/- Contracts of strconv.FormatUint and strconv.Itoa at the numbers of one byte: the decimal numeral. Condition: the library's table of powers of ten lies as its text lays it. -/
import Derived.Test.YtolkheelmmgnbaaDoorA1
import Derived.Test.YtolkheelmmgnbaaDoorShelf
import Derived.Lib.AppendIntMem
import Derived.BigCall
import Derived.Lib.OwnBridge
import Derived.Lib.ItoaLen
import Derived.LoopTactic
import Derived.OwnWalk
import Derived.BigGuard
namespace Go.Proofs.YtolkheelmmgnbaaDoor
open Go Go.RowKit Go.Sort

theorem small_num (u : Nat) (hu : u < 100) (w : World) :
    Calls Tryd.prog 55 #[.int .u64 u, .int .i64 10] w fun e w' => e = .returned (.string ⟨(Lib.decDigits u).toArray⟩) ∧ Below w.heap.size w w' := by
  go_enter Tryd.func55, Tryd.ntmps55
  go_wp2_with (go_at_call 71; refine (Tryd.internal_strconv_small u hu _).mono ?_; rintro e w' ⟨rfl, rfl⟩)
  go_ret
  exact ⟨rfl, Below.refl _ _⟩

set_option maxHeartbeats 12800000 in
set_option maxRecDepth 100000 in
theorem big_num (u : Nat) (hu : 100 ≤ u) (hu64 : u < 18446744073709551616) (w : World) (htab : Lib.TabIs Tryd.prog w "internal/strconv.uint64pow10" .u64 Lib.pow10Tab) :
    Calls Tryd.prog 55 #[.int .u64 u, .int .i64 10] w fun e w' => e = .returned (.string ⟨(Lib.decDigits u).toArray⟩) ∧ Below w.heap.size w w' := by
  have hu1 : 1 ≤ u := by omega
  have hnd20 : Lib.nDigits u ≤ 20 := by have := Lib.numDigits_eq u hu1 hu64; split at this <;> omega
  have hal : Tryd.prog.arrayLen 103 = 24 := by simp [Program.arrayLen, Tryd.underlying103]
  have hsl : ∀ W, (Instr.sliceAt 103 (.pointer (some ⟨w.heap.size, 0, none⟩)) none (some (.int .i64 (Lib.nDigits u : Int))) none).run Tryd.prog W = .ok (.slice (some ⟨w.heap.size, 0, none⟩) (Lib.nDigits u) 24) W := fun W => by
    rw [run_sliceAt_array_h W 103 ⟨w.heap.size, 0, none⟩ (by simp [Program.arrayLen, Program.elem, Tryd.underlying103]) .i64 (Lib.nDigits u : Int) (by omega) (by rw [hal]; omega)]
    go_simp
  have hH0 := Lib.holds_zero0 w 103 (Lib.nDigits u) (by omega)
  have hfmt := Tryd.internal_strconv_formatBase10 w.heap.size 0 24 u (Array.replicate (Lib.nDigits u) 0) (w.alloc (.cells Lib.zeros24 103)) hH0 (by rw [Array.size_replicate]; exact Lib.lt_pow_nDigits u) hu64 (by rw [Array.size_replicate]; omega)
  rw [Array.size_replicate] at hfmt
  have HH0 := Lib.hid hH0
  have iu : (100 : Int) ≤ (u : Int) := by omega
  clear hH0 hal
  go_enter Tryd.func55, Tryd.ntmps55
  go_wp2_with (first
    | (go_at_call 72; refine (Tryd.internal_strconv_numDigits u hu1 hu64 _ (Lib.tabIs_alloc htab _)).mono ?_; rintro e w' ⟨rfl, rfl⟩))
  go_at_call 73
  refine hfmt.mono ?_
  rintro e w' ⟨rfl, k, v', dk, rfl, hF⟩
  have hcv : (convert 76 9 (.slice (some ⟨w.heap.size, 0, none⟩) (Lib.nDigits u) 24)).run Tryd.prog ((putRow (fun (b : UInt8) => Value.int .u8 (b.toNat : Int)) (w.alloc (.cells Lib.zeros24 103)) w.heap.size 0 dk).drewN k) = .ok (.string ⟨(Lib.decDigits u).toArray⟩) ((putRow (fun (b : UInt8) => Value.int .u8 (b.toNat : Int)) (w.alloc (.cells Lib.zeros24 103)) w.heap.size 0 dk).drewN k) := by
    have h := run_convert_bytes_back (P := Tryd.prog) ((putRow (fun (b : UInt8) => Value.int .u8 (b.toNat : Int)) (w.alloc (.cells Lib.zeros24 103)) w.heap.size 0 dk).drewN k) 76 9 5 ⟨w.heap.size, 0, none⟩ 24 (Lib.decDigits u) Tryd.underlying76 Tryd.underlying5 Tryd.underlying9 (fun j hj => by
      rw [Lib.row_is_numeral hF j hj, Lib.add_plain, World.cell?_drewN]
      exact cell?_putRow (fun (b : UInt8) => Value.int .u8 (b.toNat : Int)) _ w.heap.size 0 _ dk HH0.out (by rw [hF.size, Array.size_replicate]) j (by rw [hF.size]; rw [Lib.decDigits_length] at hj; exact hj))
    rw [Lib.decDigits_length] at h
    exact h
  go_wp2
  go_ret
  refine ⟨rfl, ?_⟩
  obtain ⟨os, eo⟩ := Lib.fin_at w (.cells Lib.zeros24 103) dk k 0
  rw [eo]
  exact Lib.below_grow _ w (Nat.le_refl _) k os

/-- strconv.FormatUint(u, 10). -/
theorem num_any (u : Nat) (hu64 : u < 18446744073709551616) (w : World) (htab : Lib.TabIs Tryd.prog w "internal/strconv.uint64pow10" .u64 Lib.pow10Tab) :
    Calls Tryd.prog 36 #[.int .u64 u, .int .i64 10] w fun e w' => e = .returned (.string ⟨(Lib.decDigits u).toArray⟩) ∧ Below w.heap.size w w' := by
  have c : Calls Tryd.prog 55 #[.int .u64 u, .int .i64 10] w fun e w' => e = .returned (.string ⟨(Lib.decDigits u).toArray⟩) ∧ Below w.heap.size w w' := by
    by_cases h : u < 100
    · exact small_num u h w
    · exact big_num u (by omega) hu64 w htab
  have H := Lib.hid c
  clear c htab
  go_enter Tryd.func36, Tryd.ntmps36
  go_wp2_with (go_at_call 55; refine H.out.mono ?_; rintro e w' ⟨rfl, hb⟩)
  go_ret
  exact ⟨rfl, hb⟩

/-- A number's numeral, as a value. -/
def decS (n : Int) : ByteArray := ⟨(Lib.decDigits n.toNat).toArray⟩

/-- strconv.Itoa. -/
theorem itoa_any (n : Int) (h0 : 0 ≤ n) (h1 : n < 256) (w : World) (htab : Lib.TabIs Tryd.prog w "internal/strconv.uint64pow10" .u64 Lib.pow10Tab) :
    Calls Tryd.prog 39 #[.int .i64 n] w fun e w' => e = .returned (.string (decS n)) ∧ Below w.heap.size w w' := by
  refine (Tryd.strconv_Itoa n (by omega) (by omega) w htab).mono ?_
  rintro e w' ⟨rfl, k, os, rfl⟩
  refine ⟨?_, Lib.below_grow _ w (Nat.le_refl _) k os⟩
  obtain ⟨u, rfl⟩ := Int.eq_ofNat_of_zero_le h0
  rw [Lib.itoa_nonneg]
  rfl

/-- What the contracts ask of the library's variables: the table of powers of ten, MaxLen an int, the two errors. -/
structure Good (w : World) : Prop where
  tab : Lib.TabIs Tryd.prog w "internal/strconv.uint64pow10" .u64 Lib.pow10Tab
  len : ∃ m, w.cell? ⟨3, 0, none⟩ = some (.int .i64 m)
  syn : ∃ tp p, w.var? Tryd.prog "strconv.ErrSyntax" = some #[.iface tp p]
  rng : ∃ tp p, w.var? Tryd.prog "strconv.ErrRange" = some #[.iface tp p]
theorem gSyn : Tryd.prog.globalNamed "strconv.ErrSyntax" = some 0 := by kernel_rfl
theorem gRng : Tryd.prog.globalNamed "strconv.ErrRange" = some 1 := by kernel_rfl
theorem gPow : Tryd.prog.globalNamed "internal/strconv.uint64pow10" = some 2 := by kernel_rfl
theorem Good.size {w : World} (h : Good w) : 4 ≤ w.heap.size := by
  obtain ⟨m, hm⟩ := h.len
  exact World.block_lt_of_cell? _ _ hm
theorem Good.below {w w' : World} (h : Good w) {B : Nat} (hb : Below B w w') (hB : 4 ≤ B) : Good w' := by
  obtain ⟨tab, ⟨m, hm⟩, ⟨tp, p, hs⟩, ⟨tp2, p2, hr⟩⟩ := h
  exact ⟨var?_below hb gPow (by omega) tab, ⟨m, by rw [hb.cell (p := ⟨3, 0, none⟩) (show 3 < B by omega)]; exact hm⟩, ⟨tp, p, var?_below hb gSyn (by omega) hs⟩, ⟨tp2, p2, var?_below hb gRng (by omega) hr⟩⟩
theorem Good.on {W w w' : World} (h : Good w) (hW : 4 ≤ W.heap.size) (hb : Below W.heap.size w w') : Good w' := h.below hb hW

theorem info9 : (Tryd.prog.info? 9).map (fun i => (i.zero, i.size, i.bytes)) = some (some (.string ByteArray.empty), 1, 16) := by kernel_rfl

theorem own_below {w w' : World} {base : Nat} {e : TypeId} {size : Nat} {v : Value} {n : Nat} {xs : List Value} (h : w.ownsRow base e size v n xs) (hB : Below w.heap.size w w') : w'.ownsRow base e size v n xs := by
  obtain ⟨hl, h0 | ⟨g, cap, cur, hv, hb, hh, r⟩⟩ := h
  · exact ⟨hl, .inl h0⟩
  · have hg : g < w.heap.size := by
      rcases Nat.lt_or_ge g w.heap.size with h1 | h1
      · exact h1
      · rw [Array.getElem?_eq_none h1] at hh
        cases hh
    exact ⟨hl, .inr ⟨g, cap, cur, hv, hb, by rw [hB.block g hg]; exact hh, r⟩⟩

/-- Four numerals with points between. -/
def textL (a b c d : Int) : List UInt8 := Lib.join [(decS a).data.toList, (decS b).data.toList, (decS c).data.toList, (decS d).data.toList] [46]

set_option maxHeartbeats 2000000 in
set_option maxRecDepth 100000 in
theorem text_core (x a b c d : Int) (a0 : 0 ≤ a) (a1 : a < 256) (b0 : 0 ≤ b) (b1 : b < 256) (c0 : 0 ≤ c) (c1 : c < 256) (d0 : 0 ≤ d) (d1 : d < 256) (w : World) (hg : Good w)
    (hs : Hid (∀ w : World, Calls Tryd.prog 38 #[.int .u32 x] w fun e w' => e = .returned (.agg #[.int .u8 a, .int .u8 b, .int .u8 c, .int .u8 d]) ∧ Below w.heap.size w w')) :
    Calls Tryd.prog 12 #[.int .u32 x] w fun e w' => e = .returned (.string ⟨(textL a b c d).toArray⟩) ∧ Below w.heap.size w w' := by
  have G := Lib.hid hg
  clear hg
  obtain ⟨i0, hi, hz0, hz1, hz2⟩ := info_parts info9
  have i_0 := at0
  have i_1 := at1
  have i_2 := at2
  have i_3 := at3
  go_enter Tryd.func12, Tryd.ntmps12
  go_wp2_with (go_at_call 38; refine (hs.out _).mono ?_; rintro e w1 ⟨rfl, hb⟩)
  go_loopw [3, 8] (fun v i wr => ∃ k : Nat, k ≤ 4 ∧ i = .int .i64 k ∧ wr.ownsRow w.heap.size 9 1 v k (([decS a, decS b, decS c, decS d].take k).map Value.string) ∧ Below w.heap.size w wr) (fun _ i _ => 4 - (intOf i).toNat)
  case atStart => exact ⟨0, by omega, rfl, ⟨rfl, .inl ⟨rfl, rfl⟩⟩, hb⟩
  case round =>
    obtain ⟨k, hk, rfl, hown, hB⟩ := hrel
    have GW := Lib.hid (G.out.below hB G.out.size)
    clear hb
    have hsz := hB.size
    have hk' : k = 0 ∨ k = 1 ∨ k = 2 ∨ k = 3 ∨ k = 4 := by omega
    rcases hk' with rfl | rfl | rfl | rfl | rfl
    · go_wp2_with (first | (go_at_call 39; refine (itoa_any a a0 a1 _ GW.out.tab).mono ?_; rintro e w2 ⟨rfl, hb2⟩) | (at_builtin; refine wpList_append_own _ rfl _ _ 63 rfl w.heap.size 9 i0 (.string ByteArray.empty) 1 16 Tryd.underlying63 hi hz0 hz1 hz2 rfl (by decide) _ _ _ rfl ((own_below hown hb2).alloc _) ⟨w2.heap.size, 0, none⟩ 1 1 [.string (decS a)] rfl rfl ?c1 ?c2 ?c3 ?c4 ?c5 ?_))
      case c1 => exact cell_one_new _ _ _
      case c2 => intro u hu; simp at hu; subst hu; rfl
      case c3 => decide
      case c4 => omega
      case c5 => have := hb2.size; simp; omega
      intro v' w3 hown3 hgrow _
      have hB2 := bl_tr hB hb2
      have hown2 := own_below hown hb2
      have hsz2 := hB2.size
      have hB3 := (bl_al hB2 _).grown hgrow (by simp; omega) (fun k hk => (hown2.lt k hk).1)
      clear hown hown2 hB hB2 hb2 hgrow GW
      go_wp2
      go_roundw
      case rel => exact ⟨1, by omega, rfl, hown3, hB3⟩
      case measure => simp [intOf]
    · go_wp2_with (first | (go_at_call 39; refine (itoa_any b b0 b1 _ GW.out.tab).mono ?_; rintro e w2 ⟨rfl, hb2⟩) | (at_builtin; refine wpList_append_own _ rfl _ _ 63 rfl w.heap.size 9 i0 (.string ByteArray.empty) 1 16 Tryd.underlying63 hi hz0 hz1 hz2 rfl (by decide) _ _ _ rfl ((own_below hown hb2).alloc _) ⟨w2.heap.size, 0, none⟩ 1 1 [.string (decS b)] rfl rfl ?c1 ?c2 ?c3 ?c4 ?c5 ?_))
      case c1 => exact cell_one_new _ _ _
      case c2 => intro u hu; simp at hu; subst hu; rfl
      case c3 => decide
      case c4 => omega
      case c5 => have := hb2.size; simp; omega
      intro v' w3 hown3 hgrow _
      have hB2 := bl_tr hB hb2
      have hown2 := own_below hown hb2
      have hsz2 := hB2.size
      have hB3 := (bl_al hB2 _).grown hgrow (by simp; omega) (fun k hk => (hown2.lt k hk).1)
      clear hown hown2 hB hB2 hb2 hgrow GW
      go_wp2
      go_roundw
      case rel => exact ⟨2, by omega, rfl, hown3, hB3⟩
      case measure => simp [intOf]
    · go_wp2_with (first | (go_at_call 39; refine (itoa_any c c0 c1 _ GW.out.tab).mono ?_; rintro e w2 ⟨rfl, hb2⟩) | (at_builtin; refine wpList_append_own _ rfl _ _ 63 rfl w.heap.size 9 i0 (.string ByteArray.empty) 1 16 Tryd.underlying63 hi hz0 hz1 hz2 rfl (by decide) _ _ _ rfl ((own_below hown hb2).alloc _) ⟨w2.heap.size, 0, none⟩ 1 1 [.string (decS c)] rfl rfl ?c1 ?c2 ?c3 ?c4 ?c5 ?_))
      case c1 => exact cell_one_new _ _ _
      case c2 => intro u hu; simp at hu; subst hu; rfl
      case c3 => decide
      case c4 => omega
      case c5 => have := hb2.size; simp; omega
      intro v' w3 hown3 hgrow _
      have hB2 := bl_tr hB hb2
      have hown2 := own_below hown hb2
      have hsz2 := hB2.size
      have hB3 := (bl_al hB2 _).grown hgrow (by simp; omega) (fun k hk => (hown2.lt k hk).1)
      clear hown hown2 hB hB2 hb2 hgrow GW
      go_wp2
      go_roundw
      case rel => exact ⟨3, by omega, rfl, hown3, hB3⟩
      case measure => simp [intOf]
    · go_wp2_with (first | (go_at_call 39; refine (itoa_any d d0 d1 _ GW.out.tab).mono ?_; rintro e w2 ⟨rfl, hb2⟩) | (at_builtin; refine wpList_append_own _ rfl _ _ 63 rfl w.heap.size 9 i0 (.string ByteArray.empty) 1 16 Tryd.underlying63 hi hz0 hz1 hz2 rfl (by decide) _ _ _ rfl ((own_below hown hb2).alloc _) ⟨w2.heap.size, 0, none⟩ 1 1 [.string (decS d)] rfl rfl ?c1 ?c2 ?c3 ?c4 ?c5 ?_))
      case c1 => exact cell_one_new _ _ _
      case c2 => intro u hu; simp at hu; subst hu; rfl
      case c3 => decide
      case c4 => omega
      case c5 => have := hb2.size; simp; omega
      intro v' w3 hown3 hgrow _
      have hB2 := bl_tr hB hb2
      have hown2 := own_below hown hb2
      have hsz2 := hB2.size
      have hB3 := (bl_al hB2 _).grown hgrow (by simp; omega) (fun k hk => (hown2.lt k hk).1)
      clear hown hown2 hB hB2 hb2 hgrow GW
      go_wp2
      go_roundw
      case rel => exact ⟨4, by omega, rfl, hown3, hB3⟩
      case measure => simp [intOf]
    · rcases hown.2 with ⟨_, h4⟩ | ⟨g, cap, cur, rfl, hbg, hh, hn, hm, hs4, ht⟩
      · exact absurd h4 (by decide)
      · have hcells : ∀ (j : Nat) x, [decS a, decS b, decS c, decS d][j]? = some x → wr.cell? ⟨g, 0 + j, none⟩ = some (.string x) := by
          intro j x hj
          have hj4 : j < 4 := (List.getElem?_eq_some_iff.1 hj).1
          rw [Nat.zero_add, hown.cellAt j (by omega), List.take_of_length_le (by simp), List.getElem?_map, hj]
          rfl
        have hgs : g < wr.heap.size := by
          rcases Nat.lt_or_ge g wr.heap.size with h1 | h1
          · exact h1
          · rw [Array.getElem?_eq_none h1] at hh
            cases hh
        have hlen : (textL a b c d).length ≤ 140737488355328 := by
          have l1 : ∀ n : Int, 0 ≤ n → n < 256 → ((decS n).data.toList).length ≤ 20 := by
            intro n h0 h1
            have := Lib.nDigits_le20 n.toNat (by omega)
            show (Lib.decDigits n.toNat).length ≤ 20
            rw [Lib.decDigits_length]
            exact this
          have := l1 a a0 a1
          have := l1 b b0 b1
          have := l1 c c0 c1
          have := l1 d d0 d1
          simp only [textL, Lib.join, List.intercalate, List.intersperse, List.flatten, List.append_eq, List.length_append, List.length_cons, List.length_nil]
          omega
        have J := Lib.hid (Tryd.strings_Join g 0 cap [decS a, decS b, decS c, decS d] ⟨#[46]⟩ wr hcells hgs (by simp) hn hlen)
        have HB := Lib.hid hB
        clear hown hcells hh hbg hm hs4 ht hlen hB GW i_0 i_1 i_2 i_3
        go_wp2_with (go_at_call 40; refine J.out.mono ?_; rintro e w2 ⟨rfl, hb2⟩)
        go_ret
        exact ⟨rfl, bl_tr HB.out hb2⟩

theorem text_any (x : Int) (h0 : 0 ≤ x) (h1 : x < 4294967296) (w : World) (hg : Good w) :
    Calls Tryd.prog 12 #[.int .u32 x] w fun e w' => e = .returned (.string ⟨(textL (x / 16777216) (x / 65536 % 256) (x / 256 % 256) (x % 256)).toArray⟩) ∧ Below w.heap.size w w' :=
  text_core x _ _ _ _ (by omega) (by omega) (by omega) (by omega) (by omega) (by omega) (by omega) (by omega) w hg (Lib.hid (split_any x h0 h1))
end Go.Proofs.YtolkheelmmgnbaaDoor
