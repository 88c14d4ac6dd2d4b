/- Contract of PacketCuts: true. Conditions: the Data came in, the packet's numbers are of their types, rows of at most 2^62 bytes. -/
import Derived.Test.YtkgfdndbjaeohaaSlips
namespace Go.Proofs.Ytkgfdndbjaeohaa
open Go Go.RowKit
set_option linter.unusedVariables false
set_option linter.unusedSimpArgs false

theorem cut_bad {l : List Int} (h : Is l) {k : Nat} (hk : k < l.length) : ¬ Is (l.take k) := by
  intro h2
  have s1 := h.size
  have s2 := h2.size
  have e : (l.take k).length = k := by rw [List.length_take]; omega
  rw [e] at s2
  have e2 : n2 (l.take k) 2 = n2 l 2 := by
    unfold n2
    simp only [List.getD_eq_getElem?_getD]
    rw [List.getElem?_take, List.getElem?_take, if_pos (by omega), if_pos (by omega)]
  rw [e2] at s2
  omega
theorem more_bad {l m : List Int} (h : Is l) (hm : 0 < m.length) : ¬ Is (l ++ m) := by
  intro h2
  have s1 := h.size
  have s2 := h2.size
  rw [List.length_append] at s2
  have e2 : n2 (l ++ m) 2 = n2 l 2 := by
    unfold n2
    simp only [List.getD_eq_getElem?_getD]
    rw [List.getElem?_append_left (by omega), List.getElem?_append_left (by omega)]
  rw [e2] at s2
  omega

set_option maxRecDepth 100000 in
set_option maxHeartbeats 1000000 in
theorem cuts_none (p : Pk) (a b : Option Addr) (n c m d : Nat) (i : Int) (lb : List Int) (w : World) (hI : In w a n c p.data) (hJ : In w b m d lb) (ht : Typed p) (hn : n ≤ 4611686018427387904) (hm : m ≤ 4611686018427387904) (h : ¬ Ok p ∨ 2000 < m) :
    Calls Try.prog 8 #[p.val a n c, .int .i64 i, .slice b m d] w fun e w' => e = .returned (.bool true) ∧ Below w.heap.size w w' := by
  obtain ⟨W, hW, hB⟩ := Box.start w p a n c
  have HW := Lib.hid hW
  have HB := Lib.hid hB
  have HI := Lib.hid hI
  by_cases hok : Ok p
  · have h2 : (2000 : Int) < (m : Int) := by
      rcases h with h | h
      · exact absurd hok h
      · omega
    have t2 : decide ((2000 : Int) < (m : Int)) = true := decide_eq_true h2
    have CB := Lib.hid (fun W (h : In W a n c p.data) => build_ok p a n c hok ht W h)
    clear hW hB hI ht hok h hJ h2
    go_enter Try.func8, Try.ntmps8
    go_wp2_with fail
    rw [HW.out]
    refine (alive_any W).mono ?_
    rintro e w1 ⟨rfl, hb⟩
    have HB1 := Lib.hid (HB.out.next hb)
    obtain ⟨e0, e1, e2, e3, e4, e5, e6, e7, e8, e9, e10, e11, e12⟩ := HB1.out.here
    clear hb HB HW
    go_wp2_with fail
    refine (CB.out w1 (HI.out.below HB1.out.below)).mono ?_
    rintro e w2 ⟨g, cap, rfl, _, hb⟩
    have HB2 := Lib.hid (bl_tr HB1.out.below hb)
    clear hb HB1 e0 e1 e2 e3 e4 e5 e6 e7 e8 e9 e10 e11 e12
    go_wp2
    go_ret
    exact ⟨rfl, HB2.out⟩
  · have CB := Lib.hid (fun W => build_no p a n c HI.out.len hn hok W)
    clear hW hB hI ht hok h hJ
    go_enter Try.func8, Try.ntmps8
    go_wp2_with fail
    rw [HW.out]
    refine (alive_any W).mono ?_
    rintro e w1 ⟨rfl, hb⟩
    have HB1 := Lib.hid (HB.out.next hb)
    obtain ⟨e0, e1, e2, e3, e4, e5, e6, e7, e8, e9, e10, e11, e12⟩ := HB1.out.here
    clear hb HB HW
    go_wp2_with fail
    refine (CB.out w1).mono ?_
    rintro e w2 ⟨rfl, hb⟩
    have HB2 := Lib.hid (bl_tr HB1.out.below hb)
    clear hb HB1 e0 e1 e2 e3 e4 e5 e6 e7 e8 e9 e10 e11 e12
    go_wp2
    go_ret
    exact ⟨rfl, HB2.out⟩

set_option maxRecDepth 100000 in
set_option maxHeartbeats 4000000 in
theorem cuts_some (p : Pk) (a b : Option Addr) (n c m d : Nat) (i : Int) (lb : List Int) (w : World) (hI : In w a n c p.data) (hJ : In w b m d lb) (ht : Typed p) (hok : Ok p) (hm : m ≤ 2000) (hi : -9223372036854775808 ≤ i ∧ i ≤ 9223372036854775807) :
    Calls Try.prog 8 #[p.val a n c, .int .i64 i, .slice b m d] w fun e w' => e = .returned (.bool true) ∧ Below w.heap.size w w' := by
  obtain ⟨i0, hi0, hz0, hz1, hz2⟩ := info_parts info5
  obtain ⟨W, hW, hB⟩ := Box.start w p a n c
  have HW := Lib.hid hW
  have HB := Lib.hid hB
  have HI := Lib.hid hI
  have HJ := Lib.hid hJ
  have t2 : decide ((2000 : Int) < (m : Int)) = false := decide_eq_false (by omega)
  have CB := Lib.hid (fun W (h : In W a n c p.data) => build_ok p a n c hok ht W h)
  have hsl := hok.len
  have hs8 : 8 ≤ segLen p := by unfold segLen; split <;> omega
  have HIS := Lib.hid (Is.of hok ht (b := bts p) rfl).1
  obtain ⟨N, hN⟩ : ∃ N, N = 20 + segLen p := ⟨_, rfl⟩
  rw [← hN] at CB
  have HBL : Hid ((bts p).length = N) := Lib.hid (by rw [hN, bts_len])
  have HFB := Lib.hid (fit_bts ht.data)
  have hN1 : 28 ≤ N ∧ N ≤ 1500 := by omega
  obtain ⟨N0, N1⟩ := hN1
  obtain ⟨r, hr, r0, r1⟩ : ∃ r, IntKind.u64.wrap i = r ∧ 0 ≤ r ∧ r < 18446744073709551616 := ⟨_, rfl, by rw [IntKind.wrap_u64]; omega, by rw [IntKind.wrap_u64]; omega⟩
  obtain ⟨K, hK, hKN⟩ : ∃ K : Nat, r % (N : Int) = (K : Int) ∧ K < N := ⟨(r % (N : Int)).toNat, by have := Int.emod_nonneg r (b := (N : Int)) (by omega); omega, by have := Int.emod_lt_of_pos r (b := (N : Int)) (by omega); have := Int.emod_nonneg r (b := (N : Int)) (by omega); omega⟩
  have HNO := Lib.hid (cut_bad HIS.out (k := K) (by rw [HBL.out]; exact hKN))
  clear hW hB hI hJ ht hok hsl hs8 hN
  go_enter Try.func8, Try.ntmps8
  go_wp2_with fail
  rw [HW.out]
  refine (alive_any W).mono ?_
  rintro e w1 ⟨rfl, hb⟩
  have HB1 := Lib.hid (HB.out.next hb)
  obtain ⟨e0, e1, e2, e3, e4, e5, e6, e7, e8, e9, e10, e11, e12⟩ := HB1.out.here
  clear hb HB HW
  go_wp2_with fail
  refine (CB.out w1 (HI.out.below HB1.out.below)).mono ?_
  rintro e w2 ⟨g, cap, rfl, hown, hb⟩
  have HB2 := Lib.hid (bl_tr HB1.out.below hb)
  have HR2 := Lib.hid (own_in hown.1 HBL.out HFB.out)
  have hcap := HR2.out.room
  clear hown hb HB1 e0 e1 e2 e3 e4 e5 e6 e7 e8 e9 e10 e11 e12
  go_wp2_with fail
  refine (parse_no _ _ K cap w2 (HR2.out.take K (by omega)) (by omega) HNO.out).mono ?_
  rintro e w3 ⟨rfl, hb⟩
  have HB3 := Lib.hid (bl_tr HB2.out hb)
  have HR3 := Lib.hid (HR2.out.below hb)
  clear hb HB2 HR2 HNO CB hr hK
  go_upto_region 7 with fail
  obtain ⟨X, hX⟩ : ∃ X, X = w3.alloc (.cells zeroCs 28) := ⟨_, rfl⟩
  have HBX : Hid (Below w.heap.size w X) := Lib.hid (by rw [hX]; exact bl_al HB3.out _)
  have HRX : Hid (In X (some ⟨g, 0, none⟩) N cap (bts p)) := Lib.hid (by rw [hX]; exact HR3.out.below (bl_al (Below.refl _ _) _))
  rw [← hX]
  clear hX HB3 HR3
  have own0 := Lib.hid (World.ownsRow_made (e := 5) (size := 1) X #[] 0 HBX.out.size (by decide) rfl)
  have HRY := Lib.hid (HRX.out.below (bl_al (Below.refl _ _) (.cells #[] 5)))
  have HBY := Lib.hid (bl_al HBX.out (.cells #[] 5))
  have hsy := HBY.out.size
  go_wp2_with (at_builtin; refine append_any rfl (.tmp 41) (.tmp 42) 26 rfl w.heap.size 5 i0 (.int .u8 0) 1 1 Try.underlying26 hi0 hz0 hz1 hz2 rfl (by decide) _ 0 [] rfl own0.out (some ⟨g, 0, none⟩) N cap (u8s (bts p)) rfl HRY.out.zero ?c1 HRY.out.cells (u8s_one _) ?c2 ?c3 ?c4 ?_)
  case c1 => unfold u8s; rw [List.length_map, HBL.out]; omega
  case c2 => unfold maxLen; omega
  case c3 => omega
  case c4 => exact hsy
  intro v4 w4 hown4 hg4
  have HB4 := Lib.hid (HBY.out.grown hg4 hsy (fun k hk => by cases hk; exact HBX.out.size))
  have hO4 : w4.ownsRow w.heap.size 5 1 v4 N (u8s (bts p)) := by
    have e : 0 + N = N := Nat.zero_add N
    simpa using hown4
  obtain ⟨a4, c4, rfl⟩ := own_form hO4
  have HO4 := Lib.hid hO4
  have hs4 := HB4.out.size
  have HJ4 := Lib.hid (HJ.out.below HB4.out)
  clear hown4 hg4 hO4 hsy own0 HRY HBY HBX HRX
  go_wp2_with (at_builtin; refine append_any rfl (.tmp 43) (.tmp 44) 26 rfl w.heap.size 5 i0 (.int .u8 0) 1 1 Try.underlying26 hi0 hz0 hz1 hz2 rfl (by decide) _ N (u8s (bts p)) rfl HO4.out b m d (u8s lb) rfl HJ4.out.zero ?c1 HJ4.out.cells (u8s_one _) ?c2 ?c3 ?c4 ?_)
  case c1 => unfold u8s; rw [List.length_map, HJ4.out.len]; omega
  case c2 => unfold maxLen; omega
  case c3 => omega
  case c4 => exact hs4
  intro v5 w5 hown5 hg5
  have HB5 := Lib.hid (HB4.out.grown hg5 hs4 (fun k hk => (HO4.out.lt k hk).1))
  rw [u8s_app] at hown5
  obtain ⟨a5, c5, rfl⟩ := own_form hown5
  have hl5 : (bts p ++ lb).length = N + m := by rw [List.length_append, HBL.out, HJ4.out.len]
  have HI5 := Lib.hid (own_in hown5 hl5 (fit_app HFB.out HJ4.out.fit))
  have hbound : N + m ≤ 4611686018427387904 := by omega
  have HJL := Lib.hid HJ4.out.len
  clear hown5 hg5 hs4 hl5 HO4 HJ4 HB4
  by_cases hm0 : m = 0
  · have hlb : lb = [] := List.eq_nil_of_length_eq_zero (by rw [HJL.out]; exact hm0)
    have CP := Lib.hid (parse_yes _ a5 (N + m) c5 w5 HI5.out hbound (by rw [hlb, List.append_nil]; exact HIS.out))
    have tm : ((m : Int) == 0) = true := by simp [hm0]
    clear hm0 hlb
    have s2 := same_two
    go_wp2_with fail
    refine CP.out.mono ?_
    rintro e w6 ⟨a6, k6, c6, rfl, _, _, hb⟩
    have HB6 := Lib.hid (bl_tr HB5.out hb)
    clear hb CP
    go_wp2
    go_ret
    exact ⟨rfl, bl_al HB6.out _⟩
  · have CP := Lib.hid (parse_no _ a5 (N + m) c5 w5 HI5.out hbound (more_bad HIS.out (by rw [HJL.out]; omega)))
    have tm : ((m : Int) == 0) = false := by simp [hm0]
    clear hm0
    have s2 := same_two
    go_wp2_with fail
    refine CP.out.mono ?_
    rintro e w6 ⟨rfl, hb⟩
    have HB6 := Lib.hid (bl_tr HB5.out hb)
    clear hb CP
    go_wp2
    go_ret
    exact ⟨rfl, bl_al HB6.out _⟩

theorem cuts_any (p : Pk) (a b : Option Addr) (n c m d : Nat) (i : Int) (lb : List Int) (w : World) (hI : In w a n c p.data) (hJ : In w b m d lb) (ht : Typed p) (hn : n ≤ 4611686018427387904) (hm : m ≤ 4611686018427387904) (hi : -9223372036854775808 ≤ i ∧ i ≤ 9223372036854775807) :
    Calls Try.prog 8 #[p.val a n c, .int .i64 i, .slice b m d] w fun e w' => e = .returned (.bool true) ∧ Below w.heap.size w w' := by
  by_cases h : ¬ Ok p ∨ 2000 < m
  · exact cuts_none p a b n c m d i lb w hI hJ ht hn hm h
  · have h1 : Ok p := Classical.byContradiction (fun h1 => h (.inl h1))
    exact cuts_some p a b n c m d i lb w hI hJ ht h1 (by omega) hi
end Go.Proofs.Ytkgfdndbjaeohaa
