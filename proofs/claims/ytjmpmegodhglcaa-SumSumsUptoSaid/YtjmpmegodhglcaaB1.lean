/- Contract of SumSlips: true. Conditions: the row's cells hold bytes, the numbers fit their kinds. -/
import Derived.Test.YtjmpmegodhglcaaA5
import Derived.OwnWalk
import Derived.Laws.OwnMore
import Derived.OneCell
namespace Go.Proofs.Ytjmpmegodhglcaa
open Go Go.RowKit

theorem info5 : (Try.prog.info? 5).map (fun i => (i.zero, i.size, i.bytes)) = some (some (.int .u8 0), 1, 1) := by kernel_rfl
def u8s (l : List Int) : List Value := l.map (Value.int .u8)
theorem u8s_one (l : List Int) : ∀ u ∈ u8s l, u.oneCell' = true := by
  intro u hu
  obtain ⟨x, _, rfl⟩ := List.mem_map.1 hu
  rfl
theorem u8s_cells {w : World} {b off : Nat} {l : List Int} (h : ∀ j, j < l.length → w.cell? ⟨b, off + j, none⟩ = some (.int .u8 (l.getD j 0))) : ∀ j u, (u8s l)[j]? = some u → w.cell? ((⟨b, off, none⟩ : Addr).add j) = some u := by
  intro j u hu
  rw [Go.WideShapes.add_plain]
  unfold u8s at hu
  rw [List.getElem?_map] at hu
  by_cases hj : j < l.length
  · rw [List.getElem?_eq_getElem hj] at hu
    rw [h j hj, List.getD_eq_getElem?_getD, List.getElem?_eq_getElem hj]
    exact hu
  · rw [List.getElem?_eq_none (by omega)] at hu
    cases hu
theorem At.own {w : World} {B : Nat} {v : Value} {l : List Int} (h : w.ownsRow B 5 1 v l.length (u8s l)) : At w v l := by
  rcases h.2 with ⟨rfl, h0⟩ | ⟨g, cap, cur, rfl, hb, hg, h1, h2, h3, h4⟩
  · have : l = [] := List.eq_nil_of_length_eq_zero h0
    subst this
    exact At.nil w none 0
  · refine ⟨_, cap, rfl, .inr ⟨g, 0, rfl, fun j hj => ?_⟩⟩
    have := h.cellAt (g := g) (cap := cap) (0 + j) (by omega)
    rw [this, Nat.zero_add]
    unfold u8s
    rw [List.getElem?_map, List.getElem?_eq_getElem hj, List.getD_eq_getElem?_getD, List.getElem?_eq_getElem hj]
    rfl

theorem own_shape {w : World} {B : Nat} {e : TypeId} {size n : Nat} {v : Value} {xs : List Value} (h : w.ownsRow B e size v n xs) (hn : 0 < n) : ∃ g cap, v = .slice (some ⟨g, 0, none⟩) n cap ∧ B ≤ g := by
  rcases h.2 with ⟨_, h0⟩ | ⟨g, cap, cur, hv, hb, _⟩
  · omega
  · exact ⟨g, cap, hv, hb⟩
theorem u8s_at {l : List Int} {j : Nat} (hj : j < l.length) : (u8s l)[j]? = some (.int .u8 (l.getD j 0)) := by
  unfold u8s
  rw [List.getElem?_map, List.getElem?_eq_getElem hj, List.getD_eq_getElem?_getD, List.getElem?_eq_getElem hj]
  rfl
theorem u8s_set (l : List Int) (j : Nat) (x : Int) : (u8s l).set j (.int .u8 x) = u8s (l.set j x) := by
  unfold u8s
  rw [List.map_set]

theorem crc_slip_at {l : List Int} (hf : fit l) {J : Nat} (hJ : J < l.length) {y : Int} (hy : 0 ≤ y ∧ y < 256) (hne : y ≠ l.getD J 0) : crc (l.set J y) ≠ crc l := by
  have e1 : l.set J y = l.take J ++ y :: l.drop (J + 1) := List.set_eq_take_append_cons_drop.trans (if_pos hJ)
  have e2 : l = l.take J ++ l.getD J 0 :: l.drop (J + 1) := by
    have h : l.drop J = l.getD J 0 :: l.drop (J + 1) := by
      rw [List.drop_eq_getElem_cons hJ, List.getD_eq_getElem?_getD, List.getElem?_eq_getElem hJ]
      rfl
    rw [← h, List.take_append_drop]
  have hx := fit_at hf hJ
  have H := cl_slip (r := start) (by decide) (l.take J) (l.drop (J + 1)) (fit_take hf J) (fun b hb => hf b (List.mem_of_mem_drop hb)) hy hx hne
  unfold crc
  intro h
  apply H
  rw [← e1, ← e2]
  omega
theorem fit_set {l : List Int} (hf : fit l) (J : Nat) {y : Int} (hy : 0 ≤ y ∧ y < 256) : fit (l.set J y) := by
  intro b hb
  rcases List.mem_or_eq_of_mem_set hb with h | h
  · exact hf b h
  · rw [h]; exact hy
theorem xor8 (x d : Int) (hx : 0 ≤ x ∧ x < 256) (hd : 0 < d ∧ d < 256) : (0 ≤ bits .xor .u8 x d ∧ bits .xor .u8 x d < 256) ∧ bits .xor .u8 x d ≠ x := by
  have h := u8_xor x d hx.1 hx.2 (by omega) hd.2
  have hl : x.toNat ^^^ d.toNat < 256 := Nat.xor_lt_two_pow (n := 8) (by omega) (by omega)
  rw [h]
  refine ⟨by omega, fun e => ?_⟩
  have e2 : x.toNat ^^^ d.toNat = x.toNat := by omega
  have e3 : x.toNat ^^^ (x.toNat ^^^ d.toNat) = x.toNat ^^^ x.toNat := by rw [e2]
  rw [← Nat.xor_assoc, Nat.xor_self, Nat.zero_xor] at e3
  omega
theorem At.orig {w w' : World} {b off cap n : Nat} {l : List Int} (hn : l.length = n) (hc : ∀ j, j < l.length → w.cell? ⟨b, off + j, none⟩ = some (.int .u8 (l.getD j 0))) (hb : Below w.heap.size w w') : At w' (.slice (some ⟨b, off, none⟩) n cap) l :=
  At.below ⟨_, cap, by rw [hn], .inr ⟨b, off, rfl, hc⟩⟩ hb

set_option maxRecDepth 100000 in
theorem slips_none (n : Nat) (a : Option Addr) (cap : Nat) (i d : Int) (w : World) (h : n = 0 ∨ 65536 < n ∨ d = 0) (hn : n ≤ maxLen) (hd : 0 ≤ d ∧ d < 256) :
    Calls Try.prog 8 #[.slice a n cap, .int .i64 i, .int .u8 d] w fun e w' => e = .returned (.bool true) ∧ Below w.heap.size w w' := by
  unfold maxLen at hn
  obtain ⟨d0, d1⟩ := hd
  by_cases h0 : n = 0
  · subst h0
    clear h
    go_enter Try.func8, Try.ntmps8
    go_wp2_with (go_at_call 9; refine (alive_any w).mono ?_; rintro e w2 ⟨rfl, hb⟩)
    go_ret
    exact ⟨rfl, hb⟩
  · by_cases h1 : 65536 < n
    · clear h
      go_enter Try.func8, Try.ntmps8
      go_wp2_with (go_at_call 9; refine (alive_any w).mono ?_; rintro e w2 ⟨rfl, hb⟩)
      go_ret
      exact ⟨rfl, hb⟩
    · obtain rfl : d = 0 := by omega
      clear h
      go_enter Try.func8, Try.ntmps8
      go_wp2_with (go_at_call 9; refine (alive_any w).mono ?_; rintro e w2 ⟨rfl, hb⟩)
      go_ret
      exact ⟨rfl, hb⟩

set_option maxRecDepth 100000 in
theorem slips_some (l : List Int) (b off cap : Nat) (i d : Int) (w : World) (hc : ∀ j, j < l.length → w.cell? ⟨b, off + j, none⟩ = some (.int .u8 (l.getD j 0))) (hf : fit l)
    (h0 : 0 < l.length) (h1 : l.length ≤ 65536) (hd : 0 < d ∧ d < 256) :
    Calls Try.prog 8 #[.slice (some ⟨b, off, none⟩) l.length cap, .int .i64 i, .int .u8 d] w fun e w' => e = .returned (.bool true) ∧ Below w.heap.size w w' := by
  obtain ⟨i0, hi0, hz0, hz1, hz2⟩ := info_parts info5
  obtain ⟨d0, d1⟩ := hd
  have HC := Lib.hid hc
  have HF := Lib.hid hf
  obtain ⟨n, hn⟩ : ∃ n, l.length = n := ⟨_, rfl⟩
  rw [hn] at h0 h1
  rw [hn]
  have HN := Lib.hid hn
  obtain ⟨r, hr⟩ : ∃ r, r = i % 18446744073709551616 := ⟨_, rfl⟩
  have hr0 : 0 ≤ r ∧ r < 18446744073709551616 := by omega
  have HR : Hid (IntKind.u64.wrap i = r) := Lib.hid (by rw [IntKind.wrap_u64, hr])
  clear hc hf hn hr
  go_enter Try.func8, Try.ntmps8
  have t1 : ((n : Int) == 0) = false := by simp; omega
  have t2 : decide ((65536 : Int) < (n : Int)) = false := decide_eq_false (by omega)
  have t3 : (d == 0) = false := by simp; omega
  have tok := HN
  go_wp2_with (first | (go_at_call 9; refine (alive_any w).mono ?_; rintro e w1 ⟨rfl, hb⟩) | (at_builtin; have _t := tok; refine wpList_append_own _ rfl _ _ 22 rfl w.heap.size 5 i0 (.int .u8 0) 1 1 Try.underlying22 hi0 hz0 hz1 hz2 rfl (by decide) _ 0 [] rfl (World.ownsRow_made w1 #[] 0 hb.size (by decide) rfl) ⟨b, off, none⟩ n cap (u8s l) rfl ?c1 ?c2 ?c3 ?c4 ?c5 ?c6 ?_; clear tok))
  case c1 => unfold u8s; rw [List.length_map, HN.out]; omega
  case c2 => exact u8s_cells (fun j hj => (hb.cell (p := ⟨b, off + j, none⟩) (block_lt_of_cell (HC.out j hj))).trans (HC.out j hj) |> fun h => cell_later (bl_al (Below.refl _ _) _) h)
  case c3 => exact u8s_one l
  case c4 => unfold maxLen; omega
  case c5 => omega
  case c6 => have := hb.size; simp; omega
  intro v' w2 hown hgrow _
  obtain ⟨g, cap', hv, hg⟩ := own_shape hown h0
  rw [hv]
  rw [hv] at hown
  have HO := Lib.hid hown
  have HB := Lib.hid ((bl_al hb (.cells #[] 5)).grown hgrow (by have := hb.size; simp; omega) (fun k hk => by cases hk; exact hb.size))
  clear hown hgrow hv hb
  obtain ⟨J, hJ⟩ : ∃ J : Nat, r % (n : Int) = (J : Int) := ⟨(r % n).toNat, by have := Int.emod_nonneg r (b := (n : Int)) (by omega); omega⟩
  have hJn : J < n := by have := Int.emod_lt_of_pos r (b := (n : Int)) (by omega); omega
  have hJl : J < l.length := by rw [HN.out]; exact hJn
  obtain ⟨x, hx⟩ : ∃ x, x = l.getD J 0 := ⟨_, rfl⟩
  have hx0 := fit_at HF.out hJl
  have hcell := (HO.out.cellAt J (by omega)).trans (u8s_at hJl)
  have hfro := HO.out.frozenAt J
  rw [← hx] at hx0 hcell
  have HX := Lib.hid hx
  obtain ⟨x0, x1⟩ := hx0
  obtain ⟨r0, r1⟩ := hr0
  have hr1 := HR.out
  obtain ⟨hy, hne⟩ := xor8 x d ⟨x0, x1⟩ ⟨d0, d1⟩
  obtain ⟨y, hyv⟩ : ∃ y, y = bits .xor .u8 x d := ⟨_, rfl⟩
  have hyv' := hyv.symm
  rw [← hyv] at hy hne
  rw [hx] at hne
  have hl' : (l.set J y).length = n := by rw [List.length_set, HN.out]
  have HS := HO.out.stored J (.int .u8 y)
  rw [u8s_set, ← hl'] at HS
  have HA' := At.own HS.1
  rw [hl'] at HA'
  have HBS := Lib.hid (HB.out.setCell (p := ⟨g, J, none⟩) hg (.int .u8 y))
  have C1 := check_any [l.set J y] _ _ (Parts.one HA' 22 w2.heap.size (by simp)) (by simpa using fit_set HF.out J hy) (by simp; have := HN.out; omega) (by simp)
  rw [show [l.set J y].flatten = l.set J y by simp] at C1
  have C1H := Lib.hid C1
  have NE := Lib.hid (crc_slip_at HF.out hJl hy hne)
  clear hx hJl hyv hy hne hl' HS HA' C1
  go_wp2_with fail
  refine C1H.out.mono ?_
  rintro e w3 ⟨rfl, rfl⟩
  have HB3 := Lib.hid (HBS.out.alloc (by have := HBS.out.size; exact this) (.cells #[.slice (some ⟨g, 0, none⟩) n cap'] 22))
  obtain ⟨w3, hw3⟩ : ∃ w3, w3 = (w2.setCell ⟨g, J, none⟩ (.int .u8 y)).alloc (.cells #[.slice (some ⟨g, 0, none⟩) n cap'] 22) := ⟨_, rfl⟩
  rw [← hw3] at HB3
  rw [← hw3]
  have C2 := check_any [l] _ _ (Parts.one (At.orig HN.out HC.out HB3.out (cap := cap)) 22 w3.heap.size rfl) (by simpa using HF.out) (by simp; have := HN.out; omega) (by simp)
  rw [show [l].flatten = l by simp] at C2
  have C2H := Lib.hid C2
  clear hw3 hcell hfro hyv' HBS C2 C1H
  go_wp2_with fail
  refine C2H.out.mono ?_
  rintro e w4 ⟨rfl, rfl⟩
  have HB4 := Lib.hid (HB3.out.alloc HB3.out.size (.cells #[.slice (some ⟨b, off, none⟩) n cap] 22))
  have ne := NE.out
  go_wp2
  go_ret
  exact ⟨by simp [ne], HB4.out⟩

theorem slips_any (l : List Int) (v : Value) (i d : Int) (w : World) (hA : At w v l) (hf : fit l) (hl : l.length ≤ maxLen) (hd : 0 ≤ d ∧ d < 256) :
    Calls Try.prog 8 #[v, .int .i64 i, .int .u8 d] w fun e w' => e = .returned (.bool true) ∧ Below w.heap.size w w' := by
  obtain ⟨a, cap, rfl, hA⟩ := hA
  by_cases h : l.length = 0 ∨ 65536 < l.length ∨ d = 0
  · exact slips_none l.length a cap i d w h hl hd
  · rcases hA with rfl | ⟨b, off, rfl, hc⟩
    · simp at h
    · exact slips_some l b off cap i d w hc hf (by omega) (by omega) (by omega)
end Go.Proofs.Ytjmpmegodhglcaa
