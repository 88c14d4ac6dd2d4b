/- Contract of addr.Parse: the address of a text of four numerals of at most 255 without noughts ahead, with points between; else 0 and Errno 1. Condition: the library's variables lie as their text lays them; the string's length is an int. -/
import Derived.Test.YtolkheelmmgnbaaDoorA2
import Derived.Lib.SplitLaws
import Derived.Lib.ParseIntBCases
import Derived.Lib.AtoiErrMem
namespace Go.Proofs.YtolkheelmmgnbaaDoor
open Go Go.RowKit

abbrev dot : ByteArray := ⟨#[46]⟩
/-- A string's pieces between points. -/
def pcs (s : ByteArray) : List ByteArray := Lib.splitB dot 0 (Lib.countB s dot) s

theorem split_pcs (s : ByteArray) (hs : s.size ≤ 15) (w : World) (hg : Good w) :
    Calls Tryd.prog 34 #[.string s, .string dot] w fun e w' => e = .returned (.slice (some ⟨w.heap.size, 0, none⟩) (pcs s).length (pcs s).length) ∧ w' = w.alloc (.cells ((pcs s).map Value.string).toArray 9) := by
  obtain ⟨m, hm⟩ := hg.len
  have h := Tryd.strings_Split s dot m w (by omega) hm (by decide)
  have e : (pcs s).length = Lib.countB s dot + 1 := Lib.splitB_all dot (by decide) 0 _ s rfl
  rw [e]
  exact h

/-- The number of a piece, if it is a numeral of at most 255 without noughts ahead. -/
def num? (p : ByteArray) : Option Nat :=
  match Lib.parseUintB 8 p.data.toList with
  | .ok u => if Lib.decDigits u = p.data.toList then some u else none
  | _ => none
def addr4 (a b c d : Nat) : Int := (a : Int) * 16777216 + (b : Int) * 65536 + (c : Int) * 256 + (d : Int)
def parseP : List ByteArray → Option Int
  | [a, b, c, d] =>
    match num? a, num? b, num? c, num? d with
    | some a, some b, some c, some d => some (addr4 a b c d)
    | _, _, _, _ => none
  | _ => none
def parseV (s : ByteArray) : Option Int := if 15 < s.size then none else parseP (pcs s)
def resV : Option Int → Value
  | some a => .tuple #[.int .u32 a, .nilIface]
  | none => .tuple #[.int .u32 0, errno 1]

theorem parse_long (s : ByteArray) (h : 15 < s.size) (hm : s.size ≤ 9223372036854775807) (w : World) :
    Calls Tryd.prog 10 #[.string s] w fun e w' => e = .returned (.tuple #[.int .u32 0, errno 1]) ∧ w = w' := by
  have hi : (15 : Int) < (s.size : Int) := by omega
  go_enter Tryd.func10, Tryd.ntmps10
  go_wp2
  go_ret2
  exact ⟨rfl, rfl⟩

theorem parse_other (s : ByteArray) (hs : s.size ≤ 15) (hn : (pcs s).length ≠ 4) (w : World) (hg : Good w) :
    Calls Tryd.prog 10 #[.string s] w fun e w' => e = .returned (.tuple #[.int .u32 0, errno 1]) ∧ Below w.heap.size w w' := by
  have H := fun (W : World) (hg : Good W) => split_pcs s hs W hg
  obtain ⟨N, hN⟩ : ∃ N, N = (pcs s).length := ⟨_, rfl⟩
  rw [← hN] at H hn
  have HH := Lib.hid H
  have G := Lib.hid hg
  have hi : (s.size : Int) ≤ 15 := by omega
  have h4 : ((N : Int) != 4) = true := by simp; omega
  clear H hg hN hn
  go_enter Tryd.func10, Tryd.ntmps10
  go_wp2_with (go_at_call 34; refine (HH.out _ (G.out.below (bl_al (Below.refl _ _) _) G.out.size)).mono ?_; rintro e w2 ⟨rfl, rfl⟩)
  go_ret2
  exact ⟨rfl, bl_al (bl_al (Below.refl _ _) _) _⟩

theorem num_ok {q : ByteArray} {u : Nat} (h : num? q = some u) : Lib.parseUintB 8 q.data.toList = .ok u ∧ q = ⟨(Lib.decDigits u).toArray⟩ ∧ u ≤ 255 := by
  unfold num? at h
  split at h
  · rename_i v hv
    split at h
    · rename_i hd
      obtain rfl := Option.some.inj h
      refine ⟨hv, ?_, by have := Lib.parseUintB_le hv; omega⟩
      rw [hd]
    · cases h
  · cases h

theorem pu_ok (q : ByteArray) (hq : q.size ≤ 9223372036854775806) (u : Nat) (h : Lib.parseUintB 8 q.data.toList = .ok u) (w : World) :
    Calls Tryd.prog 35 #[.string q, .int .i64 10, .int .i64 8] w fun e w' => e = .returned (.tuple #[.int .u64 u, .nilIface]) ∧ Below w.heap.size w w' := by
  refine (Tryd.strconv_ParseUint_10_at8_ok q hq u h w).mono ?_
  rintro e w' ⟨rfl, rfl | rfl⟩
  · exact ⟨rfl, Below.refl _ _⟩
  · exact ⟨rfl, Lib.bytesWorld_below _ _ _⟩
theorem pu_bad (q : ByteArray) (hq : q.size ≤ 281474976710656) (h : ∀ u, Lib.parseUintB 8 q.data.toList ≠ .ok u) (w : World) (hg : Good w) :
    Calls Tryd.prog 35 #[.string q, .int .i64 10, .int .i64 8] w fun e w' => ∃ (n : Int) (N : Nat), e = .returned (.tuple #[.int .u64 n, .iface 100 (.pointer (some ⟨N, 0, none⟩))]) ∧ Below w.heap.size w w' := by
  cases hp : Lib.parseUintB 8 q.data.toList
  · exact absurd hp (h _)
  · obtain ⟨tp, p, hv⟩ := hg.syn
    refine (show Calls Tryd.prog 35 _ _ _ from Any.strconv_ParseUint_10_at8_syntax_var Tryd.laysPu14 q hq hp tp p w hv).mono ?_
    rintro e w' ⟨N, rfl, -, -, hb⟩
    exact ⟨0, N, rfl, hb⟩
  · obtain ⟨tp, p, hv⟩ := hg.rng
    refine (Tryd.strconv_ParseUint_10_at8_range_var q hq hp tp p w hv).mono ?_
    rintro e w' ⟨N, rfl, -, -, hb⟩
    exact ⟨255, N, rfl, hb⟩

def pj (ps : List ByteArray) (j : Nat) : ByteArray := ps.getD j ByteArray.empty
def uj (ps : List ByteArray) (j : Nat) : Nat := (num? (pj ps j)).getD 0
structure PRel (ps : List ByteArray) (B k : Nat) (wr : World) : Prop where
  good : ∀ j, j < k → ∃ u, num? (pj ps j) = some u
  out : ∀ j, j < 4 → wr.cell? ⟨B, j, none⟩ = some (.int .u8 (if j < k then (uj ps j : Int) else 0))
  free : ∀ j, j < 4 → wr.frozen? ⟨B, j, none⟩ = false
  inp : ∀ j, j < 4 → wr.cell? ⟨B + 1, j, none⟩ = some (.string (pj ps j))
  size : B + 2 ≤ wr.heap.size
theorem PRel.below {ps : List ByteArray} {B k : Nat} {w w' : World} (h : PRel ps B k w) (hb : Below w.heap.size w w') : PRel ps B k w' :=
  ⟨h.good, fun j hj => by rw [hb.cell (p := ⟨B, j, none⟩) (by have := h.size; simp; omega)]; exact h.out j hj, fun j hj => by rw [hb.frozen (p := ⟨B, j, none⟩) (by have := h.size; simp; omega)]; exact h.free j hj, fun j hj => by rw [hb.cell (p := ⟨B + 1, j, none⟩) (by have := h.size; simp; omega)]; exact h.inp j hj, by have := h.size; have := hb.size; omega⟩
theorem PRel.step {ps : List ByteArray} {B k u : Nat} {w : World} (h : PRel ps B k w) (hk : k < 4) (hu : num? (pj ps k) = some u) : PRel ps B (k + 1) (w.setCell ⟨B, k, none⟩ (.int .u8 u)) := by
  refine ⟨fun j hj => ?_, fun j hj => ?_, fun j hj => ?_, fun j hj => ?_, by have := h.size; simpa using this⟩
  · by_cases e : j = k
    · subst e; exact ⟨u, hu⟩
    · exact h.good j (by omega)
  · by_cases e : j = k
    · subst e
      rw [World.cell?_setCell_same _ _ _ (h.out j hj), if_pos (by omega)]
      simp [uj, hu]
    · rw [World.cell?_setCell_other _ _ _ _ (by simp <;> omega), h.out j hj]
      by_cases e2 : j < k
      · rw [if_pos e2, if_pos (by omega)]
      · rw [if_neg e2, if_neg (by omega)]
  · simpa [go_sem] using h.free j hj
  · rw [World.cell?_setCell_other _ _ _ _ (by simp)]
    exact h.inp j hj
theorem PRel.start (w : World) (p0 p1 p2 p3 : ByteArray) : PRel [p0, p1, p2, p3] w.heap.size 0 ((w.alloc (.cells #[.int .u8 0, .int .u8 0, .int .u8 0, .int .u8 0] 62)).alloc (.cells #[.string p0, .string p1, .string p2, .string p3] 9)) := by
  refine ⟨fun j hj => absurd hj (by omega), fun j hj => ?_, fun j hj => ?_, fun j hj => ?_, by simp⟩
  all_goals
    have hj' : j = 0 ∨ j = 1 ∨ j = 2 ∨ j = 3 := by omega
    rcases hj' with rfl | rfl | rfl | rfl <;> simp [go_sem, pj]

theorem parseP_none (p0 p1 p2 p3 : ByteArray) (k : Nat) (hk : k < 4) (h : num? (pj [p0, p1, p2, p3] k) = none) : parseP [p0, p1, p2, p3] = none := by
  have hk' : k = 0 ∨ k = 1 ∨ k = 2 ∨ k = 3 := by omega
  unfold parseP
  rcases hk' with rfl | rfl | rfl | rfl <;> simp [pj] at h <;> simp only [h] <;> (try rfl) <;> (split <;> simp_all)
theorem parseP_some (p0 p1 p2 p3 : ByteArray) (h : ∀ j, j < 4 → ∃ u, num? (pj [p0, p1, p2, p3] j) = some u) :
    uj [p0, p1, p2, p3] 0 ≤ 255 ∧ uj [p0, p1, p2, p3] 1 ≤ 255 ∧ uj [p0, p1, p2, p3] 2 ≤ 255 ∧ uj [p0, p1, p2, p3] 3 ≤ 255 ∧
      parseP [p0, p1, p2, p3] = some (addr4 (uj [p0, p1, p2, p3] 0) (uj [p0, p1, p2, p3] 1) (uj [p0, p1, p2, p3] 2) (uj [p0, p1, p2, p3] 3)) := by
  obtain ⟨u0, h0⟩ := h 0 (by decide)
  obtain ⟨u1, h1⟩ := h 1 (by decide)
  obtain ⟨u2, h2⟩ := h 2 (by decide)
  obtain ⟨u3, h3⟩ := h 3 (by decide)
  simp only [uj, h0, h1, h2, h3, Option.getD_some]
  refine ⟨(num_ok h0).2.2, (num_ok h1).2.2, (num_ok h2).2.2, (num_ok h3).2.2, ?_⟩
  have h0' : num? p0 = some u0 := h0
  have h1' : num? p1 = some u1 := h1
  have h2' : num? p2 = some u2 := h2
  have h3' : num? p3 = some u3 := h3
  simp only [parseP, h0', h1', h2', h3']
theorem num_other {q : ByteArray} {u : Nat} (h : num? q = none) (hu : Lib.parseUintB 8 q.data.toList = .ok u) : ((⟨(Lib.decDigits u).toArray⟩ : ByteArray).toList == q.toList) = false := by
  unfold num? at h
  rw [hu] at h
  simp only at h
  split at h
  · cases h
  · rename_i hd
    apply Bool.eq_false_iff.2
    intro e
    apply hd
    have e2 := beq_iff_eq.1 e
    rw [ByteArray.toList_eq, ByteArray.toList_eq] at e2
    exact e2

set_option maxHeartbeats 4000000 in
set_option maxRecDepth 100000 in
theorem parse_four (s : ByteArray) (hs : s.size ≤ 15) (p0 p1 p2 p3 : ByteArray) (hp : pcs s = [p0, p1, p2, p3]) (hsz : ∀ j, j < 4 → (pj [p0, p1, p2, p3] j).size ≤ 15) (w : World) (hg : Good w) :
    Calls Tryd.prog 10 #[.string s] w fun e w' => e = .returned (resV (parseP [p0, p1, p2, p3])) ∧ Below w.heap.size w w' := by
  have H : ∀ W : World, Good W → Calls Tryd.prog 34 #[.string s, .string dot] W fun e w' => e = .returned (.slice (some ⟨W.heap.size, 0, none⟩) 4 4) ∧ w' = W.alloc (.cells #[.string p0, .string p1, .string p2, .string p3] 9) := by
    intro W hW
    have := split_pcs s hs W hW
    rw [hp] at this
    exact this
  have HH := Lib.hid H
  have G := Lib.hid hg
  have hi : (s.size : Int) ≤ 15 := by omega
  have HS := Lib.hid hsz
  have R0 := Lib.hid (PRel.start w p0 p1 p2 p3)
  obtain ⟨ps, hps⟩ : ∃ ps, ps = [p0, p1, p2, p3] := ⟨_, rfl⟩
  rw [← hps] at HS R0 ⊢
  have HPS := Lib.hid hps
  clear H hg hp hsz hps
  go_enter Tryd.func10, Tryd.ntmps10
  go_wp2_with (go_at_call 34; refine (HH.out _ (G.out.below (bl_al (Below.refl _ _) _) G.out.size)).mono ?_; rintro e w2 ⟨rfl, rfl⟩)
  go_loopw [22] (fun i wr => ∃ k : Nat, k ≤ 4 ∧ i = .int .i64 k ∧ Hid (PRel ps w.heap.size k wr) ∧ Hid (Below w.heap.size w wr)) (fun i _ => 4 - (intOf i).toNat)
  case atStart => exact ⟨0, by omega, rfl, R0.out, bl_al (bl_al (Below.refl _ _) _) _⟩
  case round =>
    obtain ⟨k, hk, rfl, hR, hB⟩ := hrel
    have GW := Lib.hid (G.out.below hB.out G.out.size)
    clear hi
    by_cases hlt : k < 4
    · have hc := hR.out.inp k hlt
      obtain ⟨q, hq⟩ : ∃ q, q = pj ps k := ⟨_, rfl⟩
      rw [← hq] at hc
      have HQ := Lib.hid hq
      have hqs := Lib.hid (show q.size ≤ 15 by rw [hq]; exact HS.out k hlt)
      clear hq
      cases hn : num? q with
      | some u =>
        obtain ⟨n1, n2, n3⟩ := num_ok hn
        have HN := Lib.hid hn
        have N1 := Lib.hid n1
        have N2 := Lib.hid n2
        clear hn n1 n2
        go_wp2_with (go_at_call 35; refine (pu_ok q (by have := hqs.out; omega) u N1.out _).mono ?_; rintro e w1 ⟨rfl, hb1⟩)
        have NU := num_any u (by omega) w1 (GW.out.below hb1 GW.out.size).tab
        rw [← N2.out] at NU
        refine NU.mono ?_
        rintro e w3 ⟨rfl, hb2⟩
        have hR3 := (hR.out.below hb1).below hb2
        have hcB := hR3.out k hlt
        have hfB := hR3.free k hlt
        rw [if_neg (by omega)] at hcB
        have HR3 := Lib.hid (hR3.step hlt (by rw [← HQ.out]; exact HN.out))
        have HB3 := Lib.hid ((bl_tr (bl_tr hB.out hb1) hb2).setCell (p := ⟨w.heap.size, k, none⟩) (Nat.le_refl _) (.int .u8 u))
        clear hR3 hb1 hb2 NU
        go_wp2
        go_roundw
        case rel => exact ⟨k + 1, by omega, by go_num, HR3.out, HB3.out⟩
        case measure => simp [intOf]; omega
      | none =>
        have hbad := Lib.hid (parseP_none p0 p1 p2 p3 k hlt (by rw [← HPS.out, ← HQ.out]; exact hn))
        rw [← HPS.out] at hbad
        have HN := Lib.hid hn
        clear hn
        by_cases hok : ∃ u, Lib.parseUintB 8 q.data.toList = .ok u
        · obtain ⟨u, hu⟩ := hok
          have hul := Lib.parseUintB_le hu
          have hne : ((⟨(Lib.decDigits u).toArray⟩ : ByteArray).toList == q.toList) = false := num_other HN.out hu
          have HU := Lib.hid hu
          obtain ⟨d, hd⟩ : ∃ d : ByteArray, d = ⟨(Lib.decDigits u).toArray⟩ := ⟨_, rfl⟩
          rw [← hd] at hne
          have HD := Lib.hid hd
          clear hu hd
          go_wp2_with (go_at_call 35; refine (pu_ok q (by have := hqs.out; omega) u HU.out _).mono ?_; rintro e w1 ⟨rfl, hb1⟩)
          have NU := num_any u (by omega) w1 (GW.out.below hb1 GW.out.size).tab
          rw [← HD.out] at NU
          refine NU.mono ?_
          rintro e w3 ⟨rfl, hb2⟩
          have HB3 := Lib.hid (bl_tr (bl_tr hB.out hb1) hb2)
          clear hb1 hb2 NU
          go_wp2
          go_ret2
          exact ⟨by rw [hbad.out]; rfl, HB3.out⟩
        · have HNO := Lib.hid (fun u hu => hok ⟨u, hu⟩ : ∀ u, Lib.parseUintB 8 q.data.toList ≠ .ok u)
          clear hok
          go_wp2_with (go_at_call 35; refine (pu_bad q (by have := hqs.out; omega) HNO.out _ GW.out).mono ?_; rintro e w1 ⟨n, N, rfl, hb1⟩)
          have HB3 := Lib.hid (bl_tr hB.out hb1)
          clear hb1
          go_ret2
          exact ⟨by rw [hbad.out]; rfl, HB3.out⟩
    · obtain rfl : k = 4 := by omega
      obtain ⟨hg0, hg1, hg2, hg3, hval⟩ := parseP_some p0 p1 p2 p3 (by rw [← HPS.out]; exact hR.out.good)
      rw [← HPS.out] at hg0 hg1 hg2 hg3 hval
      have HV := Lib.hid hval
      have o0 := hR.out.out 0 (by decide)
      have o1 := hR.out.out 1 (by decide)
      have o2 := hR.out.out 2 (by decide)
      have o3 := hR.out.out 3 (by decide)
      rw [if_pos (by decide)] at o0 o1 o2 o3
      obtain ⟨u0, e0⟩ : ∃ u, u = uj ps 0 := ⟨_, rfl⟩
      obtain ⟨u1, e1⟩ : ∃ u, u = uj ps 1 := ⟨_, rfl⟩
      obtain ⟨u2, e2⟩ : ∃ u, u = uj ps 2 := ⟨_, rfl⟩
      obtain ⟨u3, e3⟩ : ∃ u, u = uj ps 3 := ⟨_, rfl⟩
      rw [← e0] at o0 hg0
      rw [← e1] at o1 hg1
      rw [← e2] at o2 hg2
      rw [← e3] at o3 hg3
      have HV2 : Hid (parseP ps = some (addr4 u0 u1 u2 u3)) := Lib.hid (by rw [e0, e1, e2, e3]; exact HV.out)
      clear hval HV e0 e1 e2 e3
      go_wp2_with (go_at_call 37; refine (join_any u0 u1 u2 u3 (by omega) (by omega) (by omega) (by omega) (by omega) (by omega) (by omega) (by omega) _).mono ?_; rintro e w1 ⟨rfl, hb1⟩)
      go_ret2
      exact ⟨by rw [HV2.out]; rfl, bl_tr hB.out hb1⟩
theorem splitB_le (sep : ByteArray) : ∀ (k : Nat) (s : ByteArray), ∀ q ∈ Lib.splitB sep 0 k s, q.size ≤ s.size
  | 0, s, q, hq => by simp [Lib.splitB_zero] at hq; subst hq; exact Nat.le_refl _
  | k + 1, s, q, hq => by
    unfold Lib.splitB at hq
    split at hq
    · simp at hq; subst hq; exact Nat.le_refl _
    · rcases List.mem_cons.1 hq with rfl | h
      · simp [ByteArray.size_extract]; omega
      · have := splitB_le sep k _ q h
        simp [ByteArray.size_extract] at this
        omega

theorem parse_any (s : ByteArray) (hm : s.size ≤ 9223372036854775807) (w : World) (hg : Good w) :
    Calls Tryd.prog 10 #[.string s] w fun e w' => e = .returned (resV (parseV s)) ∧ Below w.heap.size w w' := by
  by_cases h : 15 < s.size
  · refine (parse_long s h hm w).mono ?_
    rintro e w' ⟨rfl, rfl⟩
    exact ⟨by rw [parseV, if_pos h]; rfl, Below.refl _ _⟩
  · rw [parseV, if_neg h]
    have hl : (pcs s).length = Lib.countB s dot + 1 := Lib.splitB_all dot (by decide) 0 _ s rfl
    have hc := Lib.countB_le dot (by decide) s.size s (Nat.le_refl _)
    have hall := splitB_le dot (Lib.countB s dot) s
    change ∀ q ∈ pcs s, q.size ≤ s.size at hall
    by_cases h4 : (pcs s).length = 4
    · obtain ⟨p0, p1, p2, p3, hp⟩ : ∃ p0 p1 p2 p3, pcs s = [p0, p1, p2, p3] := by
        match pcs s, h4 with
        | [p0, p1, p2, p3], _ => exact ⟨p0, p1, p2, p3, rfl⟩
      rw [hp] at hall ⊢
      refine parse_four s (by omega) p0 p1 p2 p3 hp (fun j hj => ?_) w hg
      have hj' : j = 0 ∨ j = 1 ∨ j = 2 ∨ j = 3 := by omega
      have a0 := hall p0 (by simp)
      have a1 := hall p1 (by simp)
      have a2 := hall p2 (by simp)
      have a3 := hall p3 (by simp)
      rcases hj' with rfl | rfl | rfl | rfl <;> simp [pj] <;> omega
    · refine (parse_other s (by omega) h4 w hg).mono ?_
      rintro e w' ⟨rfl, hb⟩
      refine ⟨?_, hb⟩
      have : parseP (pcs s) = none := by
        unfold parseP
        split
        · rename_i heq; rw [heq] at h4; exact absurd rfl h4
        · rfl
      rw [this]
      rfl
end Go.Proofs.YtolkheelmmgnbaaDoor
