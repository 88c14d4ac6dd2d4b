/- RoundHalves's walk. Conditions: those stated. -/
import Derived.Test.YtnhnpfhfcbmmlaaRoI
import Derived.Deep.WholeRow
namespace Go.Proofs.Ytnhnpfhfcbmmlaa
open Go Go.RowKit
set_option linter.unusedVariables false
set_option linter.unusedSimpArgs false

theorem getD_set (bs : List Bool) {k : Nat} (hk : k < bs.length) (b : Bool) (j : Nat) : (bs.set k b).getD j false = if j = k then b else bs.getD j false := by
  rw [List.getD_eq_getElem?_getD, List.getD_eq_getElem?_getD, List.getElem?_set]
  by_cases h : k = j
  · subst h
    simp [hk]
  · rw [if_neg h, if_neg (fun e => h e.symm)]
theorem silN_set (bs : List Bool) {k : Nat} (hk : k < bs.length) (h : bs.getD k false = false) : ∀ n, (silN (bs.set k true) n).length + (if k < n then 1 else 0) = (silN bs n).length
  | 0 => by simp [silN_zero]
  | n + 1 => by
    have ih := silN_set bs hk h n
    rw [silN_more, silN_more, List.length_append, List.length_append, getD_set bs hk]
    by_cases e : n = k
    · subst e
      rw [if_pos rfl, h]
      rw [if_neg (Nat.lt_irrefl _)] at ih
      have e3 : (if n < n + 1 then 1 else 0) = 1 := if_pos (by omega)
      rw [e3]
      simp only [if_true, List.length_nil, Bool.false_eq_true, if_false, List.length_singleton]
      omega
    · rw [if_neg e]
      by_cases e2 : k < n
      · rw [if_pos e2] at ih
        have e3 : (if k < n + 1 then 1 else 0) = 1 := if_pos (by omega)
        rw [e3]
        omega
      · rw [if_neg e2] at ih
        have e3 : (if k < n + 1 then 1 else 0) = 0 := if_neg (by omega)
        rw [e3]
        omega
theorem silN_none8 {n : Nat} (h : n ≤ 8) : (silN none8 n).length = n := by
  have e : ∀ m, m ≤ 8 → (silN none8 m).length = m := by
    intro m
    induction m with
    | zero => intro _; rfl
    | succ m ih =>
      intro hm
      rw [silN_more, List.length_append, ih (by omega)]
      have : none8.getD m false = false := by
        have : m < 8 := by omega
        match m, this with
        | 0, _ => rfl
        | 1, _ => rfl
        | 2, _ => rfl
        | 3, _ => rfl
        | 4, _ => rfl
        | 5, _ => rfl
        | 6, _ => rfl
        | 7, _ => rfl
      rw [this]
      rfl
  exact e n h
/-- A round of a wish for nothing, to which nothing was told. -/
def hfR (n : Nat) (bs : List Bool) : Rd := { newR n ⟨1, 16⟩ [] with ans := bs }
theorem hf_find (n : Nat) (bs : List Bool) : findR (hfR n bs) = 0 := rfl
theorem hf_mem (bs : List Bool) (n k : Nat) : (16 + (k : Int)) ∈ silN bs n ↔ k < n ∧ bs.getD k false = false := by
  rw [silN_mem, show (16 + (k : Int) - 16).toNat = k by omega]
  constructor
  · rintro ⟨_, h2, h3⟩; exact ⟨by omega, h3⟩
  · rintro ⟨h2, h3⟩; exact ⟨by omega, by omega, h3⟩
theorem hf_yes {n : Nat} {bs : List Bool} {k : Nat} (hk : k < n) (h : bs.getD k false = false) : promR (hfR n bs) (16 + (k : Int)) bl0 [] = if Most (hfR n (bs.set k true)) then { hfR n none8 with stage := 2 } else hfR n (bs.set k true) := by
  unfold promR
  rw [if_pos ⟨rfl, by decide, (hf_mem bs n k).2 ⟨hk, h⟩⟩]
  have e : greater (heard (hfR n bs) (16 + (k : Int))) bl0 [] = hfR n (bs.set k true) := by
    unfold greater
    rw [if_neg (show ¬ LtB (heard (hfR n bs) (16 + (k : Int))).gr bl0 from (show ¬ LtB bl0 bl0 by decide))]
    unfold heard
    rw [show (16 + (k : Int) - 16).toNat = k by omega]
    rfl
  rw [e]
  rfl
theorem hf_no {n : Nat} {bs : List Bool} {k : Nat} (h : ¬ (k < n ∧ bs.getD k false = false)) : promR (hfR n bs) (16 + (k : Int)) bl0 [] = hfR n bs := by
  unfold promR
  rw [if_neg (fun h2 => h ((hf_mem bs n k).1 h2.2.2))]
abbrev tyA8 : TypeId := 117
def b01 (b : Bool) : Int := if b then 1 else 0
/-- The row of marks. -/
def HvB (w : World) (g : Nat) (bs : List Bool) : Prop := w.heap[g]? = some (.cells (bs.map (fun b => Value.int .i64 (b01 b))).toArray tyA8 (0, 0))
theorem HvB.at {w : World} {g : Nat} {bs : List Bool} (h : HvB w g bs) {k : Nat} (hk : k < bs.length) : w.cell? ⟨g, k, none⟩ = some (.int .i64 (b01 (bs.getD k false))) := by
  rw [cell_of_row w g k _ _ _ h, List.getElem?_toArray, List.getElem?_map, List.getElem?_eq_getElem hk, List.getD_eq_getElem?_getD, List.getElem?_eq_getElem hk]
  rfl
theorem HvB.free {w : World} {g : Nat} {bs : List Bool} (h : HvB w g bs) (o : Nat) : w.frozen? ⟨g, o, none⟩ = false := frozen_of_row w g o _ _ h
theorem HvB.put {w : World} {g : Nat} {bs : List Bool} (h : HvB w g bs) (k : Nat) (b : Bool) : HvB (w.setCell ⟨g, k, none⟩ (.int .i64 (b01 b))) g (bs.set k b) := by
  have h2 := heap_setCell_same w g k _ _ (.int .i64 (b01 b)) h
  unfold HvB
  rw [h2, List.map_set]
  simp
theorem infoA8 : (Try.prog.info? tyA8).map (·.size) = some 8 := by kernel_rfl
abbrev zA8 : Array Value := #[.int .i64 0, .int .i64 0, .int .i64 0, .int .i64 0, .int .i64 0, .int .i64 0, .int .i64 0, .int .i64 0]
theorem zeroA8 : (Try.prog.info? tyA8).map (fun i => (i.zero, i.size)) = some (some (.agg zA8), 8) := by kernel_rfl
theorem a8one : (#[.int .i64 0, .int .i64 0, .int .i64 0, .int .i64 0, .int .i64 0, .int .i64 0, .int .i64 0, .int .i64 0] : Array Value).all (·.oneCell') = true := by
  simp [Value.oneCell']
def a8Set (w : World) (g : Nat) : World := w.setCells g 0 [.int .i64 0, .int .i64 0, .int .i64 0, .int .i64 0, .int .i64 0, .int .i64 0, .int .i64 0, .int .i64 0]
theorem HvB.zero {w : World} {g : Nat} (h : HvB w g none8) : HvB (a8Set w g) g none8 :=
  (((((((h.put 0 false).put 1 false).put 2 false).put 3 false).put 4 false).put 5 false).put 6 false).put 7 false
theorem tch_a8 (w : World) (g : Nat) : Tch (· = g) w (a8Set w g) :=
  (((((((tch_set w ⟨g, 0, none⟩ _).trans (tch_set _ ⟨g, 1, none⟩ _)).trans (tch_set _ ⟨g, 2, none⟩ _)).trans (tch_set _ ⟨g, 3, none⟩ _)).trans (tch_set _ ⟨g, 4, none⟩ _)).trans (tch_set _ ⟨g, 5, none⟩ _)).trans (tch_set _ ⟨g, 6, none⟩ _)).trans (tch_set _ ⟨g, 7, none⟩ _)
theorem ROn.write {w0 w w' : World} {p : Nat} {r : Rd} {K T : Nat → Prop} (h : ROn w0 w p r K) (ht : Tch T w w') (hT : ∀ k, T k → K k ∧ w0.heap.size ≤ k) : ROn w0 w' p r K := by
  obtain ⟨a1, c1, v1, a2, c2, v2, h⟩ := h
  exact ⟨a1, c1, v1, a2, c2, v2, h.keep ht (fun k hk hT2 => h.away k hk (hT k hT2).1) (fun k hk => (hT k hk).2)⟩
theorem nil_away {K : Nat → Prop} : ∀ k, BkC none [] k → K k := fun k hk => by rcases hk with ⟨ad, h, _⟩ | ⟨v, hv, _⟩; cases h; cases hv
/-- What the loop keeps. -/
structure HlS (w1 wr : World) (p g n q : Nat) (bs : List Bool) : Prop where
  on : ROn w1 wr p (hfR n bs) (fun k => k < w1.heap.size ∨ k = g)
  hv : HvB wr g bs
  len : bs.length = 8
  cnt : (q : Int) = (n : Int) - ((silN bs n).length : Int)
  low : ¬ (2 * (q : Int) > (n : Int))
  new : w1.heap.size ≤ g
set_option maxRecDepth 100000 in
set_option maxHeartbeats 16000000 in
theorem roundHalves_t (z : Int) (l : List Int) (a : Option Addr) (m c : Nat) (w : World) (hI : InI w a m c l) (hm : m ≤ 17592186043904) :
    Calls Try.prog 11 #[.int .i64 z, .slice a m c] w fun e w' => e = .returned (.bool true) ∧ Below w.heap.size w w' := by
  have hlen := hI.len
  have hroom := hI.room
  have HI := Lib.hid hI
  have CA := Lib.hid (alive2_c w)
  obtain ⟨X, hX⟩ : ∃ X, X = IntKind.u64.wrap z := ⟨_, rfl⟩
  have hX0 : 0 ≤ X := by rw [hX, IntKind.wrap_u64]; omega
  have m0 : ∀ [Inhabited Nat], IntKind.u64.wrap z = X := by intro _; exact hX.symm
  obtain ⟨r8, hr⟩ : ∃ r : Int, r = X % 8 := ⟨_, rfl⟩
  have hr0 : 0 ≤ r8 ∧ r8 < 8 := by omega
  have vr1 : X.tmod 8 = r8 := by rw [Int.tmod_eq_emod_of_nonneg hX0]; exact hr.symm
  have vr2 : ∀ [Inhabited Nat], IntKind.u64.wrap r8 = r8 := by intro _; exact IntWalk.u64_in _ (by omega)
  have vr3 : ∀ [Inhabited Nat], IntKind.i64.wrap r8 = r8 := by intro _; exact IntWalk.i64_in _ (by omega)
  obtain ⟨n, hn⟩ : ∃ n : Nat, n = 1 + r8.toNat := ⟨_, rfl⟩
  have hn8 : 1 ≤ n ∧ n ≤ 8 := by omega
  have vr4 : ∀ [Inhabited Nat], IntKind.i64.wrap (1 + r8) = (n : Int) := by intro _; rw [show (1 + r8) = (n : Int) by omega]; exact IntWalk.i64_in _ (by omega)
  have q0 := nilEl
  have q1 := nilNe
  clear hI hX hr hn
  go_enter Try.func11, Try.ntmps11
  go_wp2_with fail
  refine CA.out.mono ?_
  rintro e w1 ⟨rfl, hb1⟩
  have HB1 := Lib.hid hb1
  clear hb1 CA
  by_cases hbig : m > 60
  · have gg : (m : Int) > 60 := by omega
    go_wp2
    go_ret
    exact ⟨rfl, HB1.out⟩
  · have gg : ¬ (m : Int) > 60 := by omega
    have CN := Lib.hid (newR_c n hn8 ⟨1, 16⟩ ⟨⟨by decide, by decide⟩, ⟨by decide, by decide⟩⟩ [] [] none 0 0 w1 (inC_nil w1) (by decide) (by decide))
    go_upto_region 4 with fail
    go_wp2_with fail
    refine CN.out.mono ?_
    rintro e w2 ⟨p, rfl, hR2, hb2⟩
    have hp0 : ((some (⟨p, 0, none⟩ : Addr)) == none) = false := rfl
    obtain ⟨hzv, _⟩ := zero_of_info zeroA8
    obtain ⟨Z, hZ⟩ : ∃ Z, Z = zA8 := ⟨_, rfl⟩
    rw [← hZ] at hzv
    have HZS : Hid ((Try.prog.info? tyA8).map (·.size) = some Z.size) := Lib.hid (by rw [hZ]; exact infoA8)
    have HZ1 : Hid (Z.all (·.oneCell') = true) := Lib.hid (by rw [hZ]; exact a8one)
    obtain ⟨w3, hw3⟩ : ∃ w3, w3 = w2.alloc (.cells Z tyA8) := ⟨_, rfl⟩
    have hV3 : HvB w3 w2.heap.size none8 := by rw [hw3, hZ]; exact heap_alloc_new w2 _
    have hb3 : Below w2.heap.size w2 w3 := by rw [hw3]; exact bl_al (Below.refl _ _) _
    have hs3 : w3.heap.size = w2.heap.size + 1 := by rw [hw3]; simp
    obtain ⟨g, hg⟩ : ∃ g, g = w2.heap.size := ⟨_, rfl⟩
    rw [← hg] at hV3 hs3
    have HTH : Hid (w3.there g 0 Z.size) := Lib.hid (fun j hj => ⟨by rw [Nat.zero_add, hV3.at (by rw [hZ] at hj; exact hj)]; rfl, hV3.free _⟩)
    have HS : Hid (HlS w1 (a8Set w3 g) p g n 0 none8) := Lib.hid (by
      have h4 := hR2.grow hb3
      refine ⟨(h4.write (tch_a8 w3 g) (fun k e => ⟨.inr (by omega), by have := hb2.size; omega⟩)).less (fun k hk => ?_), hV3.zero, rfl, ?_, by omega, by have := hb2.size; omega⟩
      · rcases hk with hk | hk
        · exact .inl hk
        · exact .inr (by omega)
      · rw [silN_none8 hn8.2]; omega)
    have HW3 := Lib.hid (And.intro hw3 hg)
    have HZZ := Lib.hid hZ
    clear hb2 hR2 hw3 hV3 hb3 hs3 hg CN hZ
    go_upto_region 9 with fail
    go_wp2_with (refine wpList_store_mid rfl tyA8 (.tmp 7) (.tmp 35) rfl w2.heap.size 0 Z rfl rfl (by rw [← HW3.out.2, ← HW3.out.1]; exact HTH.out) HZS.out HZ1.out ?_)
    rw [← HW3.out.1, ← HW3.out.2]
    rw [show w3.setCells g 0 Z.toList = a8Set w3 g from by rw [HZZ.out]; rfl]
    clear hzv
    obtain ⟨w4, hw4⟩ : ∃ w4, w4 = a8Set w3 g := ⟨_, rfl⟩
    rw [← hw4] at HS ⊢
    clear hw4 HTH HW3
    go_wp2
    go_loopw [8, 10, 11, 12, 38] (fun qv _ _ _ iv wr => ∃ (i q : Nat) (bs : List Bool), i ≤ m ∧ q ≤ n ∧ qv = .int .i64 q ∧ iv = .int .i64 i ∧ Hid (HlS w1 wr p g n q bs)) (fun _ _ _ _ iv _ => m - (intOf iv).toNat)
    case atStart => exact ⟨0, 0, none8, by omega, by omega, rfl, rfl, HS⟩
    case round =>
      obtain ⟨i, q, bs, hi, hq, rfl, rfl, HH⟩ := hrel
      obtain ⟨w5, rfl⟩ : ∃ v, v = wr := ⟨_, rfl⟩
      clear HS
      by_cases hlt : i < m
      · have ii : (i : Int) < (m : Int) := by omega
        have i0 : (0 : Int) ≤ (i : Int) := by omega
        have ic : (i : Int) ≤ (c : Int) := by omega
        have HB5 : Hid (Below w.heap.size w w5) := Lib.hid (HB1.out.trans (HH.out.on.bel.mono HB1.out.size))
        obtain ⟨b, off, rfl⟩ := in_blockI HI.out (by omega)
        have hx := in_cellI (HI.out.below HB5.out) i hlt
        obtain ⟨x, ex⟩ : ∃ x, x = l.getD i 0 := ⟨_, rfl⟩
        rw [← ex] at hx
        obtain ⟨Y, hY⟩ : ∃ X, X = IntKind.u64.wrap x := ⟨_, rfl⟩
        have hY0 : 0 ≤ Y := by rw [hY, IntKind.wrap_u64]; omega
        have n0 : ∀ [Inhabited Nat], IntKind.u64.wrap x = Y := by intro _; exact hY.symm
        obtain ⟨k, hk⟩ : ∃ k : Nat, (k : Int) = Y % 9 := ⟨(Y % 9).toNat, by omega⟩
        have hk9 : k < 9 := by omega
        have k0 : (0 : Int) ≤ (k : Int) := by omega
        have vs1 : Y.tmod 9 = (k : Int) := by rw [Int.tmod_eq_emod_of_nonneg hY0]; exact hk.symm
        have vs2 : ∀ [Inhabited Nat], IntKind.u64.wrap (k : Int) = (k : Int) := by intro _; exact IntWalk.u64_in _ (by omega)
        have vs3 : ∀ [Inhabited Nat], IntKind.i64.wrap (k : Int) = (k : Int) := by intro _; exact IntWalk.i64_in _ (by omega)
        have vs4 : ∀ [Inhabited Nat], IntKind.i64.wrap (16 + (k : Int)) = 16 + (k : Int) := by intro _; exact IntWalk.i64_in _ (by omega)
        have vs5 : ∀ [Inhabited Nat], IntKind.i64.wrap (2 * (q : Int)) = 2 * (q : Int) := by intro _; exact IntWalk.i64_in _ (by omega)
        have vs6 : ∀ [Inhabited Nat], IntKind.i64.wrap ((q : Int) + 1) = (q : Int) + 1 := by intro _; exact IntWalk.i64_in _ (by omega)
        have vs7 : ∀ [Inhabited Nat], IntKind.i64.wrap (2 * ((q : Int) + 1)) = 2 * ((q : Int) + 1) := by intro _; exact IntWalk.i64_in _ (by omega)
        have hlow := HH.out.low
        have h8 := HH.out.len
        clear ex hY hk
        by_cases hkn : k < n
        · have kn : (k : Int) < (n : Int) := by omega
          have k8 : (k : Int) < 8 := by omega
          have hc := HH.out.hv.at (k := k) (by omega)
          by_cases hz : bs.getD k false = false
          · rw [hz, show b01 false = 0 from rfl] at hc
            have hf := HH.out.hv.free k
            have HZ := Lib.hid hz
            clear hz
            go_upto_region 17 with fail
            obtain ⟨w6, hw6⟩ : ∃ w6, w6 = w5.setCell ⟨g, k, none⟩ (.int .i64 1) := ⟨_, rfl⟩
            rw [← hw6]
            have HV6 : Hid (HvB w6 g (bs.set k true)) := Lib.hid (by rw [hw6]; exact HH.out.hv.put k true)
            have hon6 : ROn w1 w6 p (hfR n bs) (fun k => k < w1.heap.size ∨ k = g) := HH.out.on.write (T := (· = g)) (by rw [hw6]; exact tch_set w5 ⟨g, k, none⟩ _) (fun k e => ⟨.inr e, by rw [e]; exact HH.out.new⟩)
            obtain ⟨a1, c1, v1, a2, c2, v2, hX6⟩ := hon6
            have CP := Lib.hid (promiseR_c w1 w6 p (hfR n bs) _ _ _ _ _ _ _ (16 + (k : Int)) bl0 ⟨⟨by decide, by decide⟩, ⟨by decide, by decide⟩⟩ [] [] none 0 0 hX6 (inC_nil w6) nil_away (by decide))
            rw [hf_yes hkn HZ.out] at CP
            have hcnt := HH.out.cnt
            have hset := silN_set bs (by omega) HZ.out n
            rw [if_pos hkn] at hset
            have HMI : Hid (Most (hfR n (bs.set k true)) ↔ 2 * ((q + 1 : Nat) : Int) > (n : Int)) := Lib.hid (by
              show 2 * ((n : Int) - ((silN (bs.set k true) n).length : Int)) > (n : Int) ↔ _
              omega)
            have HC6 : Hid (((q + 1 : Nat) : Int) = (n : Int) - ((silN (bs.set k true) n).length : Int)) := Lib.hid (by omega)
            have hq1 : q + 1 ≤ n := by have := silN_len (bs.set k true) n; omega
            have HN6 := Lib.hid HH.out.new
            have HL6 : Hid ((bs.set k true).length = 8) := Lib.hid (by simp [h8])
            clear hw6 hc hf hX6 hcnt hset hx h8 HH
            by_cases hmost : 2 * ((q + 1 : Nat) : Int) > (n : Int)
            · rw [if_pos (HMI.out.2 hmost)] at CP
              have gm : (n : Int) < 2 * ((q : Int) + 1) := by omega
              clear hlow
              go_wp2_with fail
              refine CP.out.mono ?_
              rintro e w7 ⟨rfl, hR7, hk7⟩
              rw [show ({ hfR n none8 with stage := 2 } : Rd).stage = 2 from rfl]
              obtain ⟨a1, c1, v1, a2, c2, v2, hX7⟩ := hR7
              have CPl := Lib.hid (place_cR w7 hX7)
              rw [show placeR { hfR n none8 with stage := 2 } = 0 from rfl] at CPl
              have HX7 := Lib.hid hX7
              clear hX7 hk7 CP HV6
              go_wp2_with fail
              refine CPl.out.mono ?_
              rintro e w8 ⟨rfl, hb8⟩
              have HX8 := Lib.hid (HX7.out.new hb8).1
              have CL := Lib.hid (log_cR w8 HX8.out)
              clear hb8 CPl
              go_wp2_with fail
              refine CL.out.mono ?_
              intro e w9 hL
              obtain ⟨⟨al, cl, vl, rfl, _⟩, hb9⟩ := hL.1 (.inl rfl)
              rw [show ({ hfR n none8 with stage := 2 } : Rd).log.length = 0 from rfl]
              have HB9 := Lib.hid (HB1.out.trans ((HX8.out.new hb9).1.bel.mono HB1.out.size))
              clear hL hb9 CL
              go_wp2
              go_ret
              exact ⟨rfl, HB9.out⟩
            · rw [if_neg (fun h => hmost (HMI.out.1 h))] at CP
              have gm : ¬ (n : Int) < 2 * ((q : Int) + 1) := by omega
              go_wp2_with fail
              refine CP.out.mono ?_
              rintro e w7 ⟨rfl, hR7, hk7⟩
              rw [show (hfR n (bs.set k true)).stage = 1 from rfl]
              have HF : Hid (HlS w1 w7 p g n (q + 1) (bs.set k true)) := Lib.hid ⟨hR7, (hk7.1 g (.inr rfl)).trans HV6.out, HL6.out, HC6.out, (by omega), HN6.out⟩
              clear hR7 hk7 CP HV6
              go_wp2
              go_roundw
              case rel => exact ⟨i + 1, q + 1, _, by omega, by omega, by go_num, by go_num, HF⟩
              case measure => simp [intOf]; omega
          · have hz1 : bs.getD k false = true := by cases h : bs.getD k false with
              | true => rfl
              | false => exact absurd h hz
            rw [hz1, show b01 true = 1 from rfl] at hc
            have HNO : Hid (¬ (k < n ∧ bs.getD k false = false)) := Lib.hid (fun h => hz h.2)
            clear hz hz1
            have hon6 := HH.out.on
            obtain ⟨a1, c1, v1, a2, c2, v2, hX6⟩ := hon6
            have CP := Lib.hid (promiseR_c w1 w5 p (hfR n bs) _ _ _ _ _ _ _ (16 + (k : Int)) bl0 ⟨⟨by decide, by decide⟩, ⟨by decide, by decide⟩⟩ [] [] none 0 0 hX6 (inC_nil w5) nil_away (by decide))
            rw [hf_no HNO.out] at CP
            have gm : ¬ (n : Int) < 2 * (q : Int) := hlow
            clear hX6
            go_wp2_with fail
            refine CP.out.mono ?_
            rintro e w7 ⟨rfl, hR7, hk7⟩
            rw [show (hfR n bs).stage = 1 from rfl]
            have HF : Hid (HlS w1 w7 p g n q bs) := Lib.hid ⟨hR7, (hk7.1 g (.inr rfl)).trans HH.out.hv, HH.out.len, HH.out.cnt, HH.out.low, HH.out.new⟩
            clear hR7 hk7 CP HH
            go_wp2
            go_roundw
            case rel => exact ⟨i + 1, q, bs, by omega, by omega, by go_num, by go_num, HF⟩
            case measure => simp [intOf]; omega
        · have kn : ¬ (k : Int) < (n : Int) := by omega
          have HNO : Hid (¬ (k < n ∧ bs.getD k false = false)) := Lib.hid (fun h => hkn h.1)
          have hon6 := HH.out.on
          obtain ⟨a1, c1, v1, a2, c2, v2, hX6⟩ := hon6
          have CP := Lib.hid (promiseR_c w1 w5 p (hfR n bs) _ _ _ _ _ _ _ (16 + (k : Int)) bl0 ⟨⟨by decide, by decide⟩, ⟨by decide, by decide⟩⟩ [] [] none 0 0 hX6 (inC_nil w5) nil_away (by decide))
          rw [hf_no HNO.out] at CP
          have gm : ¬ (n : Int) < 2 * (q : Int) := hlow
          clear hX6
          go_wp2_with fail
          refine CP.out.mono ?_
          rintro e w7 ⟨rfl, hR7, hk7⟩
          rw [show (hfR n bs).stage = 1 from rfl]
          have HF : Hid (HlS w1 w7 p g n q bs) := Lib.hid ⟨hR7, (hk7.1 g (.inr rfl)).trans HH.out.hv, HH.out.len, HH.out.cnt, HH.out.low, HH.out.new⟩
          clear hR7 hk7 CP HH
          go_wp2
          go_roundw
          case rel => exact ⟨i + 1, q, bs, by omega, by omega, by go_num, by go_num, HF⟩
          case measure => simp [intOf]; omega
      · have ii : ¬ (i : Int) < (m : Int) := by omega
        obtain rfl : i = m := by omega
        obtain ⟨a1, c1, v1, a2, c2, v2, hX7⟩ := HH.out.on
        have CPl := Lib.hid (place_cR w5 hX7)
        rw [show placeR (hfR n bs) = 0 from rfl] at CPl
        have HX7 := Lib.hid hX7
        clear hX7 HH
        go_wp2_with fail
        refine CPl.out.mono ?_
        rintro e w8 ⟨rfl, hb8⟩
        have HX8 := Lib.hid (HX7.out.new hb8).1
        have CL := Lib.hid (log_cR w8 HX8.out)
        clear hb8 CPl
        go_wp2_with fail
        refine CL.out.mono ?_
        intro e w9 hL
        have he := hL.2.1 (fun h => by rcases h with h | h <;> cases h)
        subst he
        have HB9 := Lib.hid (HB1.out.trans ((HX8.out.new hL.2.2).1.bel.mono HB1.out.size))
        clear hL CL
        go_wp2
        go_ret
        exact ⟨rfl, HB9.out⟩
end Go.Proofs.Ytnhnpfhfcbmmlaa
