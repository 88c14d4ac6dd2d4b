/- Contract of SumChanges: true. Conditions: the rows' cells hold words of 16 bits, the number fits its kind. -/
import Derived.Test.YtjmpmegodhglcaaB5
import Derived.Deep.RegionHeldLaw
import Derived.Deep.AppendLies
import Derived.Deep.CutRange
namespace Go.Proofs.Ytjmpmegodhglcaa
open Go Go.RowKit

theorem info32 : (Try.prog.info? 32).map (fun i => (i.zero, i.size, i.bytes)) = some (some (.agg #[.int .u16 0, .int .u16 0]), 2, 4) := by kernel_rfl
/-- A row of words that came in. -/
def Words (w : World) (a : Option Addr) (l : List Int) : Prop := l = [] ∨ ∃ b off, a = some ⟨b, off, none⟩ ∧ ∀ j, j < l.length → w.cell? ⟨b, off + j, none⟩ = some (.int .u16 (l.getD j 0))
def pcells (pl : List (Int × Int)) : List Value := pl.flatMap (fun p => [.int .u16 p.1, .int .u16 p.2])
theorem pcells_len : ∀ pl : List (Int × Int), (pcells pl).length = pl.length * 2
  | [] => rfl
  | p :: pl => by
    have := pcells_len pl
    unfold pcells at this ⊢
    rw [List.flatMap_cons, List.length_append, this]
    simp
    omega
theorem pcells_app (pl : List (Int × Int)) (m n : Int) : pcells pl ++ [.int .u16 m, .int .u16 n] = pcells (pl ++ [(m, n)]) := by unfold pcells; rw [List.flatMap_append]; rfl
theorem pcells_at : ∀ (pl : List (Int × Int)) (j : Nat) (p : Int × Int), pl[j]? = some p → (pcells pl)[j * 2]? = some (.int .u16 p.1) ∧ (pcells pl)[j * 2 + 1]? = some (.int .u16 p.2)
  | [], j, p, h => by simp at h
  | q :: pl, 0, p, h => by simp at h; subst h; exact ⟨rfl, rfl⟩
  | q :: pl, j + 1, p, h => by
    have := pcells_at pl j p (by simpa using h)
    rw [show (j + 1) * 2 = j * 2 + 1 + 1 by omega]
    exact this
theorem Prs.own {w : World} {B : Nat} {v : Value} {pl : List (Int × Int)} (h : w.ownsRow B 32 2 v pl.length (pcells pl)) : Prs w v pl := by
  rcases h.2 with ⟨rfl, h0⟩ | ⟨g, cap, cur, rfl, hb, hg, h1, h2, h3, h4⟩
  · have : pl = [] := List.eq_nil_of_length_eq_zero h0
    subst this
    exact ⟨none, 0, rfl, .inl rfl⟩
  · refine ⟨_, cap, rfl, .inr ⟨g, 0, rfl, fun j p hj => ?_⟩⟩
    have hlt : j < pl.length := (List.getElem?_eq_some_iff.1 hj).1
    obtain ⟨e1, e2⟩ := pcells_at pl j p hj
    rw [Nat.zero_add]
    exact ⟨(h.cellAt (g := g) (cap := cap) (j * 2) (by omega)).trans e1, (h.cellAt (g := g) (cap := cap) (j * 2 + 1) (by omega)).trans e2⟩
theorem Prs.own' {w : World} {B n : Nat} {v : Value} {pl : List (Int × Int)} (h : w.ownsRow B 32 2 v n (pcells pl)) (hn : pl.length = n) : Prs w v pl := by
  subst hn
  exact Prs.own h
theorem Prs.nil (w : World) (a : Option Addr) (c : Nat) : Prs w (.slice a 0 c) [] := ⟨a, c, rfl, .inl rfl⟩
theorem cell_two (w : World) (m q : Int) : ∀ j u, [Value.int .u16 m, .int .u16 q][j]? = some u → (w.alloc (.cells #[.int .u16 m, .int .u16 q] 32)).cell? ((⟨w.heap.size, 0, none⟩ : Addr).add j) = some u := cell_two_new w _ _ _
def prs (l m : List Int) : List (Int × Int) := l.zip m
theorem prs_at {l m : List Int} {k : Nat} (h1 : k < l.length) (h2 : k < m.length) : (prs l m)[k]? = some (l.getD k 0, m.getD k 0) := by
  unfold prs
  rw [List.getElem?_eq_getElem (by rw [List.length_zip]; omega), List.getElem_zip, List.getD_eq_getElem?_getD, List.getD_eq_getElem?_getD, List.getElem?_eq_getElem h1, List.getElem?_eq_getElem h2]
  rfl

theorem keep_al {w : World} {a b : Addr} {x y : Value} (h : w.drew.cell? a = some x ∧ w.drew.cell? b = some y) (o : Obj) : (w.alloc o).drew.cell? a = some x ∧ (w.alloc o).drew.cell? b = some y :=
  ⟨cell_later (w := w) (wx := w.alloc o) (bl_al (Below.refl w.heap.size w) o) h.1, cell_later (w := w) (wx := w.alloc o) (bl_al (Below.refl w.heap.size w) o) h.2⟩
theorem keep_far {w w' : World} {row : Option Nat} {a b : Addr} {x y : Value} {B : Nat} (hg : w.grownBy w' row) (ha : a.block < B) (hb : b.block < B) (hB : B ≤ w.heap.size) (hr : ∀ k, row = some k → B ≤ k) (h : w.cell? a = some x ∧ w.cell? b = some y) : w'.cell? a = some x ∧ w'.cell? b = some y :=
  ⟨(hg.cell_far a (by omega) (fun e => by have := hr _ e.symm; omega)).trans h.1, (hg.cell_far b (by omega) (fun e => by have := hr _ e.symm; omega)).trans h.2⟩

set_option maxRecDepth 100000 in
theorem changes_any (c : Int) (la lb : List Int) (aa ab : Option Addr) (na nb ca cb : Nat) (w : World) (hc : w16 c) (hA : Words w aa la) (hB : Words w ab lb) (hfa : ∀ x ∈ la, w16 x) (hfb : ∀ x ∈ lb, w16 x)
    (hna : la.length = na) (hnb : lb.length = nb) (h1 : na ≤ maxLen) (h2 : nb ≤ maxLen) :
    Calls Try.prog 4 #[.int .u16 c, .slice aa na ca, .slice ab nb cb] w fun e w' => e = .returned (.bool true) ∧ Below w.heap.size w w' := by
  obtain ⟨i0, hi0, hz0, hz1, hz2⟩ := info_parts info32
  unfold maxLen at h1 h2
  obtain ⟨n, hn⟩ : ∃ n, n = min (min na nb) 2000 := ⟨_, rfl⟩
  have hn1 : n ≤ na := by omega
  have hn2 : n ≤ nb := by omega
  have hn3 : n ≤ 2000 := by omega
  have HA := Lib.hid hA
  have HBB := Lib.hid hB
  have HFA := Lib.hid hfa
  have HFB := Lib.hid hfb
  have HNA := Lib.hid hna
  have HNB := Lib.hid hnb
  have HC := Lib.hid hc
  have HNN := Lib.hid hn
  clear hA hB hfa hfb hna hnb hc hn
  go_enter Try.func4, Try.ntmps4
  go_upto_region 3 with (go_at_call 9; refine (alive_any w).mono ?_; rintro e w1 ⟨rfl, hb⟩)
  have HB1 := Lib.hid hb
  clear hb
  go_cut [7] from 13 to 17 (fun v wx => v = .int .i64 n ∧ wx = w1)
  case first =>
    go_wp2_with fail
    all_goals go_meet
    all_goals
      have hn := HNN.out
      exact ⟨congrArg (Value.int .i64) (by omega), rfl⟩
  case rest =>
    obtain ⟨rfl, rfl⟩ := hcut
    go_wp2_with fail
    have HB2 := Lib.hid (HB1.out.alloc HB1.out.size (.cells #[] 32))
    have hs1 := HB1.out.size
    have own0 := World.ownsRow_made (e := 32) (size := 2) wc #[] 0 hs1 (by decide) rfl
    have HO0 := Lib.hid own0
    clear own0 HB1
    go_loopw [8, 9, 10] (fun v t i wr => ∃ (k : Nat) (x : Int), k ≤ n ∧ i = .int .i64 k ∧ t = .int .u16 x ∧ Hid (x = ((prs la lb).take k).foldl up c) ∧ Hid (∃ a0 c0, v = .slice a0 k c0 ∧ wr.ownsRow w.heap.size 32 2 v k (pcells ((prs la lb).take k))) ∧ Hid (Below w.heap.size w wr)) (fun _ _ i _ => n - (intOf i).toNat)
    case atStart => exact ⟨0, c, by omega, rfl, rfl, Lib.hid rfl, Lib.hid ⟨_, _, rfl, HO0.out⟩, HB2⟩
    case round =>
      clear HO0 HB2 hs1
      obtain ⟨k, x, hk, rfl, rfl, hX, hO, hB⟩ := hrel
      obtain ⟨a0, c0, rfl, hown⟩ := hO.out
      by_cases hlt : k < n
      · rcases HA.out with h0 | ⟨b1, o1, rfl, hca⟩
        · have := HNA.out; rw [h0] at this; simp at this; omega
        rcases HBB.out with h0 | ⟨b2, o2, rfl, hcb⟩
        · have := HNB.out; rw [h0] at this; simp at this; omega
        have hka : k < la.length := by rw [HNA.out]; omega
        have hkb : k < lb.length := by rw [HNB.out]; omega
        have e1 := cell_later hB.out (hca k hka)
        have e2 := cell_later hB.out (hcb k hkb)
        have hp := prs_at hka hkb
        have hwm := HFA.out (la.getD k 0) (by rw [List.getD_eq_getElem?_getD, List.getElem?_eq_getElem hka]; exact List.getElem_mem hka)
        have hwq := HFB.out (lb.getD k 0) (by rw [List.getD_eq_getElem?_getD, List.getElem?_eq_getElem hkb]; exact List.getElem_mem hkb)
        obtain ⟨m, hm⟩ : ∃ m, m = la.getD k 0 := ⟨_, rfl⟩
        obtain ⟨q, hq⟩ : ∃ q, q = lb.getD k 0 := ⟨_, rfl⟩
        rw [← hm] at e1 hwm
        rw [← hq] at e2 hwq
        rw [← hm, ← hq] at hp
        have hstep : (prs la lb).take (k + 1) = (prs la lb).take k ++ [(m, q)] := by rw [List.take_add_one, hp]; rfl
        have hx : w16 x := by
          rw [hX.out]
          refine ups_fit _ HC.out (fun p hp => ?_)
          obtain ⟨p1, p2⟩ := p
          have := List.of_mem_zip (List.mem_of_mem_take hp)
          exact ⟨HFA.out _ this.1, HFB.out _ this.2⟩
        have HN1 : Hid (up x (m, q) = ((prs la lb).take (k + 1)).foldl up c) := Lib.hid (by rw [hstep, List.foldl_append, ← hX.out]; rfl)
        have HN2 : Hid (pcells ((prs la lb).take k) ++ [.int .u16 m, .int .u16 q] = pcells ((prs la lb).take (k + 1))) := Lib.hid (by rw [hstep, pcells_app])
        have HU := Lib.hid (fun w => refUpdate_any x m q hx hwm hwq w)
        have hs := hB.out.size
        have hbl1 : b1 < w.heap.size := block_lt_of_cell (hca k hka)
        have hbl2 : b2 < w.heap.size := block_lt_of_cell (hcb k hkb)
        have HOW := Lib.hid hown
        have HLT := Lib.hid (fun j hj => (hown.lt j hj).1)
        have h63 : k + 1 ≤ maxLen := by unfold maxLen; omega
        have hby : (k + 1) * 4 ≤ 140737488355328 := by omega
        have hba : w.heap.size ≤ (wr.alloc (.cells #[.int .u16 m, .int .u16 q] 32)).drew.heap.size := by simp; omega
        have hon : ∀ u ∈ [Value.int .u16 m, .int .u16 q], u.oneCell' = true := by intro u hu; simp at hu; rcases hu with rfl | rfl <;> rfl
        have HNW := Lib.hid (cell_two wr m q)
        have HK := Lib.hid h63
        have HBY := Lib.hid hby
        have HBA := Lib.hid hba
        have HON := Lib.hid hon
        clear hm hq hca hcb hka hkb hp hstep hx hwm hwq hX hO hown h63 hby hba hon
        go_wp2_with fail
        go_region_held_law (fun w' => w'.cell? ⟨b1, o1 + k, none⟩ = some (.int .u16 m) ∧ w'.cell? ⟨b2, o2 + k, none⟩ = some (.int .u16 q)) (first | exact ⟨e1, e2⟩ | exact keep_al ⟨e1, e2⟩ _ | exact keep_far hgrow3 hbl1 hbl2 HBA.out HLT.out (keep_al ⟨e1, e2⟩ _))
          (first | (refine step_append_lies _ rfl (.tmp 25) (.tmp 35) 31 rfl w.heap.size 32 i0 (.agg #[.int .u16 0, .int .u16 0]) 2 4 Try.underlying31 hi0 hz0 hz1 hz2 rfl (by decide) _ k (pcells ((prs la lb).take k)) rfl (HOW.out.alloc _).drew ⟨wr.heap.size, 0, none⟩ 1 1 [.int .u16 m, .int .u16 q] rfl rfl HNW.out HON.out (by decide) HK.out HBY.out HBA.out _ rfl ?_; intro g cap w3 hown3 hgrow3 hat hlt))
        all_goals
          obtain ⟨e1', e2'⟩ := keep_far hgrow3 hbl1 hbl2 HBA.out HLT.out (keep_al ⟨e1, e2⟩ _)
          have HB3 := Lib.hid (((hB.out.alloc hs (.cells #[.int .u16 m, .int .u16 q] 32)).drew).grown hgrow3 HBA.out HLT.out)
          rw [HN2.out] at hown3
          have HO3 := Lib.hid hown3
          clear e1 e2 hgrow3 hown3 HOW HLT HNW HBA HN2 hat hlt hs hB
          simp only [List.getElem_toArray, List.getElem_cons_succ, List.getElem_cons_zero, List.set_cons_succ, List.set_cons_zero]
          go_wp2_with fail
          go_quiet ((go_at_call 15; refine Calls.quiet_of_same ((HU.out _).mono fun _ _ h => ⟨h.1, h.2.symm⟩)))
          go_wp2
          go_roundw
          case rel => exact ⟨k + 1, _, by omega, by go_num, rfl, HN1, Lib.hid ⟨_, _, rfl, HO3.out⟩, Lib.hid (below_drewN HB3.out _)⟩
          case measure => simp [intOf]; omega
      · have hlen : ((prs la lb).take k).length = k := by
          unfold prs
          rw [List.length_take, List.length_zip, HNA.out, HNB.out]
          omega
        have hfit : fit2 ((prs la lb).take k) := fun p hp => by
          obtain ⟨p1, p2⟩ := p
          have := List.of_mem_zip (List.mem_of_mem_take hp)
          exact ⟨HFA.out _ this.1, HFB.out _ this.2⟩
        have C1 := Lib.hid (update_any c ((prs la lb).take k) _ wr HC.out (Prs.own' hown hlen) hfit (by rw [hlen]; omega))
        rw [← hX.out] at C1
        have C2 := Lib.hid (fun w' => update_any c [] (.slice none 0 0) w' HC.out (Prs.nil _ _ _) (by intro p hp; simp at hp) (by simp))
        clear hown hfit hlen hX hO
        go_wp2_with fail
        refine C1.out.mono ?_
        rintro e w4 ⟨rfl, hb4⟩
        have HB4 := Lib.hid (hB.out.trans (hb4.mono hB.out.size))
        clear hb4 hB C1
        go_wp2_with fail
        refine (C2.out _).mono ?_
        rintro e w5 ⟨rfl, hb5⟩
        have HB5 := Lib.hid (HB4.out.trans (hb5.mono HB4.out.size))
        clear hb5 HB4 C2
        rw [List.foldl_nil]
        go_wp2
        go_ret
        exact ⟨rfl, HB5.out⟩
end Go.Proofs.Ytjmpmegodhglcaa
