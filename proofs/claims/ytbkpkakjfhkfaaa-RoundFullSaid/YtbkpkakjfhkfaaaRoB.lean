/- A round in memory; slices.Index and Contains of numbers; hear, isMost. Conditions: those stated. -/
import Derived.Test.YtbkpkakjfhkfaaaRoA
import Derived.Deep.LoopGhost
import Derived.Deep.RegionHeld3
import Derived.OrdersHeld
namespace Go.Proofs.Ytbkpkakjfhkfaaa
open Go Go.RowKit
set_option linter.unusedVariables false
set_option linter.unusedSimpArgs false

def IdxI (x : Int) (l : List Int) (k : Int) : Prop := decide (0 ≤ k) = decide (x ∈ l)
set_option maxRecDepth 100000 in
set_option maxHeartbeats 2000000 in
theorem indexI_c (l : List Int) (x : Int) (a : Option Addr) (n c : Nat) (w : World) (hI : InI w a n c l) (hn : n ≤ 4611686018427387904) :
    Calls Try.prog 130 #[.slice a n c, .int .i64 x] w fun e w' => (∃ k : Int, e = .returned (.int .i64 k) ∧ IdxI x l k) ∧ Below w.heap.size w w' := by
  have hlen := hI.len
  have hroom := hI.room
  have HI := Lib.hid hI
  have F0 : Hid (x ∉ l.take 0) := Lib.hid (by simp)
  have HN : Hid (l.take n = l) := Lib.hid (List.take_of_length_le (by omega))
  clear hI
  go_enter Try.func130, Try.ntmps130
  go_wp2
  go_loopg [5, 8] n (fun gg _ s8 wr => ∃ i : Nat, i ≤ n ∧ n - i ≤ gg ∧ s8 = .int .i64 i ∧ Hid (x ∉ l.take i) ∧ Hid (Below w.heap.size w wr))
  case atStart => exact ⟨0, by omega, by omega, rfl, F0, Lib.hid (Below.refl _ _)⟩
  case round =>
    obtain ⟨i, hi, hgg, rfl, HF, HB⟩ := hrel
    obtain ⟨w2, rfl⟩ : ∃ v, v = wr := ⟨_, rfl⟩
    clear F0
    by_cases hlt : i < n
    · have ii : (i : Int) < (n : Int) := by omega
      have i0 : (0 : Int) ≤ (i : Int) := by omega
      have ic : (i : Int) ≤ (c : Int) := by omega
      obtain ⟨b, off, rfl⟩ := in_blockI HI.out (by omega)
      have hx := in_cellI (HI.out.below HB.out) i hlt
      have HM : Hid (l.take (i + 1) = l.take i ++ [l.getD i 0] ∧ l.getD i 0 ∈ l) := Lib.hid ⟨take_more l 0 (by omega), by rw [List.getD_eq_getElem?_getD, List.getElem?_eq_getElem (by omega)]; exact List.getElem_mem _⟩
      obtain ⟨y, ey⟩ : ∃ y, y = l.getD i 0 := ⟨_, rfl⟩
      rw [← ey] at hx HM
      clear ey
      by_cases hq : x = y
      · have HR : IdxI x l i := (by
          unfold IdxI
          rw [decide_eq_true i0, decide_eq_true (by rw [hq]; exact HM.out.2)])
        go_wp2
        go_ret
        exact ⟨⟨i, rfl, HR⟩, HB.out⟩
      · have HF2 : Hid (x ∉ l.take (i + 1)) := Lib.hid (by
          rw [HM.out.1]
          simp only [List.mem_append, List.mem_singleton, not_or]
          exact ⟨HF.out, hq⟩)
        go_wp2
        go_roundg (n - (i + 1))
        case measure => omega
        case rel => exact ⟨i + 1, by omega, by omega, by go_num, HF2, HB⟩
    · have ii : ¬ (i : Int) < (n : Int) := by omega
      obtain rfl : i = n := by omega
      have HR : IdxI x l (-1) := (by
        unfold IdxI
        have h := HF.out
        rw [HN.out] at h
        rw [decide_eq_false h]
        rfl)
      go_wp2
      go_ret
      exact ⟨⟨-1, rfl, HR⟩, HB.out⟩
set_option maxRecDepth 100000 in
theorem containsI_c (l : List Int) (x : Int) (a : Option Addr) (n c : Nat) (w : World) (hI : InI w a n c l) (hn : n ≤ 4611686018427387904) :
    Calls Try.prog 119 #[.slice a n c, .int .i64 x] w fun e w' => e = .returned (.bool (decide (x ∈ l))) ∧ Below w.heap.size w w' := by
  have C := Lib.hid (indexI_c l x a n c w hI hn)
  clear hI
  go_enter Try.func119, Try.ntmps119
  go_wp2_with fail
  refine C.out.mono ?_
  rintro e w1 ⟨⟨k, rfl, hk⟩, hb⟩
  have HB := Lib.hid hb
  have HK : Hid (decide (0 ≤ k) = decide (x ∈ l)) := Lib.hid hk
  clear hb hk C
  go_wp2
  go_ret
  exact ⟨by rw [← HK.out]; rfl, HB.out⟩
abbrev tyR : TypeId := 166
/-- A round's cells. -/
def rnL (r : Rd) (u v : Value) : List Value := .int .i64 r.n :: (r.ans.map Value.bool ++ [.int .i64 r.b.n, .int .i64 r.b.node, u, .int .i64 r.stage, .int .i64 r.gr.n, .int .i64 r.gr.node, v])
def ROb (w : World) (p : Nat) (r : Rd) (u v : Value) : Prop := w.heap[p]? = some (.cells (rnL r u v).toArray tyR (0, 0))
section
variable {w w' : World} {p : Nat} {r : Rd} {u v : Value}
theorem ROb.at (h : ROb w p r u v) (i : Nat) : w.cell? ⟨p, i, none⟩ = (rnL r u v)[i]? := by
  rw [cell_of_row w p i _ _ _ h, List.getElem?_toArray]
theorem ROb.free (h : ROb w p r u v) (o : Nat) : w.frozen? ⟨p, o, none⟩ = false := frozen_of_row w p o _ _ h
theorem ROb.lt (h : ROb w p r u v) : p < w.heap.size := lt_of_block h
theorem ROb.below (h : ROb w p r u v) (hb : Below w.heap.size w w') : ROb w' p r u v := (hb.block p h.lt).trans h
theorem ROb.kpt {K : Nat → Prop} (h : ROb w p r u v) (hk : Kpt K w w') (hK : K p) : ROb w' p r u v := (hk p hK).trans h
theorem rnL_ans (h8 : r.ans.length = 8) {k : Nat} (hk : k < 8) : (rnL r u v)[1 + k]? = some (.bool (r.ans.getD k false)) := by
  unfold rnL
  rw [Nat.add_comm, List.getElem?_cons_succ, List.getElem?_append_left (by simp; omega), List.getElem?_map, List.getElem?_eq_getElem (by omega), List.getD_eq_getElem?_getD, List.getElem?_eq_getElem (by omega)]
  rfl
theorem rnL_rest (h8 : r.ans.length = 8) (i : Nat) : (rnL r u v)[9 + i]? = ([.int .i64 r.b.n, .int .i64 r.b.node, u, .int .i64 r.stage, .int .i64 r.gr.n, .int .i64 r.gr.node, v] : List Value)[i]? := by
  unfold rnL
  rw [show 9 + i = (8 + i) + 1 from by omega, List.getElem?_cons_succ, List.getElem?_append_right (by simp; omega)]
  simp [h8]
theorem ROb.cw (h : ROb w p r u v) (h8 : r.ans.length = 8) : CwAt w p r.n r.ans :=
  ⟨h8, h.at 0, fun k hk => by rw [h.at, rnL_ans h8 hk]⟩
/-- The cells behind the crowd. -/
structure RCs (w : World) (p : Nat) (r : Rd) (u v : Value) : Prop where
  c9 : w.cell? ⟨p, 9, none⟩ = some (.int .i64 r.b.n)
  c10 : w.cell? ⟨p, 10, none⟩ = some (.int .i64 r.b.node)
  c11 : w.cell? ⟨p, 11, none⟩ = some u
  c12 : w.cell? ⟨p, 12, none⟩ = some (.int .i64 r.stage)
  c13 : w.cell? ⟨p, 13, none⟩ = some (.int .i64 r.gr.n)
  c14 : w.cell? ⟨p, 14, none⟩ = some (.int .i64 r.gr.node)
  c15 : w.cell? ⟨p, 15, none⟩ = some v
theorem ROb.cs (h : ROb w p r u v) (h8 : r.ans.length = 8) : RCs w p r u v :=
  ⟨by rw [h.at, rnL_rest h8 0]; rfl, by rw [h.at, rnL_rest h8 1]; rfl, by rw [h.at, rnL_rest h8 2]; rfl, by rw [h.at, rnL_rest h8 3]; rfl, by rw [h.at, rnL_rest h8 4]; rfl, by rw [h.at, rnL_rest h8 5]; rfl, by rw [h.at, rnL_rest h8 6]; rfl⟩
theorem ROb.put (h : ROb w p r u v) (i : Nat) (x : Value) {r2 : Rd} {u2 v2 : Value} (e : (rnL r u v).set i x = rnL r2 u2 v2) : ROb (w.setCell ⟨p, i, none⟩ x) p r2 u2 v2 := by
  have h2 := heap_setCell_same w p i _ _ x h
  unfold ROb
  rw [h2, ← e]
  simp
theorem rnL_set (h8 : r.ans.length = 8) {k : Nat} (hk : k < 8) : (rnL r u v).set (1 + k) (.bool true) = rnL { r with ans := r.ans.set k true } u v := by
  unfold rnL
  rw [Nat.add_comm, List.set_cons_succ, List.set_append_left _ _ (by simp; omega)]
  simp only [List.map_set]
end
/-- What hear does. -/
structure HrO (w : World) (p : Nat) (r : Rd) (node : Int) (e : Ending) (w' : World) : Prop where
  yes : node ∈ silN r.ans r.n → e = .returned (.bool true) ∧ ∃ w1, Below w.heap.size w w1 ∧ w' = w1.setCell ⟨p, 1 + (node - 16).toNat, none⟩ (.bool true)
  no : node ∉ silN r.ans r.n → e = .returned (.bool false) ∧ Below w.heap.size w w'
set_option maxRecDepth 100000 in
set_option maxHeartbeats 2000000 in
theorem hearC_c (w : World) (p : Nat) (r : Rd) (u v : Value) (node : Int) (h : ROb w p r u v) (ho : OkR r) :
    Calls Try.prog 95 #[.pointer (some ⟨p, 0, none⟩), .int .i64 node] w (HrO w p r node) := by
  have hp0 : ((some (⟨p, 0, none⟩ : Addr)) == none) = false := rfl
  have CS := Lib.hid (silent_c w p r.n r.ans (h.cw ho.len) ho.n.2)
  have H := Lib.hid h
  have HO := Lib.hid ho
  clear h ho
  go_enter Try.func95, Try.ntmps95
  go_wp2_with fail
  refine CS.out.mono ?_
  rintro e w1 ⟨⟨ao, c, rfl, hO⟩, hb1⟩
  have hI := own_inI hO rfl (silN_fit r.ans HO.out.n.2)
  have CC := Lib.hid (containsI_c (silN r.ans r.n) node ao _ c w1 hI (by have := silN_len r.ans r.n; have := HO.out.n.2; omega))
  have HB1 := Lib.hid hb1
  clear hO hb1 hI CS
  obtain ⟨l, hl⟩ : ∃ l, l = silN r.ans r.n := ⟨_, rfl⟩
  rw [← hl] at CC ⊢
  have HL := Lib.hid hl
  clear hl
  go_wp2_with fail
  refine CC.out.mono ?_
  rintro e w2 ⟨rfl, hb2⟩
  have HB2 := Lib.hid (bl_tr HB1.out hb2)
  clear hb2 CC
  by_cases hm : node ∈ l
  · have hd : decide (node ∈ l) = true := decide_eq_true hm
    have hr := (silN_mem r.ans r.n node).1 (by rw [← HL.out]; exact hm)
    have hn8 := HO.out.n.2
    obtain ⟨k, hk⟩ : ∃ k : Nat, k = (node - 16).toNat := ⟨_, rfl⟩
    have hk8 : k < 8 := by omega
    have hkn : node - 16 = (k : Int) := by omega
    have hR2 := H.out.below HB2.out
    have cI := (hR2.cw HO.out.len).ans k hk8
    have fI := hR2.free (1 + k)
    have i0 : (0 : Int) ≤ (k : Int) := by omega
    have i8 : (k : Int) < 8 := by omega
    have hw : ∀ [Inhabited Nat], IntKind.i64.wrap (node - 16) = (k : Int) := by intro _; rw [hkn]; exact IntWalk.i64_in _ (by omega)
    have HF : Hid (HrO w p r node (.returned (.bool true)) (w2.setCell ⟨p, 1 + k, none⟩ (.bool true))) := Lib.hid ⟨fun _ => ⟨rfl, w2, HB2.out, by rw [hk]⟩, fun hno => absurd hm (by rw [HL.out]; exact hno)⟩
    rw [hd]
    clear hr hk hR2 hm hd
    go_wp2
    go_ret
    exact HF.out
  · have hd : decide (node ∈ l) = false := decide_eq_false hm
    have HF : Hid (HrO w p r node (.returned (.bool false)) w2) := Lib.hid ⟨fun hy => absurd (by rw [HL.out]; exact hy) hm, fun _ => ⟨rfl, HB2.out⟩⟩
    rw [hd]
    clear hm hd
    go_wp2
    go_ret
    exact HF.out
set_option maxRecDepth 100000 in
set_option maxHeartbeats 2000000 in
theorem isMost_c (w : World) (p : Nat) (r : Rd) (u v : Value) (h : ROb w p r u v) (ho : OkR r) :
    Calls Try.prog 96 #[.pointer (some ⟨p, 0, none⟩)] w fun e w' => e = .returned (.bool (decide (Most r))) ∧ Below w.heap.size w w' := by
  have hp0 : ((some (⟨p, 0, none⟩ : Addr)) == none) = false := rfl
  have c0 := (h.cw ho.len).sz
  have CS := Lib.hid (silent_c w.drew p r.n r.ans ((h.below (Below.refl _ _).drew).cw ho.len) ho.n.2)
  have hle := silN_len r.ans r.n
  have hn8 := ho.n.2
  have HM : Hid (decide (2 * ((r.n : Int) - ((silN r.ans r.n).length : Int)) > (r.n : Int)) = decide (Most r)) := Lib.hid (decide_eq_decide.2 Iff.rfl)
  obtain ⟨k, hk⟩ : ∃ k, k = (silN r.ans r.n).length := ⟨_, rfl⟩
  obtain ⟨n, hn⟩ : ∃ n, n = r.n := ⟨_, rfl⟩
  rw [← hk, ← hn] at HM
  rw [← hn] at c0 hn8
  rw [← hk, ← hn] at hle
  have HB0 := Lib.hid (show Below w.heap.size w w.drew from (Below.refl _ _).drew)
  have CS2 : Hid (Calls Try.prog 99 #[.pointer (some ⟨p, 0, none⟩)] w.drew fun e w' => (∃ ao c, e = .returned (.slice ao k c)) ∧ Below w.heap.size w w') := Lib.hid (CS.out.mono (fun e w' h => by
    obtain ⟨⟨ao, c, he, _⟩, hb⟩ := h
    exact ⟨⟨ao, c, by rw [he, hk]⟩, bl_tr HB0.out hb⟩))
  have hw1 : ∀ [Inhabited Nat], IntKind.i64.wrap ((n : Int) - (k : Int)) = (n : Int) - (k : Int) := by intro _; exact IntWalk.i64_in _ (by omega)
  have hw2 : ∀ [Inhabited Nat], IntKind.i64.wrap (2 * ((n : Int) - (k : Int))) = 2 * ((n : Int) - (k : Int)) := by intro _; exact IntWalk.i64_in _ (by omega)
  clear h ho CS hk hn
  go_enter Try.func96, Try.ntmps96
  go_upto_region 1 with fail
  have hS0 : w.drew.cell? ⟨p, 0, none⟩ = some (.int .i64 n) := c0
  go_region_held3 (fun wx => wx.cell? ⟨p, 0, none⟩ = some (.int .i64 n)) (first | (with_reducible exact hS0) | (with_reducible assumption) | fail)
    (first
      | (go_at_call 99; (with_reducible refine CS2.out.mono ?_); rintro e w2 ⟨⟨ao, c, rfl⟩, hb2⟩; have hS1 := (show w2.cell? ⟨p, 0, none⟩ = some (.int .i64 n) from cell_later hb2 c0))
      | fail)
  all_goals
    have HB2 := Lib.hid hb2
    clear hb2 hS0 hS1
    go_wp2
    go_ret
    exact ⟨by rw [← HM.out]; rfl, HB2.out⟩
end Go.Proofs.Ytbkpkakjfhkfaaa
