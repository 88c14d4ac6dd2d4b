/- A round, plain: who is silent, the log that is chosen, what Promise and Accepted make of it. No program. A round's crowd in memory: silent. Conditions: those stated. A round in memory; slices.Index and Contains of numbers; hear, isMost. Conditions: those stated. slices.IndexFunc and ContainsFunc over commands; wants, find. Conditions: those stated. A round: wants, find, copies of logs, Stage. Conditions: those stated. A round of the call's own; choose. Conditions: those stated. -/
import Derived.Test.YtnhnpfhfcbmmlaaVcA
import Derived.Test.YtnhnpfhfcbmmlaaVbK
import Derived.Laws.AppendOwnNone
import Derived.Laws.Rows
import Derived.Deep.LoopGhost
import Derived.Deep.RegionHeld3
import Derived.OrdersHeld
import Derived.Shelf.Abstract
import Derived.Test.YtnhnpfhfcbmmlaaQStB
import Derived.Maps.AppendAt
import Derived.Deep.RegionLaw
namespace Go.Proofs.Ytnhnpfhfcbmmlaa
open Go Go.RowKit
set_option linter.unusedVariables false
set_option linter.unusedSimpArgs false

/-- The managers of the first n that haven't answered. -/
def silN (bs : List Bool) (n : Nat) : List Int := ((List.range n).filter (fun k => !bs.getD k false)).map (fun k : Nat => 16 + (k : Int))
theorem silN_zero (bs : List Bool) : silN bs 0 = [] := rfl
theorem silN_more (bs : List Bool) (n : Nat) : silN bs (n + 1) = silN bs n ++ (if bs.getD n false then [] else [16 + (n : Int)]) := by
  unfold silN
  rw [List.range_succ, List.filter_append, List.map_append]
  cases h : bs.getD n false with
  | true => rw [List.filter_cons_of_neg (by rw [h]; decide)]; rfl
  | false => rw [List.filter_cons_of_pos (by rw [h]; rfl)]; rfl
theorem silN_len (bs : List Bool) : ∀ n, (silN bs n).length ≤ n
  | 0 => by simp [silN_zero]
  | n + 1 => by
    have := silN_len bs n
    rw [silN_more, List.length_append]
    cases bs.getD n false <;> simp <;> omega
theorem silN_mem (bs : List Bool) (n : Nat) (x : Int) : x ∈ silN bs n ↔ 16 ≤ x ∧ x < 16 + (n : Int) ∧ bs.getD (x - 16).toNat false = false := by
  unfold silN
  simp only [List.mem_map, List.mem_filter, List.mem_range, Bool.not_eq_true']
  constructor
  · rintro ⟨k, ⟨hk, h⟩, rfl⟩
    have e : (16 + (k : Int) - 16).toNat = k := by omega
    rw [e]
    exact ⟨by omega, by omega, h⟩
  · rintro ⟨h1, h2, h3⟩
    exact ⟨(x - 16).toNat, ⟨by omega, h3⟩, by omega⟩
theorem silN_fit (bs : List Bool) {n : Nat} (hn : n ≤ 8) : fitI (silN bs n) := by
  intro x hx
  have := (silN_mem bs n x).1 hx
  omega
/-- A round: how many managers, who has answered, its ballot, the wanted command, its stage, the greatest ballot told, the log. -/
structure Rd where
  n : Nat
  ans : List Bool
  b : Bl
  want : List Cm
  stage : Int
  gr : Bl
  log : List Cm
def none8 : List Bool := List.replicate 8 false
/-- The place of the wanted command. -/
def wantsC (want : List Cm) (c : Cm) : Bool := want.any (fun x => c.nm == x.nm)
/-- The first place of which it holds, or -1. -/
def idxC (p : Cm → Bool) : List Cm → Int
  | [] => -1
  | x :: l => if p x then 0 else (if idxC p l = -1 then -1 else idxC p l + 1)
theorem idxC_low (p : Cm → Bool) : ∀ l, -1 ≤ idxC p l ∧ idxC p l < l.length
  | [] => by simp [idxC]
  | x :: l => by
    have := idxC_low p l
    unfold idxC
    simp only [List.length_cons]
    split
    · omega
    · split <;> omega
theorem idxC_miss {p : Cm → Bool} : ∀ {l : List Cm}, (∀ j, j < l.length → p (l.getD j cm0) = false) → idxC p l = -1
  | [], _ => rfl
  | x :: l, h => by
    have h0 := h 0 (by simp)
    have h1 : idxC p l = -1 := idxC_miss (fun j hj => by have := h (j + 1) (by simp; omega); simpa using this)
    unfold idxC
    rw [h1]
    simp at h0
    simp [h0]
theorem idxC_hit {p : Cm → Bool} : ∀ {l : List Cm} {i : Nat}, i < l.length → (∀ j, j < i → p (l.getD j cm0) = false) → p (l.getD i cm0) = true → idxC p l = i
  | [], i, hi, _, _ => by simp at hi
  | x :: l, 0, _, _, h => by
    simp at h
    simp [idxC, h]
  | x :: l, i + 1, hi, hn, h => by
    have h0 := hn 0 (by omega)
    simp at h0
    have h1 := idxC_hit (p := p) (l := l) (i := i) (by simp at hi; omega) (fun j hj => by have := hn (j + 1) (by omega); simpa using this) (by simpa using h)
    unfold idxC
    rw [h1]
    simp only [h0, Bool.false_eq_true, if_false]
    rw [if_neg (by omega)]
    omega
theorem idxC_none {p : Cm → Bool} {l : List Cm} : idxC p l = -1 ↔ ∀ x ∈ l, p x = false := by
  induction l with
  | nil => simp [idxC]
  | cons x l ih =>
    have := idxC_low p l
    unfold idxC
    cases hx : p x with
    | true => simp [hx]
    | false =>
      simp only [Bool.false_eq_true, if_false, List.mem_cons, forall_eq_or_imp, hx, true_and]
      rw [← ih]
      split <;> omega
def findR (r : Rd) : Int := 1 + idxC (wantsC r.want) r.log
/-- More than half of the crowd have answered. -/
def Most (r : Rd) : Prop := 2 * ((r.n : Int) - ((silN r.ans r.n).length : Int)) > (r.n : Int)
instance (r : Rd) : Decidable (Most r) := by unfold Most; infer_instance
/-- The stage Ask ends. -/
def chosenL (r : Rd) : List Cm := if findR r = 0 then r.log ++ r.want else r.log
def chooseR (r : Rd) : Rd := { r with log := chosenL r, stage := if (chosenL r).length > 256 then 4 else 2, ans := none8 }
/-- Who answers. -/
def heard (r : Rd) (node : Int) : Rd := { r with ans := r.ans.set (node - 16).toNat true }
def greater (r : Rd) (acc : Bl) (lg : List Cm) : Rd := if LtB r.gr acc then { r with gr := acc, log := lg } else r
def promR (r : Rd) (node : Int) (acc : Bl) (lg : List Cm) : Rd :=
  if r.stage = 1 ∧ GoodL lg ∧ node ∈ silN r.ans r.n then
    (if Most (greater (heard r node) acc lg) then chooseR (greater (heard r node) acc lg) else greater (heard r node) acc lg)
  else r
def accR (r : Rd) (node : Int) : Rd :=
  if r.stage = 2 ∧ node ∈ silN r.ans r.n then
    (if Most (heard r node) then { heard r node with stage := 3 } else heard r node)
  else r
/-- What a round is in any stage. -/
structure OkR (r : Rd) : Prop where
  n : 1 ≤ r.n ∧ r.n ≤ 8
  len : r.ans.length = 8
  b : TyB r.b
  gr : TyB r.gr
  one : r.want.length ≤ 1
  wgood : GoodL r.want
  wty : ∀ x ∈ r.want, TyC x
  lty : ∀ x ∈ r.log, TyC x
  few : r.log.length ≤ 257
  es : ∀ x ∈ r.log, x.es.length ≤ 64
  st : 1 ≤ r.stage ∧ r.stage ≤ 4
  ask : r.stage = 1 → GoodL r.log
theorem OkR.wes {r : Rd} (h : OkR r) : ∀ x ∈ r.want, x.es.length ≤ 64 := fun x hx => goodC_es (h.wgood.2.1 x hx)
theorem OkR.heard {r : Rd} (h : OkR r) (node : Int) : OkR (heard r node) :=
  ⟨h.n, by unfold Go.Proofs.Ytnhnpfhfcbmmlaa.heard; simp [h.len], h.b, h.gr, h.one, h.wgood, h.wty, h.lty, h.few, h.es, h.st, h.ask⟩
theorem OkR.greater {r : Rd} (h : OkR r) {acc : Bl} (ha : TyB acc) {lg : List Cm} (hg : GoodL lg) (ht : ∀ x ∈ lg, TyC x) : OkR (greater r acc lg) := by
  unfold Go.Proofs.Ytnhnpfhfcbmmlaa.greater
  split
  · exact ⟨h.n, h.len, h.b, ha, h.one, h.wgood, h.wty, ht, by have := hg.1; simp only; omega, fun x hx => goodC_es (hg.2.1 x hx), h.st, fun _ => hg⟩
  · exact h
theorem chosenL_mem {r : Rd} {x : Cm} (h : x ∈ chosenL r) : x ∈ r.log ∨ x ∈ r.want := by
  unfold chosenL at h
  split at h
  · exact List.mem_append.1 h
  · exact .inl h
theorem OkR.choose {r : Rd} (h : OkR r) (hl : r.log.length ≤ 256) : OkR (chooseR r) := by
  refine ⟨h.n, rfl, h.b, h.gr, h.one, h.wgood, h.wty, fun x hx => ?_, ?_, fun x hx => ?_, ?_, fun e => ?_⟩
  · rcases chosenL_mem hx with h2 | h2
    · exact h.lty x h2
    · exact h.wty x h2
  · show (chosenL r).length ≤ 257
    have := h.one
    unfold chosenL
    split
    · rw [List.length_append]; omega
    · omega
  · rcases chosenL_mem hx with h2 | h2
    · exact h.es x h2
    · exact h.wes x h2
  · show 1 ≤ (if (chosenL r).length > 256 then (4 : Int) else 2) ∧ (if (chosenL r).length > 256 then (4 : Int) else 2) ≤ 4
    split <;> omega
  · have e2 : (if (chosenL r).length > 256 then (4 : Int) else 2) = 1 := e
    split at e2 <;> omega
theorem greater_stage (r : Rd) (acc : Bl) (lg : List Cm) : (greater r acc lg).stage = r.stage ∧ (greater r acc lg).want = r.want ∧ (greater r acc lg).n = r.n ∧ (greater r acc lg).ans = r.ans ∧ (greater r acc lg).b = r.b := by
  unfold greater
  split <;> exact ⟨rfl, rfl, rfl, rfl, rfl⟩
theorem OkR.prom {r : Rd} (h : OkR r) {acc : Bl} (ha : TyB acc) (node : Int) {lg : List Cm} (ht : ∀ x ∈ lg, TyC x) : OkR (promR r node acc lg) := by
  unfold promR
  split
  · rename_i h1
    have h2 := (h.heard node).greater ha h1.2.1 ht
    split
    · exact h2.choose (h2.ask (by rw [(greater_stage _ _ _).1]; exact h1.1)).1
    · exact h2
  · exact h
theorem OkR.acc {r : Rd} (h : OkR r) (node : Int) : OkR (accR r node) := by
  unfold accR
  split
  · have h2 := h.heard node
    split
    · exact ⟨h2.n, h2.len, h2.b, h2.gr, h2.one, h2.wgood, h2.wty, h2.lty, h2.few, h2.es, by simp, fun e => by simp at e⟩
    · exact h2
  · exact h
end Go.Proofs.Ytnhnpfhfcbmmlaa
namespace Go.Proofs.Ytnhnpfhfcbmmlaa
open Go Go.RowKit
set_option linter.unusedVariables false
set_option linter.unusedSimpArgs false

/-- A crowd in memory. -/
structure CwAt (w : World) (p n : Nat) (bs : List Bool) : Prop where
  len : bs.length = 8
  sz : w.cell? ⟨p, 0, none⟩ = some (.int .i64 n)
  ans : ∀ k, k < 8 → w.cell? ⟨p, 1 + k, none⟩ = some (.bool (bs.getD k false))
theorem CwAt.below {w w' : World} {p n : Nat} {bs : List Bool} (h : CwAt w p n bs) (hb : Below w.heap.size w w') : CwAt w' p n bs :=
  ⟨h.len, cell_later hb h.sz, fun k hk => cell_later hb (h.ans k hk)⟩
/-- A row of numbers in new memory. -/
def GotI (w : World) (l : List Int) (e : Ending) (w' : World) : Prop := (∃ ao c, e = .returned (.slice ao l.length c) ∧ w'.ownsRow w.heap.size 3 1 (.slice ao l.length c) l.length (i64s l)) ∧ Below w.heap.size w w'
set_option maxRecDepth 100000 in
set_option maxHeartbeats 4000000 in
theorem silent_c (w : World) (p n : Nat) (bs : List Bool) (h : CwAt w p n bs) (hn : n ≤ 8) :
    Calls Try.prog 99 #[.pointer (some ⟨p, 0, none⟩)] w (GotI w (silN bs n)) := by
  obtain ⟨i0, hi0, hz0, hz1, hz2⟩ := info_parts info3
  have hp0 : ((some (⟨p, 0, none⟩ : Addr)) == none) = false := rfl
  have H := Lib.hid h
  have c0 := h.sz
  have S0 : Hid (∃ ao nn c, (Value.slice none 0 0 = .slice ao nn c) ∧ nn = (silN bs 0).length ∧ w.ownsRow w.heap.size 3 1 (.slice ao nn c) nn (i64s (silN bs 0))) := Lib.hid ⟨none, 0, 0, rfl, rfl, ⟨rfl, .inl ⟨rfl, rfl⟩⟩⟩
  have HB0 := Lib.hid (Below.refl w.heap.size w)
  clear h
  go_enter Try.func99, Try.ntmps99
  go_wp2
  clear c0
  go_loopw [3, 4, 9] (fun rv _ iv wr => ∃ i : Nat, i ≤ n ∧ iv = .int .i64 i ∧ Hid (∃ ao nn c, rv = .slice ao nn c ∧ nn = (silN bs i).length ∧ wr.ownsRow w.heap.size 3 1 (.slice ao nn c) nn (i64s (silN bs i))) ∧ Hid (Below w.heap.size w wr)) (fun _ _ iv _ => n - (intOf iv).toNat)
  case atStart => exact ⟨0, by omega, rfl, S0, HB0⟩
  case round =>
    obtain ⟨i, hi, rfl, HS, HB⟩ := hrel
    obtain ⟨w2, rfl⟩ : ∃ v, v = wr := ⟨_, rfl⟩
    clear S0 HB0
    obtain ⟨ao, nn, cm, erv, hnn, hO⟩ := HS.out
    subst erv
    clear HS
    by_cases hlt : i < n
    · have ii : (i : Int) < (n : Int) := by omega
      have i0' : (0 : Int) ≤ (i : Int) := by omega
      have i8 : (i : Int) < 8 := by omega
      have cI := (H.out.below HB.out).ans i (by omega)
      have hmore := silN_more bs i
      obtain ⟨z, hz⟩ : ∃ z, z = bs.getD i false := ⟨_, rfl⟩
      rw [← hz] at cI hmore
      have hln := silN_len bs i
      rw [← hnn] at hln
      have HNN := Lib.hid hnn
      have HO := Lib.hid hO
      have HM := Lib.hid hmore
      clear hz hmore hnn hO
      cases z with
      | true =>
        have HF : Hid (∃ ao2 n2 c, (Value.slice ao nn cm) = .slice ao2 n2 c ∧ n2 = (silN bs (i + 1)).length ∧ w2.ownsRow w.heap.size 3 1 (.slice ao2 n2 c) n2 (i64s (silN bs (i + 1)))) := Lib.hid (by
          rw [HM.out]
          simp only [if_true, List.append_nil]
          exact ⟨ao, nn, cm, rfl, HNN.out, HO.out⟩)
        go_wp2
        go_roundw
        case rel => exact ⟨i + 1, by omega, by go_num, HF, HB⟩
        case measure => simp [intOf]; omega
      | false =>
        have hws : w.heap.size ≤ (w2.alloc (.cells #[.int .i64 (16 + (i : Int))] 3)).heap.size := by have := HB.out.size; simp; omega
        have HN := Lib.hid (one_new w2 (.int .i64 (16 + (i : Int))) 3)
        go_upto_region 6 with fail
        go_wp2_with (at_builtin; refine wpList_append_own _ rfl (.tmp 19) (.tmp 22) 98 rfl w.heap.size 3 i0 (.int .i64 0) 1 8 Try.underlying98 hi0 hz0 hz1 hz2 rfl (by decide) _ nn (i64s (silN bs i)) rfl (HO.out.alloc _) ⟨w2.heap.size, 0, none⟩ 1 1 [.int .i64 (16 + (i : Int))] rfl rfl HN.out (by simp [Value.oneCell']) (by unfold maxLen; omega) (by omega) hws ?_)
        intro v8 w8 hown8 hg8 _
        obtain ⟨a8, c8, rfl⟩ := own_form hown8
        have HF : Hid (∃ ao2 n2 c, (Value.slice a8 (nn + 1) c8) = .slice ao2 n2 c ∧ n2 = (silN bs (i + 1)).length ∧ w8.ownsRow w.heap.size 3 1 (.slice ao2 n2 c) n2 (i64s (silN bs (i + 1)))) := Lib.hid (by
          have e : silN bs (i + 1) = silN bs i ++ [16 + (i : Int)] := HM.out
          have el : nn + 1 = (silN bs (i + 1)).length := by rw [e, List.length_append, ← HNN.out]; rfl
          refine ⟨a8, nn + 1, c8, rfl, el, ?_⟩
          rw [e, ← i64s_app]
          exact hown8)
        have HB8 : Hid (Below w.heap.size w w8) := Lib.hid ((HB.out.alloc HB.out.size _).grown hg8 (by have := HB.out.size; simp; omega) (fun k hk => (HO.out.lt k hk).1))
        clear hown8 hg8
        go_wp2
        go_roundw
        case rel => exact ⟨i + 1, by omega, by go_num, HF, HB8⟩
        case measure => simp [intOf]; omega
    · have ii : ¬ (i : Int) < (n : Int) := by omega
      obtain rfl : i = n := by omega
      have HF : Hid (GotI w (silN bs i) (.returned (.slice ao nn cm)) w2) := Lib.hid ⟨⟨ao, cm, by rw [hnn], by rw [hnn] at hO; exact hO⟩, HB.out⟩
      clear hO hnn
      go_wp2
      go_ret
      exact HF.out
end Go.Proofs.Ytnhnpfhfcbmmlaa
namespace Go.Proofs.Ytnhnpfhfcbmmlaa
open Go Go.RowKit
set_option linter.unusedVariables false
set_option linter.unusedSimpArgs false

def IdxI (x : Int) (l : List Int) (k : Int) : Prop := decide (0 ≤ k) = decide (x ∈ l)
set_option maxRecDepth 100000 in
set_option maxHeartbeats 2000000 in
theorem indexI_c (l : List Int) (x : Int) (a : Option Addr) (n c : Nat) (w : World) (hI : InI w a n c l) (hn : n ≤ 4611686018427387904) :
    Calls Try.prog 130 #[.slice a n c, .int .i64 x] w fun e w' => (∃ k : Int, e = .returned (.int .i64 k) ∧ IdxI x l k) ∧ Below w.heap.size w w' := by
  have hlen := hI.len
  have hroom := hI.room
  have HI := Lib.hid hI
  have F0 : Hid (x ∉ l.take 0) := Lib.hid (by simp)
  have HN : Hid (l.take n = l) := Lib.hid (List.take_of_length_le (by omega))
  clear hI
  go_enter Try.func130, Try.ntmps130
  go_wp2
  go_loopg [5, 8] n (fun gg _ s8 wr => ∃ i : Nat, i ≤ n ∧ n - i ≤ gg ∧ s8 = .int .i64 i ∧ Hid (x ∉ l.take i) ∧ Hid (Below w.heap.size w wr))
  case atStart => exact ⟨0, by omega, by omega, rfl, F0, Lib.hid (Below.refl _ _)⟩
  case round =>
    obtain ⟨i, hi, hgg, rfl, HF, HB⟩ := hrel
    obtain ⟨w2, rfl⟩ : ∃ v, v = wr := ⟨_, rfl⟩
    clear F0
    by_cases hlt : i < n
    · have ii : (i : Int) < (n : Int) := by omega
      have i0 : (0 : Int) ≤ (i : Int) := by omega
      have ic : (i : Int) ≤ (c : Int) := by omega
      obtain ⟨b, off, rfl⟩ := in_blockI HI.out (by omega)
      have hx := in_cellI (HI.out.below HB.out) i hlt
      have HM : Hid (l.take (i + 1) = l.take i ++ [l.getD i 0] ∧ l.getD i 0 ∈ l) := Lib.hid ⟨take_more l 0 (by omega), by rw [List.getD_eq_getElem?_getD, List.getElem?_eq_getElem (by omega)]; exact List.getElem_mem _⟩
      obtain ⟨y, ey⟩ : ∃ y, y = l.getD i 0 := ⟨_, rfl⟩
      rw [← ey] at hx HM
      clear ey
      by_cases hq : x = y
      · have HR : IdxI x l i := (by
          unfold IdxI
          rw [decide_eq_true i0, decide_eq_true (by rw [hq]; exact HM.out.2)])
        go_wp2
        go_ret
        exact ⟨⟨i, rfl, HR⟩, HB.out⟩
      · have HF2 : Hid (x ∉ l.take (i + 1)) := Lib.hid (by
          rw [HM.out.1]
          simp only [List.mem_append, List.mem_singleton, not_or]
          exact ⟨HF.out, hq⟩)
        go_wp2
        go_roundg (n - (i + 1))
        case measure => omega
        case rel => exact ⟨i + 1, by omega, by omega, by go_num, HF2, HB⟩
    · have ii : ¬ (i : Int) < (n : Int) := by omega
      obtain rfl : i = n := by omega
      have HR : IdxI x l (-1) := (by
        unfold IdxI
        have h := HF.out
        rw [HN.out] at h
        rw [decide_eq_false h]
        rfl)
      go_wp2
      go_ret
      exact ⟨⟨-1, rfl, HR⟩, HB.out⟩
set_option maxRecDepth 100000 in
theorem containsI_c (l : List Int) (x : Int) (a : Option Addr) (n c : Nat) (w : World) (hI : InI w a n c l) (hn : n ≤ 4611686018427387904) :
    Calls Try.prog 119 #[.slice a n c, .int .i64 x] w fun e w' => e = .returned (.bool (decide (x ∈ l))) ∧ Below w.heap.size w w' := by
  have C := Lib.hid (indexI_c l x a n c w hI hn)
  clear hI
  go_enter Try.func119, Try.ntmps119
  go_wp2_with fail
  refine C.out.mono ?_
  rintro e w1 ⟨⟨k, rfl, hk⟩, hb⟩
  have HB := Lib.hid hb
  have HK : Hid (decide (0 ≤ k) = decide (x ∈ l)) := Lib.hid hk
  clear hb hk C
  go_wp2
  go_ret
  exact ⟨by rw [← HK.out]; rfl, HB.out⟩
abbrev tyR : TypeId := 166
/-- A round's cells. -/
def rnL (r : Rd) (u v : Value) : List Value := .int .i64 r.n :: (r.ans.map Value.bool ++ [.int .i64 r.b.n, .int .i64 r.b.node, u, .int .i64 r.stage, .int .i64 r.gr.n, .int .i64 r.gr.node, v])
def ROb (w : World) (p : Nat) (r : Rd) (u v : Value) : Prop := w.heap[p]? = some (.cells (rnL r u v).toArray tyR (0, 0))
section
variable {w w' : World} {p : Nat} {r : Rd} {u v : Value}
theorem ROb.at (h : ROb w p r u v) (i : Nat) : w.cell? ⟨p, i, none⟩ = (rnL r u v)[i]? := by
  rw [cell_of_row w p i _ _ _ h, List.getElem?_toArray]
theorem ROb.free (h : ROb w p r u v) (o : Nat) : w.frozen? ⟨p, o, none⟩ = false := frozen_of_row w p o _ _ h
theorem ROb.lt (h : ROb w p r u v) : p < w.heap.size := lt_of_block h
theorem ROb.below (h : ROb w p r u v) (hb : Below w.heap.size w w') : ROb w' p r u v := (hb.block p h.lt).trans h
theorem ROb.kpt {K : Nat → Prop} (h : ROb w p r u v) (hk : Kpt K w w') (hK : K p) : ROb w' p r u v := (hk p hK).trans h
theorem rnL_ans (h8 : r.ans.length = 8) {k : Nat} (hk : k < 8) : (rnL r u v)[1 + k]? = some (.bool (r.ans.getD k false)) := by
  unfold rnL
  rw [Nat.add_comm, List.getElem?_cons_succ, List.getElem?_append_left (by simp; omega), List.getElem?_map, List.getElem?_eq_getElem (by omega), List.getD_eq_getElem?_getD, List.getElem?_eq_getElem (by omega)]
  rfl
theorem rnL_rest (h8 : r.ans.length = 8) (i : Nat) : (rnL r u v)[9 + i]? = ([.int .i64 r.b.n, .int .i64 r.b.node, u, .int .i64 r.stage, .int .i64 r.gr.n, .int .i64 r.gr.node, v] : List Value)[i]? := by
  unfold rnL
  rw [show 9 + i = (8 + i) + 1 from by omega, List.getElem?_cons_succ, List.getElem?_append_right (by simp; omega)]
  simp [h8]
theorem ROb.cw (h : ROb w p r u v) (h8 : r.ans.length = 8) : CwAt w p r.n r.ans :=
  ⟨h8, h.at 0, fun k hk => by rw [h.at, rnL_ans h8 hk]⟩
/-- The cells behind the crowd. -/
structure RCs (w : World) (p : Nat) (r : Rd) (u v : Value) : Prop where
  c9 : w.cell? ⟨p, 9, none⟩ = some (.int .i64 r.b.n)
  c10 : w.cell? ⟨p, 10, none⟩ = some (.int .i64 r.b.node)
  c11 : w.cell? ⟨p, 11, none⟩ = some u
  c12 : w.cell? ⟨p, 12, none⟩ = some (.int .i64 r.stage)
  c13 : w.cell? ⟨p, 13, none⟩ = some (.int .i64 r.gr.n)
  c14 : w.cell? ⟨p, 14, none⟩ = some (.int .i64 r.gr.node)
  c15 : w.cell? ⟨p, 15, none⟩ = some v
theorem ROb.cs (h : ROb w p r u v) (h8 : r.ans.length = 8) : RCs w p r u v :=
  ⟨by rw [h.at, rnL_rest h8 0]; rfl, by rw [h.at, rnL_rest h8 1]; rfl, by rw [h.at, rnL_rest h8 2]; rfl, by rw [h.at, rnL_rest h8 3]; rfl, by rw [h.at, rnL_rest h8 4]; rfl, by rw [h.at, rnL_rest h8 5]; rfl, by rw [h.at, rnL_rest h8 6]; rfl⟩
theorem ROb.put (h : ROb w p r u v) (i : Nat) (x : Value) {r2 : Rd} {u2 v2 : Value} (e : (rnL r u v).set i x = rnL r2 u2 v2) : ROb (w.setCell ⟨p, i, none⟩ x) p r2 u2 v2 := by
  have h2 := heap_setCell_same w p i _ _ x h
  unfold ROb
  rw [h2, ← e]
  simp
theorem rnL_set (h8 : r.ans.length = 8) {k : Nat} (hk : k < 8) : (rnL r u v).set (1 + k) (.bool true) = rnL { r with ans := r.ans.set k true } u v := by
  unfold rnL
  rw [Nat.add_comm, List.set_cons_succ, List.set_append_left _ _ (by simp; omega)]
  simp only [List.map_set]
end
/-- What hear does. -/
structure HrO (w : World) (p : Nat) (r : Rd) (node : Int) (e : Ending) (w' : World) : Prop where
  yes : node ∈ silN r.ans r.n → e = .returned (.bool true) ∧ ∃ w1, Below w.heap.size w w1 ∧ w' = w1.setCell ⟨p, 1 + (node - 16).toNat, none⟩ (.bool true)
  no : node ∉ silN r.ans r.n → e = .returned (.bool false) ∧ Below w.heap.size w w'
set_option maxRecDepth 100000 in
set_option maxHeartbeats 2000000 in
theorem hearC_c (w : World) (p : Nat) (r : Rd) (u v : Value) (node : Int) (h : ROb w p r u v) (ho : OkR r) :
    Calls Try.prog 95 #[.pointer (some ⟨p, 0, none⟩), .int .i64 node] w (HrO w p r node) := by
  have hp0 : ((some (⟨p, 0, none⟩ : Addr)) == none) = false := rfl
  have CS := Lib.hid (silent_c w p r.n r.ans (h.cw ho.len) ho.n.2)
  have H := Lib.hid h
  have HO := Lib.hid ho
  clear h ho
  go_enter Try.func95, Try.ntmps95
  go_wp2_with fail
  refine CS.out.mono ?_
  rintro e w1 ⟨⟨ao, c, rfl, hO⟩, hb1⟩
  have hI := own_inI hO rfl (silN_fit r.ans HO.out.n.2)
  have CC := Lib.hid (containsI_c (silN r.ans r.n) node ao _ c w1 hI (by have := silN_len r.ans r.n; have := HO.out.n.2; omega))
  have HB1 := Lib.hid hb1
  clear hO hb1 hI CS
  obtain ⟨l, hl⟩ : ∃ l, l = silN r.ans r.n := ⟨_, rfl⟩
  rw [← hl] at CC ⊢
  have HL := Lib.hid hl
  clear hl
  go_wp2_with fail
  refine CC.out.mono ?_
  rintro e w2 ⟨rfl, hb2⟩
  have HB2 := Lib.hid (bl_tr HB1.out hb2)
  clear hb2 CC
  by_cases hm : node ∈ l
  · have hd : decide (node ∈ l) = true := decide_eq_true hm
    have hr := (silN_mem r.ans r.n node).1 (by rw [← HL.out]; exact hm)
    have hn8 := HO.out.n.2
    obtain ⟨k, hk⟩ : ∃ k : Nat, k = (node - 16).toNat := ⟨_, rfl⟩
    have hk8 : k < 8 := by omega
    have hkn : node - 16 = (k : Int) := by omega
    have hR2 := H.out.below HB2.out
    have cI := (hR2.cw HO.out.len).ans k hk8
    have fI := hR2.free (1 + k)
    have i0 : (0 : Int) ≤ (k : Int) := by omega
    have i8 : (k : Int) < 8 := by omega
    have hw : ∀ [Inhabited Nat], IntKind.i64.wrap (node - 16) = (k : Int) := by intro _; rw [hkn]; exact IntWalk.i64_in _ (by omega)
    have HF : Hid (HrO w p r node (.returned (.bool true)) (w2.setCell ⟨p, 1 + k, none⟩ (.bool true))) := Lib.hid ⟨fun _ => ⟨rfl, w2, HB2.out, by rw [hk]⟩, fun hno => absurd hm (by rw [HL.out]; exact hno)⟩
    rw [hd]
    clear hr hk hR2 hm hd
    go_wp2
    go_ret
    exact HF.out
  · have hd : decide (node ∈ l) = false := decide_eq_false hm
    have HF : Hid (HrO w p r node (.returned (.bool false)) w2) := Lib.hid ⟨fun hy => absurd (by rw [HL.out]; exact hy) hm, fun _ => ⟨rfl, HB2.out⟩⟩
    rw [hd]
    clear hm hd
    go_wp2
    go_ret
    exact HF.out
set_option maxRecDepth 100000 in
set_option maxHeartbeats 2000000 in
theorem isMost_c (w : World) (p : Nat) (r : Rd) (u v : Value) (h : ROb w p r u v) (ho : OkR r) :
    Calls Try.prog 96 #[.pointer (some ⟨p, 0, none⟩)] w fun e w' => e = .returned (.bool (decide (Most r))) ∧ Below w.heap.size w w' := by
  have hp0 : ((some (⟨p, 0, none⟩ : Addr)) == none) = false := rfl
  have c0 := (h.cw ho.len).sz
  have CS := Lib.hid (silent_c w.drew p r.n r.ans ((h.below (Below.refl _ _).drew).cw ho.len) ho.n.2)
  have hle := silN_len r.ans r.n
  have hn8 := ho.n.2
  have HM : Hid (decide (2 * ((r.n : Int) - ((silN r.ans r.n).length : Int)) > (r.n : Int)) = decide (Most r)) := Lib.hid (decide_eq_decide.2 Iff.rfl)
  obtain ⟨k, hk⟩ : ∃ k, k = (silN r.ans r.n).length := ⟨_, rfl⟩
  obtain ⟨n, hn⟩ : ∃ n, n = r.n := ⟨_, rfl⟩
  rw [← hk, ← hn] at HM
  rw [← hn] at c0 hn8
  rw [← hk, ← hn] at hle
  have HB0 := Lib.hid (show Below w.heap.size w w.drew from (Below.refl _ _).drew)
  have CS2 : Hid (Calls Try.prog 99 #[.pointer (some ⟨p, 0, none⟩)] w.drew fun e w' => (∃ ao c, e = .returned (.slice ao k c)) ∧ Below w.heap.size w w') := Lib.hid (CS.out.mono (fun e w' h => by
    obtain ⟨⟨ao, c, he, _⟩, hb⟩ := h
    exact ⟨⟨ao, c, by rw [he, hk]⟩, bl_tr HB0.out hb⟩))
  have hw1 : ∀ [Inhabited Nat], IntKind.i64.wrap ((n : Int) - (k : Int)) = (n : Int) - (k : Int) := by intro _; exact IntWalk.i64_in _ (by omega)
  have hw2 : ∀ [Inhabited Nat], IntKind.i64.wrap (2 * ((n : Int) - (k : Int))) = 2 * ((n : Int) - (k : Int)) := by intro _; exact IntWalk.i64_in _ (by omega)
  clear h ho CS hk hn
  go_enter Try.func96, Try.ntmps96
  go_upto_region 1 with fail
  have hS0 : w.drew.cell? ⟨p, 0, none⟩ = some (.int .i64 n) := c0
  go_region_held3 (fun wx => wx.cell? ⟨p, 0, none⟩ = some (.int .i64 n)) (first | (with_reducible exact hS0) | (with_reducible assumption) | fail)
    (first
      | (go_at_call 99; (with_reducible refine CS2.out.mono ?_); rintro e w2 ⟨⟨ao, c, rfl⟩, hb2⟩; have hS1 := (show w2.cell? ⟨p, 0, none⟩ = some (.int .i64 n) from cell_later hb2 c0))
      | fail)
  all_goals
    have HB2 := Lib.hid hb2
    clear hb2 hS0 hS1
    go_wp2
    go_ret
    exact ⟨by rw [← HM.out]; rfl, HB2.out⟩
end Go.Proofs.Ytnhnpfhfcbmmlaa
namespace Go.Proofs.Ytnhnpfhfcbmmlaa
open Go Go.RowKit
set_option linter.unusedVariables false
set_option linter.unusedSimpArgs false

/-- What a function value answers of commands, from a world on. -/
def PredC (g : Nat) (ba cb : Array Value) (p : Cm → Bool) (w : World) : Prop :=
  ∀ (W : World), Below w.heap.size w W → ∀ x (a : Option Addr) (n c : Nat), TyC x → Calls Try.prog g (ba.push (x.val (.slice a n c)) ++ cb) W fun e w' => e = .returned (.bool (p x)) ∧ Below W.heap.size W w'
theorem PredC.later {g : Nat} {ba cb : Array Value} {p : Cm → Bool} {w W : World} (h : PredC g ba cb p w) (hb : Below w.heap.size w W) : PredC g ba cb p W := fun W2 h2 x a n c hx => h W2 (bl_tr hb h2) x a n c hx
set_option maxRecDepth 100000 in
set_option maxHeartbeats 4000000 in
theorem indexC_c (p : Cm → Bool) (g : Nat) (ba cb : Array Value) (eg : ∀ args w, (callFunc g args).run Try.prog w = .ok (.enter g args) w) (ls : List Cm) (vs : List Value) (a : Option Addr) (n c : Nat) (w : World) (hI : InC w a n c ls vs) (hn : n ≤ 1048576) (hp : PredC g ba cb p w) :
    Calls Try.prog 120 #[.slice a n c, .func (.func g) ba cb] w fun e w' => e = .returned (.int .i64 (idxC p ls)) ∧ Below w.heap.size w w' := by
  have hlen := hI.len
  have hroom := hI.room
  have HI := Lib.hid hI
  have HP := Lib.hid hp
  have F0 : Hid (∀ j, j < 0 → p (ls.getD j cm0) = false) := Lib.hid (fun j hj => by omega)
  obtain ⟨R, hR⟩ : ∃ R, R = idxC p ls := ⟨_, rfl⟩
  rw [← hR]
  have HR := Lib.hid hR
  clear hI hp hR
  go_enter Try.func120, Try.ntmps120
  go_wp2
  go_loopg [5, 8] n (fun gg _ s8 wr => ∃ i : Nat, i ≤ n ∧ n - i ≤ gg ∧ s8 = .int .i64 i ∧ Hid (∀ j, j < i → p (ls.getD j cm0) = false) ∧ Hid (Below w.heap.size w wr))
  case atStart => exact ⟨0, by omega, by omega, rfl, F0, Lib.hid (Below.refl _ _)⟩
  case round =>
    obtain ⟨i, hi, hgg, rfl, HF, HB⟩ := hrel
    obtain ⟨w2, rfl⟩ : ∃ v, v = wr := ⟨_, rfl⟩
    clear F0
    by_cases hlt : i < n
    · have ii : (i : Int) < (n : Int) := by omega
      have i0 : (0 : Int) ≤ (i : Int) := by omega
      have ic : (i : Int) ≤ (c : Int) := by omega
      obtain ⟨b, off, rfl⟩ := HI.out.block (by omega)
      have hI2 := HI.out.below HB.out
      obtain ⟨k0, k1, k2, k3, k4, k5, k6, k7, k8, k9, k10, k11⟩ := hI2.cell hlt
      obtain ⟨a2, n2, c2, hv, hE⟩ := hI2.ends i hlt
      have ht := HI.out.ty hlt
      rw [hv] at k8
      have HH : Hid (p (ls.getD i cm0) = true → idxC p ls = i) := Lib.hid (fun e => idxC_hit (by omega) HF.out e)
      have HM : Hid (p (ls.getD i cm0) = false → ∀ j, j < i + 1 → p (ls.getD j cm0) = false) := Lib.hid (fun e j hj => by
        rcases Nat.lt_or_eq_of_le (Nat.lt_succ_iff.1 hj) with h | h
        · exact HF.out j h
        · rw [h]; exact e)
      obtain ⟨x, ex⟩ : ∃ x, x = ls.getD i cm0 := ⟨_, rfl⟩
      rw [← ex] at k0 k1 k2 k3 k4 k5 k6 k7 k9 k10 k11 ht HH HM
      have hc := HP.out w2 HB.out x a2 n2 c2 ht
      clear ex ht hv hE hI2
      cases hq : p x with
      | true =>
        rw [hq] at hc
        have HRR := Lib.hid (HH.out hq)
        clear hq HH HM
        go_wp2_with fail
        refine hc.mono ?_
        rintro e w' ⟨rfl, hb'⟩
        have HB2 := Lib.hid (bl_tr HB.out hb')
        clear hb' hc k0 k1 k2 k3 k4 k5 k6 k7 k8 k9 k10 k11
        go_wp2
        go_ret
        exact ⟨by rw [HR.out, HRR.out]; rfl, HB2.out⟩
      | false =>
        rw [hq] at hc
        have HF2 := Lib.hid (HM.out hq)
        clear hq HH HM
        go_wp2_with fail
        refine hc.mono ?_
        rintro e w' ⟨rfl, hb'⟩
        have HB2 := Lib.hid (bl_tr HB.out hb')
        clear hb' hc k0 k1 k2 k3 k4 k5 k6 k7 k8 k9 k10 k11
        go_wp2
        go_roundg (n - (i + 1))
        case measure => omega
        case rel => exact ⟨i + 1, by omega, by omega, by go_num, HF2, HB2⟩
    · have ii : ¬ (i : Int) < (n : Int) := by omega
      obtain rfl : i = n := by omega
      have HRR : Hid (idxC p ls = -1) := Lib.hid (idxC_miss (fun j hj => HF.out j (by omega)))
      go_wp2
      go_ret
      exact ⟨by rw [HR.out, HRR.out]; rfl, HB.out⟩
theorem any_idx (p : Cm → Bool) (l : List Cm) : decide (0 ≤ idxC p l) = l.any p := by
  have h1 := idxC_low p l
  have h2 := idxC_none (p := p) (l := l)
  cases h : l.any p with
  | true =>
    obtain ⟨x, hx, hp⟩ := List.any_eq_true.1 h
    have : idxC p l ≠ -1 := fun e => by have := h2.1 e x hx; rw [hp] at this; cases this
    exact decide_eq_true (by omega)
  | false =>
    have := h2.2 (fun x hx => by
      have := List.any_eq_false.1 h x hx
      simpa using this)
    exact decide_eq_false (by omega)
set_option maxRecDepth 100000 in
set_option maxHeartbeats 2000000 in
theorem containsC_c (p : Cm → Bool) (g : Nat) (ba cb : Array Value) (eg : ∀ args w, (callFunc g args).run Try.prog w = .ok (.enter g args) w) (ls : List Cm) (vs : List Value) (a : Option Addr) (n c : Nat) (w : World) (hI : InC w a n c ls vs) (hn : n ≤ 1048576) (hp : PredC g ba cb p w) :
    Calls Try.prog 131 #[.slice a n c, .func (.func g) ba cb] w fun e w' => e = .returned (.bool (ls.any p)) ∧ Below w.heap.size w w' := by
  have C := Lib.hid (indexC_c p g ba cb eg ls vs a n c w hI hn hp)
  have HK := Lib.hid (any_idx p ls)
  obtain ⟨k, hk⟩ : ∃ k, k = idxC p ls := ⟨_, rfl⟩
  rw [← hk] at C HK
  clear hI hp hk
  go_enter Try.func131, Try.ntmps131
  go_wp2_with fail
  refine C.out.mono ?_
  rintro e w1 ⟨rfl, hb⟩
  have HB := Lib.hid hb
  clear hb C
  go_wp2
  go_ret
  exact ⟨by rw [← HK.out]; rfl, HB.out⟩
set_option maxRecDepth 100000 in
set_option maxHeartbeats 2000000 in
/-- The closure in wants. -/
theorem wants1_c (x y : Cm) (hx : TyC x) (hy : TyC y) (q : Nat) (u : Value) (a : Option Addr) (n c : Nat) (w : World) (hq : BxC w q x u) :
    Calls Try.prog 132 #[y.val (.slice a n c), .pointer (some ⟨q, 0, none⟩)] w fun e w' => e = .returned (.bool (x.nm == y.nm)) ∧ Below w.heap.size w w' := by
  obtain ⟨w1, hw1⟩ : ∃ w1, w1 = w.alloc (y.obj (.slice a n c)) := ⟨_, rfl⟩
  have hb1 : Below w.heap.size w w1 := by rw [hw1]; exact bl_al (Below.refl _ _) _
  obtain ⟨d0, d1, d2, _⟩ := (hq.later hb1).at
  have hA := (bxC_new w y (.slice a n c)).at
  rw [← hw1] at hA
  obtain ⟨e0, e1, e2, _⟩ := hA
  obtain ⟨t, ht⟩ : ∃ t, t = w.heap.size := ⟨_, rfl⟩
  rw [← ht] at e0 e1 e2
  have HW := Lib.hid (And.intro hw1 ht)
  have HB := Lib.hid hb1
  have HR : Hid ((x.nm == y.nm) = (decide (x.node = y.node) && decide (x.boot = y.boot) && decide (x.seq = y.seq))) := Lib.hid (by
    unfold Cm.nm
    by_cases h0 : x.node = y.node <;> by_cases h1 : x.boot = y.boot <;> by_cases h2 : x.seq = y.seq <;> simp [h0, h1, h2])
  obtain ⟨R, hR⟩ : ∃ R, R = (x.nm == y.nm) := ⟨_, rfl⟩
  rw [← hR] at HR ⊢
  simp only [Nat.zero_add] at d0 d1 d2 e0 e1 e2
  clear hw1 hb1 ht hR hq hx hy
  go_enter Try.func132, Try.ntmps132
  go_upto_region 1 with fail
  rw [show w.alloc (y.obj (.slice a n c)) = w1 from HW.out.1.symm, ← HW.out.2]
  by_cases h0 : x.node = y.node
  · by_cases h1 : x.boot = y.boot
    · by_cases h2 : x.seq = y.seq
      · have HZ : Hid (R = true) := Lib.hid (by rw [HR.out]; simp [h0, h1, h2])
        rw [h0] at d0
        rw [h1] at d1
        rw [h2] at d2
        clear h0 h1 h2
        go_wp2
        go_ret
        exact ⟨by rw [HZ.out]; rfl, HB.out⟩
      · have HZ : Hid (R = false) := Lib.hid (by rw [HR.out]; simp [h2])
        have hs : (x.seq == y.seq) = false := by simp [h2]
        rw [h0] at d0
        rw [h1] at d1
        clear h0 h1
        go_wp2
        go_ret
        exact ⟨by rw [HZ.out, ← hs]; rfl, HB.out⟩
    · have HZ : Hid (R = false) := Lib.hid (by rw [HR.out]; simp [h1])
      rw [h0] at d0
      clear h0
      go_wp2
      go_ret
      exact ⟨by rw [HZ.out]; rfl, HB.out⟩
  · have HZ : Hid (R = false) := Lib.hid (by rw [HR.out]; simp [h0])
    go_wp2
    go_ret
    exact ⟨by rw [HZ.out]; rfl, HB.out⟩
end Go.Proofs.Ytnhnpfhfcbmmlaa
namespace Go.Proofs.Ytnhnpfhfcbmmlaa
open Go Go.RowKit
set_option linter.unusedVariables false
set_option linter.unusedSimpArgs false

theorem enWa : ∀ args w, (callFunc 121 args).run Try.prog w = .ok (.enter 121 args) w := enters_of Try.func121 (by kernel_rfl) rfl
theorem enW1 : ∀ args w, (callFunc 132 args).run Try.prog w = .ok (.enter 132 args) w := enters_of Try.func132 (by kernel_rfl) rfl
set_option maxRecDepth 100000 in
set_option maxHeartbeats 2000000 in
theorem wants_c (w : World) (p : Nat) (r : Rd) (v : Value) (a1 : Option Addr) (c1 : Nat) (v1 : List Value) (h : ROb w p r (.slice a1 r.want.length c1) v) (ho : OkR r) (hI : InC w a1 r.want.length c1 r.want v1) (x : Cm) (hx : TyC x) (a : Option Addr) (n c : Nat) :
    Calls Try.prog 121 #[.pointer (some ⟨p, 0, none⟩), x.val (.slice a n c)] w fun e w' => e = .returned (.bool (wantsC r.want x)) ∧ Below w.heap.size w w' := by
  have hp0 : ((some (⟨p, 0, none⟩ : Addr)) == none) = false := rfl
  obtain ⟨w1, hw1⟩ : ∃ w1, w1 = w.alloc (x.obj (.slice a n c)) := ⟨_, rfl⟩
  have hb1 : Below w.heap.size w w1 := by rw [hw1]; exact bl_al (Below.refl _ _) _
  have hA := bxC_new w x (.slice a n c)
  rw [← hw1] at hA
  obtain ⟨t, ht⟩ : ∃ t, t = w.heap.size := ⟨_, rfl⟩
  rw [← ht] at hA
  have HW := Lib.hid (And.intro hw1 ht)
  have HB := Lib.hid hb1
  have c11 := ((h.below hb1).cs ho.len).c11
  have CC := Lib.hid (containsC_c (fun y => x.nm == y.nm) 132 #[] #[.pointer (some ⟨t, 0, none⟩)] enW1 r.want v1 a1 r.want.length c1 w1 (hI.below hb1) (by have := ho.one; omega) (fun W hW y ay ny cy hy => wants1_c x y hx hy t (.slice a n c) ay ny cy W (hA.later hW)))
  obtain ⟨k, hk⟩ : ∃ k, k = r.want.length := ⟨_, rfl⟩
  rw [← hk] at c11 CC
  obtain ⟨R, hR⟩ : ∃ R, R = r.want.any (fun y => x.nm == y.nm) := ⟨_, rfl⟩
  rw [← hR] at CC
  have HR : Hid (wantsC r.want x = R) := Lib.hid (by rw [hR]; rfl)
  clear h ho hI hx hw1 hb1 hA ht hk hR
  go_enter Try.func121, Try.ntmps121
  go_upto_region 1 with fail
  rw [show w.alloc (.cells (x.arr (.slice a n c)) tyC) = w1 from HW.out.1.symm, ← HW.out.2]
  go_wp2_with fail
  refine CC.out.mono ?_
  rintro e w2 ⟨rfl, hb2⟩
  have HB2 := Lib.hid (bl_tr HB.out hb2)
  clear hb2 CC c11
  go_wp2
  go_ret
  exact ⟨by rw [HR.out]; rfl, HB2.out⟩
set_option maxRecDepth 100000 in
set_option maxHeartbeats 2000000 in
theorem find_c (w : World) (p : Nat) (r : Rd) (a1 a2 : Option Addr) (c1 c2 : Nat) (v1 v2 : List Value) (h : ROb w p r (.slice a1 r.want.length c1) (.slice a2 r.log.length c2)) (ho : OkR r) (hI : InC w a1 r.want.length c1 r.want v1) (hL : InC w a2 r.log.length c2 r.log v2) :
    Calls Try.prog 98 #[.pointer (some ⟨p, 0, none⟩)] w fun e w' => e = .returned (.int .i64 (findR r)) ∧ Below w.heap.size w w' := by
  have hp0 : ((some (⟨p, 0, none⟩ : Addr)) == none) = false := rfl
  have c15 := (h.cs ho.len).c15
  have CC := Lib.hid (indexC_c (wantsC r.want) 121 #[.pointer (some ⟨p, 0, none⟩)] #[] enWa r.log v2 a2 r.log.length c2 w hL (by have := ho.few; omega) (fun W hW y ay ny cy hy => wants_c W p r _ a1 c1 v1 (h.below hW) ho (hI.below hW) y hy ay ny cy))
  have hlow := idxC_low (wantsC r.want) r.log
  have hfew := ho.few
  obtain ⟨k, hk⟩ : ∃ k, k = r.log.length := ⟨_, rfl⟩
  rw [← hk] at c15 CC hlow hfew
  obtain ⟨R, hR⟩ : ∃ R, R = idxC (wantsC r.want) r.log := ⟨_, rfl⟩
  rw [← hR] at CC hlow
  have HR : Hid (findR r = 1 + R) := Lib.hid (by rw [hR]; rfl)
  have hw1 : ∀ [Inhabited Nat], IntKind.i64.wrap (1 + R) = 1 + R := by intro _; exact IntWalk.i64_in _ (by omega)
  clear h ho hI hL hk hR
  go_enter Try.func98, Try.ntmps98
  go_wp2_with fail
  refine CC.out.mono ?_
  rintro e w2 ⟨rfl, hb2⟩
  have HB2 := Lib.hid hb2
  clear hb2 CC c15
  go_wp2
  go_ret
  exact ⟨by rw [HR.out]; rfl, HB2.out⟩
set_option maxRecDepth 100000 in
set_option maxHeartbeats 4000000 in
theorem copyK_c (ls : List Cm) (vs : List Value) (a : Option Addr) (n c : Nat) (w : World) (hI : InC w a n c ls vs) (hn : n ≤ 1048576) (hes : ∀ x ∈ ls, x.es.length ≤ 1048576) :
    Calls Try.prog 94 #[.slice a n c] w (GotC w ls) := by
  obtain ⟨j0, hj0, hy0, hy1, hy2⟩ := info_parts infoE
  obtain ⟨i0, hi0, hz0, hz1, hz2⟩ := info_parts infoC
  have hlen := hI.len
  have hroom := hI.room
  have HI := Lib.hid hI
  have HES := Lib.hid hes
  have S0 : Hid (∃ ao c vs, (Value.slice none 0 0 = .slice ao 0 c) ∧ OwC w w.heap.size (ls.take 0) ao c vs) := Lib.hid ⟨none, 0, [], rfl, owC_nil w _⟩
  have HB0 := Lib.hid (Below.refl w.heap.size w)
  clear hI hes
  go_enter Try.func94, Try.ntmps94
  go_wp2
  go_loopw [3, 5, 8] (fun rv _ iv wr => ∃ i : Nat, i ≤ n ∧ iv = .int .i64 i ∧ Hid (∃ ao c vs, rv = .slice ao i c ∧ OwC wr w.heap.size (ls.take i) ao c vs) ∧ Hid (Below w.heap.size w wr)) (fun _ _ iv _ => n - (intOf iv).toNat)
  case atStart => exact ⟨0, by omega, rfl, S0, HB0⟩
  case round =>
    obtain ⟨i, hi, rfl, HS, HB⟩ := hrel
    obtain ⟨w3, rfl⟩ : ∃ v, v = wr := ⟨_, rfl⟩
    clear S0 HB0
    obtain ⟨ao, cm, vm, erv, hO⟩ := HS.out
    subst erv
    clear HS
    have hlt3 : w.heap.size ≤ w3.heap.size := HB.out.size
    by_cases hlt : i < n
    · have ii : (i : Int) < (n : Int) := by omega
      have i0' : (0 : Int) ≤ (i : Int) := by omega
      have ic : (i : Int) ≤ (c : Int) := by omega
      have hI2 := HI.out.below HB.out
      obtain ⟨b1, o1, rfl⟩ := HI.out.block (by omega)
      obtain ⟨k0, k1, k2, k3, k4, k5, k6, k7, k8, k9, k10, k11⟩ := hI2.cell hlt
      obtain ⟨a2, n2, c2, hv, hE⟩ := hI2.ends i hlt
      have ht := HI.out.ty hlt
      rw [hv] at k8
      have hmem := memC (ls := ls) (i := i) (by omega)
      have HTK : Hid (ls.take (i + 1) = ls.take i ++ [ls.getD i cm0] ∧ (ls.take i).length = i) := Lib.hid ⟨take_moreC ls (i := i) (by omega), by rw [List.length_take]; omega⟩
      obtain ⟨x, hx⟩ : ∃ x, x = ls.getD i cm0 := ⟨_, rfl⟩
      rw [← hx] at k0 k1 k2 k3 k4 k5 k6 k7 k9 k10 k11 hE ht hmem HTK
      have hn2 : n2 ≤ 1048576 := by rw [← hE.len]; exact HES.out x hmem
      have hel := hE.len
      have HEL := Lib.hid hel
      obtain ⟨w4, hw4⟩ : ∃ w4, w4 = w3.alloc (x.obj (.slice a2 n2 c2)) := ⟨_, rfl⟩
      have hA := bxC_new w3 x (.slice a2 n2 c2)
      have hb4 : Below w3.heap.size w3 w4 := by rw [hw4]; exact bl_al (Below.refl _ _) _
      have hs4 : w4.heap.size = w3.heap.size + 1 := by rw [hw4]; simp
      obtain ⟨p4, hp4⟩ : ∃ p4, p4 = w3.heap.size := ⟨_, rfl⟩
      rw [← hp4, ← hw4] at hA
      have HP4 : Hid (p4 = w3.heap.size ∧ w4.heap.size = p4 + 1 ∧ w.heap.size ≤ p4) := Lib.hid ⟨hp4, by omega, by omega⟩
      have HW4 := Lib.hid (And.intro hw4 hp4)
      have HB4 := Lib.hid (bl_tr HB.out hb4)
      have HO4 := Lib.hid (hO.later hb4)
      have HE4 := Lib.hid (hE.below hb4)
      have HA4 := Lib.hid hA
      have HBLT := Lib.hid hO.own
      have HOB : Hid (∀ g, (Value.slice ao i cm).ownBlock = some g → g < p4) := Lib.hid (fun g hg => by have := (hO.own.lt g (by rw [HTK.out.2]; exact hg)).2; omega)
      have HVB : Hid (∀ j, j < (ls.take i).length → ∀ g, (vm.getD j undef).ownBlock = some g → g < p4) := Lib.hid (fun j hj g hg => by
        obtain ⟨a3, c3, e, ho⟩ := hO.ends j hj
        rw [e] at hg
        have := (ho.lt g hg).2
        omega)
      obtain ⟨d0, d1, d2, d3, d4, d5, d6, d7, d8, d9, d10, d11⟩ := hA.at.lit
      have df := hA.free 8
      clear hx ht hE hv hI2 hmem hw4 hb4 hp4 hA hs4 hel hO
      go_upto_region 5 with fail
      rw [show w3.alloc (.cells #[.int .i64 x.node, .int .i64 x.boot, .int .i64 x.seq, .int .i64 x.time, .int .i64 x.kind, .int .u32 x.vip, .int .i64 x.proto, .int .i64 x.port, .slice a2 n2 c2, .int .u32 x.dip, .int .u32 x.cvip, .bool x.up] tyC) = w4 from HW4.out.1.symm, ← HW4.out.2]
      clear k0 k1 k2 k3 k4 k5 k6 k7 k8 k9 k10 k11
      have HZ2 := Lib.hid HE4.out.zero
      have HCL : Hid ((cellsE x.es).length = n2 * 3) := Lib.hid (by rw [cellsE_len, HEL.out])
      have HCE := Lib.hid HE4.out.cells
      have HBS : Hid (w.heap.size ≤ w4.heap.size) := Lib.hid HB4.out.size
      go_wp2_with (at_builtin; refine append_any rfl (.const (.slice none 0 0)) (.tmp 14) 38 rfl w.heap.size tyE j0 (.agg #[.int .u32 0, .int .i64 0, .int .i64 0]) 3 24 Try.underlying38 hj0 hy0 hy1 hy2 rfl (by decide) (.slice none 0 0) 0 [] rfl ⟨rfl, .inl ⟨rfl, rfl⟩⟩ a2 n2 c2 (cellsE x.es) rfl HZ2.out HCL.out HCE.out (cellsE_one' x.es) (by unfold maxLen; omega) (by omega) HBS.out ?_)
      intro v5 w5 hown5 hg5
      obtain ⟨a5, c5, rfl⟩ := own_form hown5
      try simp only [Nat.zero_add, List.nil_append] at hown5
      have hb5 : Below w4.heap.size w4 w5 := (tch_grown hg5).below (fun k hk => by cases hk) (Nat.le_refl _)
      have hO5 := HO4.out.later hb5
      have hA5 := HA4.out.later hb5
      have hne5 : ∀ g, (Value.slice a5 n2 c5).ownBlock = some g → g ≠ p4 := own_ne_box hown5 hA5 (by decide)
      obtain ⟨w6, hw6⟩ : ∃ w6, w6 = w5.setCell ⟨p4, 8, none⟩ (.slice a5 n2 c5) := ⟨_, rfl⟩
      have hT6 : Tch (· = p4) w5 w6 := by rw [hw6]; exact tch_set w5 ⟨p4, 8, none⟩ _
      have hA6 : BxC w6 p4 x (.slice a5 n2 c5) := by rw [hw6]; exact hA5.set8 _
      have hs6 : w6.heap.size = w5.heap.size := by rw [hw6]; simp
      have hO6 : OwC w6 w.heap.size (ls.take i) ao cm vm := ⟨hT6.own hO5.own (fun g hg e => by
        have := HOB.out g (by rw [HTK.out.2] at hg; exact hg); omega), hO5.vlen, hO5.ends.tch hT6 (fun j hj g hg e => by have := HVB.out j hj g hg; omega)⟩
      have hE6 : w6.ownsRow w.heap.size tyE 3 (.slice a5 n2 c5) n2 (cellsE x.es) := hT6.own hown5 (fun g hg e => hne5 g hg e)
      have hB6 : Below w.heap.size w w6 := (bl_tr HB4.out hb5).trans (hT6.below (fun k hk => by have := HP4.out; omega) (by have := HB4.out.size; have := hb5.size; omega))
      have df5 := hA5.free 8
      have dc5 := hA5.at.lit.2.2.2.2.2.2.2.2.1
      have HW6 := Lib.hid hw6
      have HO6 := Lib.hid hO6
      have HE6 := Lib.hid hE6
      have HB6 := Lib.hid hB6
      have HA6 := Lib.hid hA6
      clear hown5 hg5 hb5 hO5 hA5 hw6 hT6 hA6 hs6 hO6 hE6 hB6 d0 d1 d2 d3 d4 d5 d6 d7 d8 d9 d10 d11 df HBLT hne5
      go_upto_region 6 with fail
      rw [← HW6.out]
      clear df5 dc5
      obtain ⟨d0, d1, d2, d3, d4, d5, d6, d7, d8, d9, d10, d11⟩ := HA6.out.at.lit
      have HOO : Hid ((w6.alloc (.cells #[.int .i64 x.node, .int .i64 x.boot, .int .i64 x.seq, .int .i64 x.time, .int .i64 x.kind, .int .u32 x.vip, .int .i64 x.proto, .int .i64 x.port, .slice a5 n2 c5, .int .u32 x.dip, .int .u32 x.cvip, .bool x.up] tyC)).ownsRow w.heap.size tyC 12 (.slice ao i cm) i (cellsC (ls.take i) vm)) := Lib.hid (by have := HO6.out.own; rw [HTK.out.2] at this; exact this.alloc _)
      have HNN := Lib.hid (cs_new w6 x (.slice a5 n2 c5))
      have HO1 := Lib.hid (cs_one1 x (v := .slice a5 n2 c5) rfl)
      go_wp2_with (at_builtin; refine wpList_append_own _ rfl (.tmp 18) (.tmp 20) 22 rfl w.heap.size tyC i0 _ 12 104 Try.underlying22 hi0 hz0 hz1 hz2 rfl (by decide) _ i (cellsC (ls.take i) vm) rfl HOO.out ⟨w6.heap.size, 0, none⟩ 1 1 (x.cs (.slice a5 n2 c5)) rfl rfl HNN.out HO1.out (by unfold maxLen; omega) (by omega) (by have := HB6.out.size; simp; omega) ?_)
      intro v8 w8 hown8 hg8 _
      obtain ⟨a8, c8, rfl⟩ := own_form hown8
      have hb7 := bl_al (Below.refl w6.heap.size w6) (.cells (x.arr (.slice a5 n2 c5)) tyC)
      have hO7 := HO6.out.later hb7
      have hE7 := owns_bel HE6.out hb7
      have HF : Hid (∃ ao c vs, (Value.slice a8 (i + 1) c8 = .slice ao (i + 1) c) ∧ OwC w8 w.heap.size (ls.take (i + 1)) ao c vs) := Lib.hid (by
        have e2 := HEL.out
        refine ⟨a8, c8, vm ++ [.slice a5 n2 c5], rfl, ?_⟩
        rw [HTK.out.1]
        refine hO7.more (x := x) (a2 := a5) (c2 := c5) (by rw [e2]) (by rw [e2]; exact hE7) ?_ (by rw [HTK.out.2]; exact hg8)
        rw [HTK.out.2]
        exact hown8)
      have HB8 : Hid (Below w.heap.size w w8) := Lib.hid ((HB6.out.alloc HB6.out.size _).grown hg8 (by have := HB6.out.size; simp; omega) (fun k hk => (HOO.out.lt k hk).1))
      clear hown8 hg8 hb7 hO7 hE7 HOO HNN HO1 d0 d1 d2 d3 d4 d5 d6 d7 d8 d9 d10 d11
      go_wp2
      go_roundw
      case rel => exact ⟨i + 1, by omega, by go_num, HF, HB8⟩
      case measure => simp [intOf]; omega
    · have ii : ¬ (i : Int) < (n : Int) := by omega
      obtain rfl : i = n := by omega
      have HF : Hid (GotC w ls (.returned (.slice ao i cm)) w3) := Lib.hid ⟨⟨ao, cm, vm, by rw [hlen], by rw [taken_end hlen] at hO; exact hO⟩, HB.out⟩
      clear hO
      go_wp2
      go_ret
      exact HF.out

set_option maxRecDepth 100000 in
theorem stage_c (w : World) (p : Nat) (r : Rd) (u v : Value) (h : ROb w p r u v) (ho : OkR r) :
    Calls Try.prog 51 #[.pointer (some ⟨p, 0, none⟩)] w fun e w' => e = .returned (.int .i64 r.stage) ∧ Below w.heap.size w w' := by
  have hp0 : ((some (⟨p, 0, none⟩ : Addr)) == none) = false := rfl
  have c12 := (h.cs ho.len).c12
  have HB := Lib.hid (Below.refl w.heap.size w)
  clear h ho
  go_enter Try.func51, Try.ntmps51
  go_wp2
  go_ret
  exact ⟨rfl, HB.out⟩
set_option maxRecDepth 100000 in
theorem stage_n (w : World) :
    Calls Try.prog 51 #[.pointer none] w fun e w' => e = .returned (.int .i64 0) ∧ Below w.heap.size w w' := by
  have hp0 : ((none : Option Addr) == none) = true := rfl
  have HB := Lib.hid (Below.refl w.heap.size w)
  go_enter Try.func51, Try.ntmps51
  go_wp2
  go_ret
  exact ⟨rfl, HB.out⟩
end Go.Proofs.Ytnhnpfhfcbmmlaa
namespace Go.Proofs.Ytnhnpfhfcbmmlaa
open Go Go.RowKit
set_option linter.unusedVariables false
set_option linter.unusedSimpArgs false

theorem step_append_at {P : Program} {w : World} {ops : Array Oper} {o : Oper} {a : Act} {K : Act → World → Prop} {Q : Exit → Act → World → Prop} {E : Prop} (hgd : o.guard = none) (s x : Operand) (t : TypeId)
    (ho : o.op = .call { callee := .builtin .append, args := #[s, x], argTypes := #[t, t] })
    (base : Nat) (e : TypeId) (i : TypeInfo) (z : Value) (size bytes : Nat) (ht : P.underlying t = some (.slice e)) (hi : P.info? e = some i) (hz : i.zero = some z)
    (hsize : i.size = size) (hby : i.bytes = bytes) (hzs : z.cells.size = size) (hsz : 0 < size)
    (v : Value) (n : Nat) (xs : List Value) (hs : a.eval s = v) (hown : w.ownsRow base e size v n xs)
    (ao : Option Addr) (m c : Nat) (news : List Value) (hx : a.eval x = .slice ao m c) (hl : news.length = m * size) (hnone : ao = Option.none → m = 0 ∧ c = 0) (hnews : ∀ ad, ao = some ad → ∀ j u, news[j]? = some u → w.cell? (ad.add j) = some u) (h1 : ∀ u ∈ news, u.oneCell' = true)
    (h63 : n + m ≤ maxLen) (hbytes : (n + m) * bytes ≤ 140737488355328) (hbase : base ≤ w.heap.size)
    (h : ∀ v' w', w'.ownsRow base e size v' (n + m) (xs ++ news) → w.grownBy w' v.ownBlock → (v'.ownBlock = v.ownBlock ∨ v'.ownBlock = some w.heap.size) → K (a.put o.dst v') w') :
    if Region.wanted o (yielded ops a.tmps) = true then Oper.wp P o a w K Q else E := by
  have hw : Region.wanted o (yielded ops a.tmps) = true := by simp [Region.wanted, hgd]
  cases ao with
  | some ad =>
    rw [if_pos hw]
    obtain ⟨v', w', hr, h2, h3, _, h5⟩ := run_append_own_at (P := P) w base t o.type e i z size bytes ht hi hz hsize hby hzs hsz v n xs hown ad m c news hl (hnews ad rfl) h1 h63 hbytes hbase
    unfold Oper.wp execOp
    simp only [ho, resolve, invoke, builtin, Sem.run_bind, Sem.run_pure, Result.andThen_ok, List.map_toArray, List.map_cons, List.map_nil, hs, hx, hr]
    exact h v' w' h2 h3 h5
  | none =>
    obtain ⟨rfl, rfl⟩ := hnone rfl
    have hn : news = [] := List.eq_nil_of_length_eq_zero (by simpa using hl)
    subst hn
    rw [if_pos hw]
    have hr := run_append_owned_none (P := P) w base t o.type e i size ht hi v n xs hown
    unfold Oper.wp execOp
    simp only [ho, resolve, invoke, builtin, Sem.run_bind, Sem.run_pure, Result.andThen_ok, List.map_toArray, List.map_cons, List.map_nil, hs, hx, hr]
    exact h v w (by simpa using hown) (World.grownBy.refl w _) (.inl rfl)
theorem OwC.blks {w : World} {B c : Nat} {ls : List Cm} {ao : Option Addr} {vs : List Value} (h : OwC w B ls ao c vs) : ∀ k, BkC ao vs k → B ≤ k ∧ k < w.heap.size := by
  have go : ∀ {e : TypeId} {size n : Nat} {xs : List Value} {ad : Addr} {m c2 : Nat}, w.ownsRow B e size (.slice (some ad) m c2) n xs → B ≤ ad.block ∧ ad.block < w.heap.size := by
    intro e size n xs ad m c2 ho
    exact ho.lt ad.block rfl
  rintro k (⟨ad, ha, rfl⟩ | ⟨v, hv, ad, n, c2, e, rfl⟩)
  · have := h.own
    rw [ha] at this
    exact go this
  · obtain ⟨j, hj, hvj⟩ := List.getElem_of_mem hv
    have hj2 : j < ls.length := by rw [← h.vlen]; exact hj
    obtain ⟨a2, c3, e2, ho⟩ := h.ends j hj2
    have e3 : vs.getD j undef = v := by rw [List.getD_eq_getElem?_getD, List.getElem?_eq_getElem hj]; exact hvj
    rw [e3, e] at e2
    rw [← e2] at ho
    exact go ho
theorem bkC_own {ao : Option Addr} {n c g : Nat} {vs : List Value} (h : (Value.slice ao n c).ownBlock = some g) : BkC ao vs g := by
  cases ao with
  | none => cases h
  | some a => cases h; exact .inl ⟨a, rfl, rfl⟩
theorem bkC_end {ao : Option Addr} {g j : Nat} {vs : List Value} (hj : j < vs.length) {a2 : Option Addr} {n2 c2 : Nat} (e : vs.getD j undef = .slice a2 n2 c2) (h : (vs.getD j undef).ownBlock = some g) : BkC ao vs g := by
  rw [e] at h
  cases a2 with
  | none => cases h
  | some a => cases h; exact .inr ⟨_, memV hj, a, n2, c2, e, rfl⟩
/-- An own log behind what touches other blocks. -/
theorem OwC.keep {T : Nat → Prop} {w w' : World} {B c : Nat} {ls : List Cm} {ao : Option Addr} {vs : List Value} (h : OwC w B ls ao c vs) (ht : Tch T w w') (hn : ∀ k, BkC ao vs k → ¬ T k) : OwC w' B ls ao c vs :=
  ⟨ht.own h.own (fun g hg => hn g (bkC_own hg)), h.vlen, h.ends.tch ht (fun j hj g hg => by
    obtain ⟨a2, c2, e, _⟩ := h.ends j hj
    exact hn g (bkC_end (by rw [h.vlen]; exact hj) e hg))⟩
/-- One log behind another. -/
theorem OwC.join {w w8 : World} {B c c1 c8 : Nat} {ls ms : List Cm} {ao a1 a8 : Option Addr} {vs us : List Value} (h : OwC w B ls ao c vs) (h2 : OwC w B ms a1 c1 us)
    (hown : w8.ownsRow B tyC 12 (.slice a8 (ls.length + ms.length) c8) (ls.length + ms.length) (cellsC ls vs ++ cellsC ms us)) (hg : w.grownBy w8 (Value.slice ao ls.length c).ownBlock) : OwC w8 B (ls ++ ms) a8 c8 (vs ++ us) := by
  have hne : tyC ≠ tyE := by decide
  have hT := tch_grown hg
  have hl : (ls ++ ms).length = ls.length + ms.length := by simp
  refine ⟨?_, by simp [h.vlen, h2.vlen], fun j hj => ?_⟩
  · rw [hl, cellsC_app h.vlen]
    exact hown
  · rw [hl] at hj
    by_cases hj2 : j < ls.length
    · obtain ⟨a3, c3, e, ho⟩ := h.ends j hj2
      have e1 : (ls ++ ms).getD j cm0 = ls.getD j cm0 := by rw [List.getD_eq_getElem?_getD, List.getD_eq_getElem?_getD, List.getElem?_append_left hj2]
      have e2 : (vs ++ us).getD j undef = vs.getD j undef := by rw [List.getD_eq_getElem?_getD, List.getD_eq_getElem?_getD, List.getElem?_append_left (by rw [h.vlen]; exact hj2)]
      rw [e1, e2]
      exact ⟨a3, c3, e, hT.own ho (fun g hg2 e3 => own_kinds h.own ho hne g e3.symm hg2)⟩
    · obtain ⟨a3, c3, e, ho⟩ := h2.ends (j - ls.length) (by omega)
      have e1 : (ls ++ ms).getD j cm0 = ms.getD (j - ls.length) cm0 := by rw [List.getD_eq_getElem?_getD, List.getD_eq_getElem?_getD, List.getElem?_append_right (by omega)]
      have e2 : (vs ++ us).getD j undef = us.getD (j - ls.length) undef := by rw [List.getD_eq_getElem?_getD, List.getD_eq_getElem?_getD, List.getElem?_append_right (by rw [h.vlen]; omega), h.vlen]
      rw [e1, e2]
      exact ⟨a3, c3, e, hT.own ho (fun g hg2 e3 => own_kinds h.own ho hne g e3.symm hg2)⟩
/-- Blocks K stay, and none goes away. -/
def Kpz (K : Nat → Prop) (w w' : World) : Prop := Kpt K w w' ∧ w.heap.size ≤ w'.heap.size
theorem Kpz.trans {K : Nat → Prop} {a b c : World} (h : Kpz K a b) (h2 : Kpz K b c) : Kpz K a c := ⟨h.1.trans h2.1, Nat.le_trans h.2 h2.2⟩
theorem Kpz.refl (K : Nat → Prop) (w : World) : Kpz K w w := ⟨fun _ _ => rfl, Nat.le_refl _⟩
/-- The round's blocks. -/
def RBk (p : Nat) (a1 : Option Addr) (v1 : List Value) (a2 : Option Addr) (v2 : List Value) (k : Nat) : Prop := k = p ∨ BkC a1 v1 k ∨ BkC a2 v2 k
/-- A round of the call's own, in which blocks K have no part. -/
structure RX (w0 w : World) (p : Nat) (r : Rd) (K : Nat → Prop) (a1 : Option Addr) (c1 : Nat) (v1 : List Value) (a2 : Option Addr) (c2 : Nat) (v2 : List Value) : Prop where
  ob : ROb w p r (.slice a1 r.want.length c1) (.slice a2 r.log.length c2)
  want : OwC w w0.heap.size r.want a1 c1 v1
  log : OwC w w0.heap.size r.log a2 c2 v2
  aprt : r.stage = 1 → Aprt (.slice a1 r.want.length c1) (.slice a2 r.log.length c2)
  away : ∀ k, RBk p a1 v1 a2 v2 k → ¬ K k
  base : w0.heap.size ≤ p
  lt : ∀ k, K k → k < w.heap.size
  bel : Below w0.heap.size w0 w
  ok : OkR r
def ROn (w0 w : World) (p : Nat) (r : Rd) (K : Nat → Prop) : Prop := ∃ a1 c1 v1 a2 c2 v2, RX w0 w p r K a1 c1 v1 a2 c2 v2
theorem tyCR : tyC ≠ tyR := by decide
theorem tyER : tyE ≠ tyR := by decide
/-- No row of commands, and none of ends, is the round's own block. -/
theorem OwC.notBox {w : World} {B c p : Nat} {ls : List Cm} {ao : Option Addr} {vs : List Value} {cs : Array Value} {fr : Nat × Nat} (h : OwC w B ls ao c vs) (hb : w.heap[p]? = some (.cells cs tyR fr)) : ∀ k, BkC ao vs k → k ≠ p := by
  rintro k (⟨ad, ha, rfl⟩ | ⟨v, hv, ad, n, c2, e, rfl⟩)
  · exact own_ne_box h.own hb tyCR ad.block (by rw [ha]; rfl)
  · obtain ⟨j, hj, hvj⟩ := List.getElem_of_mem hv
    have hj2 : j < ls.length := by rw [← h.vlen]; exact hj
    obtain ⟨a2, c3, e2, ho⟩ := h.ends j hj2
    have e3 : vs.getD j undef = v := by rw [List.getD_eq_getElem?_getD, List.getElem?_eq_getElem hj]; exact hvj
    rw [e3, e] at e2
    rw [← e2] at ho
    exact own_ne_box ho hb tyER ad.block rfl
section
variable {w0 w w' : World} {p : Nat} {r : Rd} {K : Nat → Prop} {a1 : Option Addr} {c1 : Nat} {v1 : List Value} {a2 : Option Addr} {c2 : Nat} {v2 : List Value}
theorem RX.blk (h : RX w0 w p r K a1 c1 v1 a2 c2 v2) : ∀ k, RBk p a1 v1 a2 v2 k → w0.heap.size ≤ k ∧ k < w.heap.size := by
  rintro k (rfl | hk | hk)
  · exact ⟨h.base, h.ob.lt⟩
  · exact h.want.blks k hk
  · exact h.log.blks k hk
/-- What touches none of the round's blocks. -/
theorem RX.keep (h : RX w0 w p r K a1 c1 v1 a2 c2 v2) {T : Nat → Prop} (ht : Tch T w w') (hT : ∀ k, RBk p a1 v1 a2 v2 k → ¬ T k) (h0 : ∀ k, T k → w0.heap.size ≤ k) : RX w0 w' p r K a1 c1 v1 a2 c2 v2 :=
  ⟨ht.at h.ob (hT p (.inl rfl)), h.want.keep ht (fun k hk => hT k (.inr (.inl hk))), h.log.keep ht (fun k hk => hT k (.inr (.inr hk))), h.aprt, h.away, h.base, fun k hk => Nat.lt_of_lt_of_le (h.lt k hk) ht.size,
    h.bel.trans (ht.below h0 h.bel.size), h.ok⟩
theorem RX.new (h : RX w0 w p r K a1 c1 v1 a2 c2 v2) (hb : Below w.heap.size w w') : RX w0 w' p r K a1 c1 v1 a2 c2 v2 ∧ Kpz K w w' :=
  ⟨h.keep (tch_new hb) (fun _ _ h => h) (fun _ h => h.elim), fun k hk => hb.block k (h.lt k hk), hb.size⟩
theorem RX.less {K2 : Nat → Prop} (h : RX w0 w p r K a1 c1 v1 a2 c2 v2) (hk : ∀ k, K2 k → K k) : RX w0 w p r K2 a1 c1 v1 a2 c2 v2 :=
  ⟨h.ob, h.want, h.log, h.aprt, fun k h2 h3 => h.away k h2 (hk k h3), h.base, fun k h2 => h.lt k (hk k h2), h.bel, h.ok⟩
theorem RX.grow (h : RX w0 w p r K a1 c1 v1 a2 c2 v2) (hb : Below w.heap.size w w') : RX w0 w' p r (fun k => K k ∨ (w.heap.size ≤ k ∧ k < w'.heap.size)) a1 c1 v1 a2 c2 v2 := by
  have h1 := (h.new hb).1
  refine ⟨h1.ob, h1.want, h1.log, h1.aprt, fun k hk hK => ?_, h1.base, fun k hk => ?_, h1.bel, h1.ok⟩
  · rcases hK with hK | hK
    · exact h.away k hk hK
    · have := (h.blk k hk).2; omega
  · rcases hk with hk | hk
    · exact h1.lt k hk
    · exact hk.2
/-- A cell of the round is written: want and log stay where they are. -/
theorem RX.put (h : RX w0 w p r K a1 c1 v1 a2 c2 v2) {r2 : Rd} (ht : Tch (· = p) w w') (hob : ROb w' p r2 (.slice a1 r2.want.length c1) (.slice a2 r2.log.length c2)) (hw : r2.want = r.want) (hl : r2.log = r.log) (hs : r2.stage = 1 → r.stage = 1) (hok : OkR r2) : RX w0 w' p r2 K a1 c1 v1 a2 c2 v2 ∧ Kpz K w w' := by
  refine ⟨⟨hob, ?_, ?_, fun e => by rw [hw, hl]; exact h.aprt (hs e), h.away, h.base, fun k hk => Nat.lt_of_lt_of_le (h.lt k hk) ht.size, h.bel.trans (ht.below (fun k hk => by rw [hk]; exact h.base) h.bel.size), hok⟩, fun k hk => ht.block k (h.lt k hk) (fun e => h.away k (.inl e) hk), ht.size⟩
  · rw [hw]; exact h.want.keep ht (fun k hk => h.want.notBox h.ob k hk)
  · rw [hl]; exact h.log.keep ht (fun k hk => h.log.notBox h.ob k hk)
/-- The log is another one now. -/
theorem RX.setLog (h : RX w0 w p r K a1 c1 v1 a2 c2 v2) {T : Nat → Prop} {r2 : Rd} {a8 : Option Addr} {c8 : Nat} {v8 : List Value} (ht : Tch T w w') (hT : ∀ k, T k → k = p ∨ (r.stage = 1 ∧ (Value.slice a2 r.log.length c2).ownBlock = some k) ∨ w.heap.size ≤ k)
    (hob : ROb w' p r2 (.slice a1 r2.want.length c1) (.slice a8 r2.log.length c8)) (hw : r2.want = r.want) (ho : OwC w' w0.heap.size r2.log a8 c8 v8) (hb : ∀ k, BkC a8 v8 k → RBk p a1 v1 a2 v2 k ∨ w.heap.size ≤ k)
    (ha : r2.stage = 1 → Aprt (.slice a1 r.want.length c1) (.slice a8 r2.log.length c8)) (hok : OkR r2) : RX w0 w' p r2 K a1 c1 v1 a8 c8 v8 ∧ Kpz K w w' := by
  have hB : ∀ k, T k → w0.heap.size ≤ k := fun k hk => by
    rcases hT k hk with rfl | ⟨_, h2⟩ | h2
    · exact h.base
    · exact (h.log.own.lt k h2).1
    · exact Nat.le_trans h.bel.size h2
  refine ⟨⟨hob, ?_, ho, fun e => by rw [hw]; exact ha e, fun k hk hK => ?_, h.base, fun k hk => Nat.lt_of_lt_of_le (h.lt k hk) ht.size, h.bel.trans (ht.below hB h.bel.size), hok⟩, fun k hk => ht.block k (h.lt k hk) (fun e => ?_), ht.size⟩
  · rw [hw]
    refine h.want.keep ht (fun k hk hT2 => ?_)
    rcases hT k hT2 with e | ⟨hs, h2⟩ | h2
    · exact h.want.notBox h.ob k hk e
    · rcases hk with ⟨ad, ha2, rfl⟩ | ⟨v, hv, ad, n, c3, e, rfl⟩
      · exact h.aprt hs ad.block (by rw [ha2]; rfl) h2
      · obtain ⟨j, hj, hvj⟩ := List.getElem_of_mem hv
        have hj2 : j < r.want.length := by rw [← h.want.vlen]; exact hj
        obtain ⟨a3, c4, e2, ho2⟩ := h.want.ends j hj2
        have e3 : v1.getD j undef = v := by rw [List.getD_eq_getElem?_getD, List.getElem?_eq_getElem hj]; exact hvj
        rw [e3, e] at e2
        rw [← e2] at ho2
        exact own_kinds h.log.own ho2 (by decide) ad.block h2 rfl
    · have := (h.want.blks k hk).2; omega
  · rcases hk with hk | hk | hk
    · exact h.away k (.inl hk) hK
    · exact h.away k (.inr (.inl hk)) hK
    · rcases hb k hk with h2 | h2
      · exact h.away k h2 hK
      · have := h.lt k hK; omega
  · rcases hT k e with e2 | ⟨_, h2⟩ | h2
    · exact h.away k (.inl e2) hk
    · exact h.away k (.inr (.inr (bkC_own h2))) hk
    · have := h.lt k hk; omega
end
/-- What keeps all that lies outside of K. -/
theorem RX.other {w0 w w' : World} {p : Nat} {r : Rd} {K K2 : Nat → Prop} {a1 : Option Addr} {c1 : Nat} {v1 : List Value} {a2 : Option Addr} {c2 : Nat} {v2 : List Value} (h : RX w0 w p r K a1 c1 v1 a2 c2 v2) (hb : Below w0.heap.size w0 w') (hk : Kpz K2 w w') (h2 : ∀ k, ¬ K k → k < w.heap.size → K2 k) : RX w0 w' p r K a1 c1 v1 a2 c2 v2 := by
  have hT : Tch (fun k => ¬ K2 k) w w' := ⟨hb.os.trans h.bel.os.symm, hb.tape.trans h.bel.tape.symm, hb.output.trans h.bel.output.symm, hk.2, fun k hk1 hk2 => hk.1 k (Classical.not_not.1 hk2)⟩
  have hin : ∀ k, RBk p a1 v1 a2 v2 k → ¬ ¬ K2 k := fun k hk3 hn => hn (h2 k (h.away k hk3) (h.blk k hk3).2)
  exact ⟨hT.at h.ob (hin p (.inl rfl)), h.want.keep hT (fun k hk => hin k (.inr (.inl hk))), h.log.keep hT (fun k hk => hin k (.inr (.inr hk))), h.aprt, h.away, h.base, fun k hk3 => Nat.lt_of_lt_of_le (h.lt k hk3) hk.2, hb, h.ok⟩
/-- An elder world to begin at. -/
theorem RX.rebase {w00 w0 w : World} {p : Nat} {r : Rd} {K : Nat → Prop} {a1 : Option Addr} {c1 : Nat} {v1 : List Value} {a2 : Option Addr} {c2 : Nat} {v2 : List Value} (h : RX w0 w p r K a1 c1 v1 a2 c2 v2) (hb : Below w00.heap.size w00 w0) : RX w00 w p r K a1 c1 v1 a2 c2 v2 :=
  ⟨h.ob, h.want.base hb.size, h.log.base hb.size, h.aprt, h.away, Nat.le_trans hb.size h.base, h.lt, hb.trans (h.bel.mono hb.size), h.ok⟩
theorem ROn.other {w0 w w' : World} {p : Nat} {r : Rd} {K K2 : Nat → Prop} (h : ROn w0 w p r K) (hb : Below w0.heap.size w0 w') (hk : Kpz K2 w w') (h2 : ∀ k, ¬ K k → k < w.heap.size → K2 k) : ROn w0 w' p r K := by
  obtain ⟨a1, c1, v1, a2, c2, v2, h⟩ := h
  exact ⟨a1, c1, v1, a2, c2, v2, h.other hb hk h2⟩
theorem ROn.rebase {w00 w0 w : World} {p : Nat} {r : Rd} {K : Nat → Prop} (h : ROn w0 w p r K) (hb : Below w00.heap.size w00 w0) : ROn w00 w p r K := by
  obtain ⟨a1, c1, v1, a2, c2, v2, h⟩ := h
  exact ⟨a1, c1, v1, a2, c2, v2, h.rebase hb⟩
theorem ROn.new {w0 w w' : World} {p : Nat} {r : Rd} {K : Nat → Prop} (h : ROn w0 w p r K) (hb : Below w.heap.size w w') : ROn w0 w' p r K ∧ Kpz K w w' := by
  obtain ⟨a1, c1, v1, a2, c2, v2, h⟩ := h
  exact ⟨⟨a1, c1, v1, a2, c2, v2, (h.new hb).1⟩, (h.new hb).2⟩
theorem ROn.grow {w0 w w' : World} {p : Nat} {r : Rd} {K : Nat → Prop} (h : ROn w0 w p r K) (hb : Below w.heap.size w w') : ROn w0 w' p r (fun k => K k ∨ (w.heap.size ≤ k ∧ k < w'.heap.size)) := by
  obtain ⟨a1, c1, v1, a2, c2, v2, h⟩ := h
  exact ⟨a1, c1, v1, a2, c2, v2, h.grow hb⟩
theorem ROn.less {w0 w : World} {p : Nat} {r : Rd} {K K2 : Nat → Prop} (h : ROn w0 w p r K) (hk : ∀ k, K2 k → K k) : ROn w0 w p r K2 := by
  obtain ⟨a1, c1, v1, a2, c2, v2, h⟩ := h
  exact ⟨a1, c1, v1, a2, c2, v2, h.less hk⟩
theorem ROn.bel {w0 w : World} {p : Nat} {r : Rd} {K : Nat → Prop} (h : ROn w0 w p r K) : Below w0.heap.size w0 w := by
  obtain ⟨a1, c1, v1, a2, c2, v2, h⟩ := h
  exact h.bel
theorem ROn.ok {w0 w : World} {p : Nat} {r : Rd} {K : Nat → Prop} (h : ROn w0 w p r K) : OkR r := by
  obtain ⟨a1, c1, v1, a2, c2, v2, h⟩ := h
  exact h.ok
end Go.Proofs.Ytnhnpfhfcbmmlaa
