/- Ends: plainly, and in memory. No conditions but those stated. Commands and logs, plain: which are in form, their numbers, their bytes, how these are read. No program. Nodes: addr's Kind. Conditions: those stated. Commands in memory: rows that came in, rows of a call's own; boxes of one. No conditions but those stated. -/
import Derived.Test.YtnhnpfhfcbmmlaaHmR
import Derived.Test.YtnhnpfhfcbmmlaaRowI
import Derived.Test.YtnhnpfhfcbmmlaaTch
import Derived.Test.YtnhnpfhfcbmmlaaQStB
import Derived.Test.YtnhnpfhfcbmmlaaHmA
import Derived.Lib.Hide
import Derived.LoopTactic
import Derived.LoopN
import Derived.Deep.CutRange
import Derived.Deep.RegionHeld3
import Derived.Deep.RegionWith
namespace Go.Proofs.Ytnhnpfhfcbmmlaa
open Go Go.RowKit
set_option linter.unusedVariables false
set_option linter.unusedSimpArgs false

structure En where
  dip : Int
  port : Int
  wt : Int
def en0 : En := ⟨0, 0, 0⟩
instance : Inhabited En := ⟨en0⟩
instance : DecidableEq En := fun a b => by
  cases a
  cases b
  simp only [En.mk.injEq]
  infer_instance
abbrev tyE : TypeId := 74
def En.cs (e : En) : List Value := [.int .u32 e.dip, .int .i64 e.port, .int .i64 e.wt]
abbrev En.val (e : En) : Value := .agg #[.int .u32 e.dip, .int .i64 e.port, .int .i64 e.wt]
def cellsE (es : List En) : List Value := es.flatMap En.cs
theorem cellsE_len (es : List En) : (cellsE es).length = es.length * 3 := by
  induction es with
  | nil => rfl
  | cons e es ih =>
    have : cellsE (e :: es) = e.cs ++ cellsE es := rfl
    rw [this, List.length_append, ih, List.length_cons]
    simp only [En.cs, List.length_cons, List.length_nil]
    omega
theorem cellsE_app (es fs : List En) : cellsE (es ++ fs) = cellsE es ++ cellsE fs := by unfold cellsE; rw [List.flatMap_append]
theorem cellsE_one (e : En) : cellsE [e] = e.cs := by simp [cellsE]
theorem cellsE_at : ∀ {es : List En} {j i : Nat}, j < es.length → i < 3 → (cellsE es)[j * 3 + i]? = ((es.getD j en0).cs)[i]?
  | [], j, i, hj, _ => by simp at hj
  | e :: es, 0, i, _, hi => by
    have : cellsE (e :: es) = e.cs ++ cellsE es := rfl
    rw [this, Nat.zero_mul, Nat.zero_add, List.getD_cons_zero]
    exact List.getElem?_append_left (by simp [En.cs]; omega)
  | e :: es, j + 1, i, hj, hi => by
    have h := cellsE_at (es := es) (j := j) (i := i) (by simpa using hj) hi
    have : cellsE (e :: es) = e.cs ++ cellsE es := rfl
    rw [this, List.getD_cons_succ, List.getElem?_append_right (by simp [En.cs]; omega), ← h]
    congr 1
    simp [En.cs]
    omega
theorem cellsE_take (es : List En) (j : Nat) : (cellsE es).take (j * 3) = cellsE (es.take j) := by
  induction es generalizing j with
  | nil => simp [cellsE]
  | cons e es ih =>
    cases j with
    | zero => simp [cellsE]
    | succ j =>
      have h1 : cellsE (e :: es) = e.cs ++ cellsE es := rfl
      have h2 : cellsE (e :: es.take j) = e.cs ++ cellsE (es.take j) := rfl
      rw [List.take_succ_cons, h1, h2, List.take_append, List.take_of_length_le (by simp [En.cs]; omega), ← ih]
      congr 2
      simp [En.cs]
      omega
theorem cellsE_one' (es : List En) : ∀ u ∈ cellsE es, u.oneCell' = true := by
  intro u hu
  unfold cellsE at hu
  obtain ⟨e, _, he⟩ := List.mem_flatMap.1 hu
  simp only [En.cs, List.mem_cons, List.not_mem_nil, or_false] at he
  rcases he with rfl | rfl | rfl <;> rfl
def TyEn (e : En) : Prop := (0 ≤ e.dip ∧ e.dip < 4294967296) ∧ (-9223372036854775808 ≤ e.port ∧ e.port ≤ 9223372036854775807) ∧ (-9223372036854775808 ≤ e.wt ∧ e.wt ≤ 9223372036854775807)
/-- A row of ends that came in. -/
structure InE (w : World) (a : Option Addr) (n cap : Nat) (es : List En) : Prop where
  len : es.length = n
  room : n ≤ cap
  none : a = Option.none → cap = 0
  here : es = [] ∨ ∃ b off, a = some ⟨b, off, .none⟩ ∧ ∀ t u, (cellsE es)[t]? = some u → w.cell? ⟨b, off + t, .none⟩ = some u
  typ : ∀ e ∈ es, TyEn e
theorem InE.below {w w' : World} {a : Option Addr} {n cap : Nat} {es : List En} (h : InE w a n cap es) (hb : Below w.heap.size w w') : InE w' a n cap es := by
  refine ⟨h.len, h.room, h.none, ?_, h.typ⟩
  rcases h.here with h0 | ⟨b, off, ha, hc⟩
  · exact .inl h0
  · exact .inr ⟨b, off, ha, fun t u hu => (hb.cell (p := ⟨b, off + t, .none⟩) (block_lt_of_cell (hc t u hu))).trans (hc t u hu)⟩
theorem InE.block {w : World} {a : Option Addr} {n c : Nat} {es : List En} (h : InE w a n c es) (hn : 0 < n) : ∃ b off, a = some ⟨b, off, .none⟩ := by
  rcases h.here with h0 | ⟨b, off, ha, _⟩
  · have := h.len; rw [h0] at this; simp at this; omega
  · exact ⟨b, off, ha⟩
theorem InE.cell {w : World} {b off n c : Nat} {es : List En} (h : InE w (some ⟨b, off, .none⟩) n c es) {j : Nat} (hj : j < n) : w.cell? ⟨b, off + j * 3, .none⟩ = some (.int .u32 (es.getD j en0).dip) ∧ w.cell? ⟨b, off + j * 3 + 1, .none⟩ = some (.int .i64 (es.getD j en0).port) ∧ w.cell? ⟨b, off + j * 3 + 2, .none⟩ = some (.int .i64 (es.getD j en0).wt) := by
  have hl := h.len
  rcases h.here with h0 | ⟨b', off', ha, hc⟩
  · rw [h0] at hl; simp at hl; omega
  · cases ha
    have h0 := hc (j * 3 + 0) _ (by rw [cellsE_at (by omega) (by omega)]; rfl)
    have h1 := hc (j * 3 + 1) _ (by rw [cellsE_at (by omega) (by omega)]; rfl)
    have h2 := hc (j * 3 + 2) _ (by rw [cellsE_at (by omega) (by omega)]; rfl)
    refine ⟨h0, ?_, ?_⟩
    · rw [Nat.add_assoc]; exact h1
    · rw [Nat.add_assoc]; exact h2
theorem InE.zero {w : World} {a : Option Addr} {n cap : Nat} {es : List En} (h : InE w a n cap es) : a = Option.none → n = 0 ∧ cap = 0 := fun e => by
  have h1 := h.none e
  have h2 := h.room
  exact ⟨by omega, h1⟩
/-- The cells that an append takes from it. -/
theorem InE.cells {w : World} {a : Option Addr} {n cap : Nat} {es : List En} (h : InE w a n cap es) : ∀ ad, a = some ad → ∀ j u, (cellsE es)[j]? = some u → w.cell? (ad.add j) = some u := by
  intro ad ha j u hu
  rcases h.here with h0 | ⟨b, off, ha', hc⟩
  · rw [h0] at hu; simp [cellsE] at hu
  · rw [ha] at ha'
    cases ha'
    rw [Go.WideShapes.add_plain]
    exact hc j u hu
theorem own_inE {w : World} {B n c : Nat} {ao : Option Addr} {es : List En} (h : w.ownsRow B tyE 3 (.slice ao n c) n (cellsE es)) (ht : ∀ e ∈ es, TyEn e) : InE w ao n c es := by
  have hl : es.length = n := by have := h.1; rw [cellsE_len] at this; omega
  rcases h.2 with ⟨e, h0⟩ | ⟨g, cap, cur, e, _, hg, h1, h2, h3, h4⟩
  · simp only [Value.slice.injEq] at e
    obtain ⟨rfl, rfl, rfl⟩ := e
    exact ⟨hl, Nat.le_refl _, fun _ => rfl, .inl (List.eq_nil_of_length_eq_zero hl), ht⟩
  · simp only [Value.slice.injEq] at e
    obtain ⟨rfl, _, rfl⟩ := e
    refine ⟨hl, h1, (fun e => by cases e), .inr ⟨g, 0, rfl, fun t u hu => ?_⟩, ht⟩
    rw [Nat.zero_add, cell_of_row w g t _ _ _ hg, ← Array.getElem?_toList]
    rw [← h4, List.getElem?_take] at hu
    split at hu
    · exact hu
    · cases hu
theorem InE.take {w : World} {a : Option Addr} {n cap : Nat} {es : List En} (h : InE w a n cap es) (k : Nat) (hk : k ≤ n) : InE w a k cap (es.take k) := by
  have hl := h.len
  refine ⟨by rw [List.length_take]; omega, Nat.le_trans hk h.room, h.none, ?_, fun e he => h.typ e (List.mem_of_mem_take he)⟩
  rcases h.here with h0 | ⟨b, off, ha, hc⟩
  · exact .inl (by rw [h0]; simp)
  · refine .inr ⟨b, off, ha, fun t u hu => ?_⟩
    rw [← cellsE_take, List.getElem?_take] at hu
    split at hu
    · exact hc t u hu
    · cases hu
/-- An end in form, ends in form. -/
def GoodE (e : En) : Prop := IsDip e.dip ∧ (0 ≤ e.port ∧ e.port ≤ 65535) ∧ (1 ≤ e.wt ∧ e.wt ≤ 16)
def OkE (es : List En) : Prop := es.length ≤ 64 ∧ (∀ e ∈ es, GoodE e) ∧ (es.map (·.dip)).Nodup
def PreE (es : List En) (i : Nat) : Prop := (∀ e ∈ es.take i, GoodE e) ∧ ((es.take i).map (·.dip)).Nodup
theorem take_moreE (es : List En) {i : Nat} (hi : i < es.length) : es.take (i + 1) = es.take i ++ [es.getD i en0] := take_more es en0 hi
theorem PreE.step {es : List En} {i : Nat} (h : PreE es i) (hi : i < es.length) (hg : GoodE (es.getD i en0)) (hn : (es.getD i en0).dip ∉ (es.take i).map (·.dip)) : PreE es (i + 1) := by
  constructor
  · intro e he
    rw [take_moreE es hi, List.mem_append, List.mem_singleton] at he
    rcases he with he | he
    · exact h.1 e he
    · rw [he]; exact hg
  · rw [take_moreE es hi, List.map_append, List.nodup_append]
    exact ⟨h.2, by simp, fun a ha b hb => by
      simp only [List.map_cons, List.map_nil, List.mem_singleton] at hb
      intro e
      exact hn (by rw [← hb, ← e]; exact ha)⟩
theorem memE {es : List En} {i : Nat} (hi : i < es.length) : es.getD i en0 ∈ es := by
  rw [List.getD_eq_getElem?_getD, List.getElem?_eq_getElem hi]
  exact List.getElem_mem _
theorem dup_not {es : List En} {i : Nat} (hi : i < es.length) (hd : (es.getD i en0).dip ∈ (es.take i).map (·.dip)) : ¬ OkE es := by
  rintro ⟨_, _, hn⟩
  have h2 : es.take i ++ es.drop i = es := List.take_append_drop i es
  rw [← h2, List.map_append, List.nodup_append] at hn
  have hm : es.getD i en0 ∈ es.drop i := by
    rw [List.drop_eq_getElem_cons hi, List.getD_eq_getElem?_getD, List.getElem?_eq_getElem hi]
    exact List.mem_cons_self
  exact hn.2.2 _ hd _ (List.mem_map.2 ⟨_, hm, rfl⟩) rfl
end Go.Proofs.Ytnhnpfhfcbmmlaa
namespace Go.Proofs.Ytnhnpfhfcbmmlaa
set_option linter.unusedVariables false
set_option linter.unusedSimpArgs false

structure Cm where
  node : Int
  boot : Int
  seq : Int
  time : Int
  kind : Int
  vip : Int
  proto : Int
  port : Int
  es : List En
  dip : Int
  cvip : Int
  up : Bool
def cm0 : Cm := ⟨0, 0, 0, 0, 0, 0, 0, 0, [], 0, 0, false⟩
instance : Inhabited Cm := ⟨cm0⟩
instance : DecidableEq Cm := fun a b => by
  cases a
  cases b
  simp only [Cm.mk.injEq]
  infer_instance
def i64c (n : Int) : Prop := -9223372036854775808 ≤ n ∧ n ≤ 9223372036854775807
def u32c (n : Int) : Prop := 0 ≤ n ∧ n < 4294967296
structure TyC (c : Cm) : Prop where
  node : i64c c.node
  boot : i64c c.boot
  seq : i64c c.seq
  time : i64c c.time
  kind : i64c c.kind
  vip : u32c c.vip
  proto : i64c c.proto
  port : i64c c.port
  dip : u32c c.dip
  cvip : u32c c.cvip
  es : ∀ e ∈ c.es, TyEn e
  few : c.es.length ≤ 4611686018427387904
def IsMgr (n : Int) : Prop := 16 ≤ n ∧ n ≤ 23
instance (n : Int) : Decidable (IsMgr n) := by unfold IsMgr; infer_instance
def IsTm (n : Int) : Prop := 0 ≤ n ∧ n ≤ 1099511627776
instance (n : Int) : Decidable (IsTm n) := by unfold IsTm; infer_instance
def IsVp (a : Int) : Prop := 1 ≤ a / 16777216 ∧ a / 16777216 ≤ 223 ∧ a / 16777216 ≠ 10 ∧ a / 16777216 ≠ 127
instance (n : Int) : Decidable (IsVp n) := by unfold IsVp; infer_instance
instance (n : Int) : Decidable (IsDip n) := by unfold IsDip; infer_instance
instance (e : En) : Decidable (GoodE e) := by unfold GoodE; infer_instance
instance (es : List En) : Decidable (OkE es) := by unfold OkE; infer_instance
def NoneS (c : Cm) : Prop := c.vip = 0 ∧ c.proto = 0 ∧ c.port = 0 ∧ c.es = []
instance (c : Cm) : Decidable (NoneS c) := by unfold NoneS; infer_instance
def SvcOk (c : Cm) : Prop := IsVp c.vip ∧ (c.proto = 6 ∨ c.proto = 17) ∧ (1 ≤ c.port ∧ c.port ≤ 1023) ∧ OkE c.es
instance (c : Cm) : Decidable (SvcOk c) := by unfold SvcOk; infer_instance
def Says (c : Cm) : Prop :=
  (c.kind = 1 ∧ SvcOk c ∧ c.dip = 0 ∧ c.cvip = 0 ∧ c.up = false) ∨
  (c.kind = 2 ∧ NoneS c ∧ IsDip c.dip ∧ (c.up = true ∧ IsVp c.cvip ∨ c.up = false ∧ c.cvip = 0)) ∨
  (c.kind = 3 ∧ NoneS c ∧ IsDip c.dip ∧ c.cvip = 0) ∨
  (c.kind = 4 ∧ NoneS c ∧ IsDip c.dip ∧ c.cvip = 0 ∧ c.up = false)
instance (c : Cm) : Decidable (Says c) := by unfold Says; infer_instance
def GoodC (c : Cm) : Prop := IsMgr c.node ∧ IsTm c.boot ∧ IsTm c.seq ∧ IsTm c.time ∧ Says c
instance (c : Cm) : Decidable (GoodC c) := by unfold GoodC; infer_instance
abbrev Nm : Type := Int × Int × Int
def Cm.nm (c : Cm) : Nm := (c.node, c.boot, c.seq)
def GoodL (l : List Cm) : Prop := l.length ≤ 256 ∧ (∀ c ∈ l, GoodC c) ∧ (l.map Cm.nm).Nodup
instance (l : List Cm) : Decidable (GoodL l) := by unfold GoodL; infer_instance
theorem goodC_es {c : Cm} (h : GoodC c) : c.es.length ≤ 64 := by
  rcases h.2.2.2.2 with h | h | h | h
  · exact h.2.1.2.2.2.1
  · rw [h.2.1.2.2.2]; exact Nat.zero_le _
  · rw [h.2.1.2.2.2]; exact Nat.zero_le _
  · rw [h.2.1.2.2.2]; exact Nat.zero_le _
/-! ### Numbers as bytes -/
def nb (l : List Int) : List Int := l.flatMap b8
theorem nb_len (l : List Int) : (nb l).length = 8 * l.length := by
  unfold nb
  induction l with
  | nil => rfl
  | cons a l ih => rw [List.flatMap_cons, List.length_append, b8_len, ih, List.length_cons]; omega
theorem fit_nb (l : List Int) : fit (nb l) := by
  intro b hb
  obtain ⟨a, _, h⟩ := List.mem_flatMap.1 hb
  exact fit_b8 a b h
theorem nb_app (l k : List Int) : nb (l ++ k) = nb l ++ nb k := List.flatMap_append
theorem nb_one (x : Int) : nb [x] = b8 x := by simp [nb]
theorem nb_cons (x : Int) (l : List Int) : nb (x :: l) = b8 x ++ nb l := rfl
theorem n8_app (l k : List Int) (i : Nat) (h : l.length ≤ i) : n8 (l ++ k) i = n8 k (i - l.length) := by
  unfold n8
  have e : ∀ j, (l ++ k).getD (i + j) 0 = k.getD (i - l.length + j) 0 := fun j => by
    rw [List.getD_eq_getElem?_getD, List.getD_eq_getElem?_getD, List.getElem?_append_right (by omega), show i + j - l.length = i - l.length + j by omega]
  have e0 := e 0
  simp only [Nat.add_zero] at e0
  rw [e0, e 1, e 2, e 3, e 4, e 5, e 6, e 7]
/-- The number that the first eight bytes are. -/
def num (b : List Int) : Int := sg (n8 b 0)
theorem num_b8 {x : Int} (h : i64c x) (k : List Int) : num (b8 x ++ k) = x := by
  unfold num
  have : n8 (b8 x ++ k) 0 = x % 18446744073709551616 := eight_back x
  rw [this]
  exact sg_back ⟨h.1, by have := h.2; omega⟩
theorem num_ty {b : List Int} (hf : fit b) : i64c (num b) := by
  have g := getD_fit hf
  have := g 0; have := g 1; have := g 2; have := g 3; have := g 4; have := g 5; have := g 6; have := g 7
  have h := sg_bound (u := n8 b 0) (by unfold n8; simp only [Nat.zero_add]; omega)
  exact ⟨h.1, by unfold num; omega⟩
/-- The next number, and what is behind it. -/
def rd (b : List Int) : Int := if b.length < 8 then 0 else num b
def rest (b : List Int) : List Int := if b.length < 8 then b else b.drop 8
theorem rd_ty {b : List Int} (hf : fit b) : i64c (rd b) := by
  unfold rd
  split
  · exact ⟨by omega, by omega⟩
  · exact num_ty hf
theorem rest_fit {b : List Int} (hf : fit b) : fit (rest b) := by
  unfold rest
  split
  · exact hf
  · exact fun x hx => hf x (List.mem_of_mem_drop hx)
theorem rest_len (b : List Int) : (rest b).length ≤ b.length := by
  unfold rest
  split
  · exact Nat.le_refl _
  · rw [List.length_drop]; omega
theorem rd_b8 {x : Int} (h : i64c x) (k : List Int) : rd (b8 x ++ k) = x := by
  unfold rd
  rw [if_neg (by rw [List.length_append, b8_len]; omega), num_b8 h]
theorem rest_b8 (x : Int) (k : List Int) : rest (b8 x ++ k) = k := by
  unfold rest
  rw [if_neg (by rw [List.length_append, b8_len]; omega)]
  exact List.drop_left' (b8_len x)
/-- So many numbers, and what is behind them. -/
def rds : Nat → List Int → List Int
  | 0, _ => []
  | n + 1, b => rd b :: rds n (rest b)
def rests : Nat → List Int → List Int
  | 0, b => b
  | n + 1, b => rests n (rest b)
theorem rests_fit {b : List Int} (hf : fit b) : ∀ n, fit (rests n b) := by
  intro n
  induction n generalizing b with
  | zero => exact hf
  | succ n ih => exact ih (rest_fit hf)
theorem rests_len (n : Nat) (b : List Int) : (rests n b).length ≤ b.length := by
  induction n generalizing b with
  | zero => exact Nat.le_refl _
  | succ n ih => exact Nat.le_trans (ih _) (rest_len b)
theorem rests_add (n m : Nat) (b : List Int) : rests m (rests n b) = rests (n + m) b := by
  induction n generalizing b with
  | zero => rw [Nat.zero_add]; rfl
  | succ n ih => rw [show n + 1 + m = (n + m) + 1 by omega]; exact ih _
theorem rests_nb (l k : List Int) : rests l.length (nb l ++ k) = k := by
  induction l with
  | nil => rfl
  | cons x l ih => rw [nb_cons, List.append_assoc, List.length_cons]; show rests l.length (rest _) = k; rw [rest_b8, ih]
/-! ### The numbers of commands -/
def numE (e : En) : List Int := [e.dip, e.port, e.wt]
def numEs (es : List En) : List Int := es.flatMap numE
def head9 (c : Cm) : List Int := [c.node, c.boot, c.seq, c.time, c.kind, c.vip, c.proto, c.port, (c.es.length : Int)]
def ub (b : Bool) : Int := if b then 1 else 0
def tail3 (c : Cm) : List Int := [c.dip, c.cvip, ub c.up]
def numC (c : Cm) : List Int := head9 c ++ (numEs c.es ++ tail3 c)
def numL (l : List Cm) : List Int := l.flatMap numC
def bytesL (l : List Cm) : List Int := nb ((l.length : Int) :: numL l)
theorem numEs_len (es : List En) : (numEs es).length = 3 * es.length := by
  unfold numEs
  induction es with
  | nil => rfl
  | cons a l ih => rw [List.flatMap_cons, List.length_append, ih, List.length_cons]; simp only [numE, List.length_cons, List.length_nil]; omega
theorem numEs_app (a b : List En) : numEs (a ++ b) = numEs a ++ numEs b := List.flatMap_append
theorem numEs_one (e : En) : numEs [e] = numE e := by simp [numEs]
theorem numC_len (c : Cm) : (numC c).length = 12 + 3 * c.es.length := by
  unfold numC head9 tail3
  rw [List.length_append, List.length_append, numEs_len]
  simp only [List.length_cons, List.length_nil]
  omega
theorem numL_app (a b : List Cm) : numL (a ++ b) = numL a ++ numL b := List.flatMap_append
theorem numL_one (c : Cm) : numL [c] = numC c := by simp [numL]
/-- How many ends commands have. -/
def ends : List Cm → Nat
  | [] => 0
  | c :: l => c.es.length + ends l
theorem ends_app (a b : List Cm) : ends (a ++ b) = ends a + ends b := by
  induction a with
  | nil => simp [ends]
  | cons c a ih => simp only [List.cons_append, ends, ih]; omega
theorem numL_len (l : List Cm) : (numL l).length = 12 * l.length + 3 * ends l := by
  induction l with
  | nil => rfl
  | cons c l ih =>
    have : numL (c :: l) = numC c ++ numL l := rfl
    rw [this, List.length_append, ih, numC_len, List.length_cons]
    simp only [ends]
    omega
theorem bytesL_len (l : List Cm) : (bytesL l).length = 8 + 96 * l.length + 24 * ends l := by
  unfold bytesL
  rw [nb_len, List.length_cons, numL_len]
  omega
theorem fit_bytesL (l : List Cm) : fit (bytesL l) := fit_nb _
theorem ends_good {l : List Cm} (h : ∀ c ∈ l, GoodC c) : ends l ≤ 64 * l.length := by
  induction l with
  | nil => simp [ends]
  | cons c l ih =>
    have h1 := goodC_es (h c List.mem_cons_self)
    have h2 := ih (fun x hx => h x (List.mem_cons_of_mem _ hx))
    simp only [ends, List.length_cons]
    omega
/-- How the program reads: a number, the next one ..; a missing one is 0. -/
def w32 (x : Int) : Int := x % 4294967296
def rdE (b : List Int) : En := ⟨w32 (rd b), rd (rest b), rd (rest (rest b))⟩
def rdEs : Nat → List Int → List En
  | 0, _ => []
  | n + 1, b => rdE b :: rdEs n (rests 3 b)
def cntE (x : Int) : Nat := (min x 64).toNat
def rdC (b : List Int) : Cm :=
  let n := cntE (rd (rests 8 b))
  let t := rests (3 * n) (rests 9 b)
  ⟨rd b, rd (rests 1 b), rd (rests 2 b), rd (rests 3 b), rd (rests 4 b), w32 (rd (rests 5 b)), rd (rests 6 b), rd (rests 7 b), rdEs n (rests 9 b), w32 (rd t), w32 (rd (rest t)), decide (rd (rests 2 t) = 1)⟩
def restC (b : List Int) : List Int := rests (3 * cntE (rd (rests 8 b)) + 3) (rests 9 b)
def rdCs : Nat → List Int → List Cm
  | 0, _ => []
  | n + 1, b => rdC b :: rdCs n (restC b)
def restCs : Nat → List Int → List Int
  | 0, b => b
  | n + 1, b => restCs n (restC b)
def cntL (x : Int) : Nat := (min x 256).toNat
def decL (b : List Int) : List Cm := rdCs (cntL (rd b)) (rest b)
/-- Are bytes a log's? -/
def IsLog (b : List Int) : Prop := GoodL (decL b) ∧ bytesL (decL b) = b
instance (b : List Int) : Decidable (IsLog b) := by unfold IsLog; infer_instance
theorem rdEs_len (n : Nat) (b : List Int) : (rdEs n b).length = n := by
  induction n generalizing b with
  | zero => rfl
  | succ n ih => simp only [rdEs, List.length_cons, ih]
theorem rdEs_more (n : Nat) (b : List Int) : rdEs (n + 1) b = rdEs n b ++ [rdE (rests (3 * n) b)] := by
  induction n generalizing b with
  | zero => rfl
  | succ n ih =>
    show rdE b :: rdEs (n + 1) (rests 3 b) = rdE b :: rdEs n (rests 3 b) ++ _
    rw [ih, rests_add, show 3 + 3 * n = 3 * (n + 1) by omega]
    rfl
theorem rdCs_len (n : Nat) (b : List Int) : (rdCs n b).length = n := by
  induction n generalizing b with
  | zero => rfl
  | succ n ih => simp only [rdCs, List.length_cons, ih]
theorem rdCs_more (n : Nat) (b : List Int) : rdCs (n + 1) b = rdCs n b ++ [rdC (restCs n b)] ∧ restCs (n + 1) b = restC (restCs n b) := by
  induction n generalizing b with
  | zero => exact ⟨rfl, rfl⟩
  | succ n ih =>
    obtain ⟨h1, h2⟩ := ih (restC b)
    refine ⟨?_, h2⟩
    show rdC b :: rdCs (n + 1) (restC b) = rdC b :: rdCs n (restC b) ++ _
    rw [h1]
    rfl
theorem restC_fit {b : List Int} (hf : fit b) : fit (restC b) := rests_fit (rests_fit hf 9) _
theorem restCs_fit {b : List Int} (hf : fit b) (n : Nat) : fit (restCs n b) := by
  induction n generalizing b with
  | zero => exact hf
  | succ n ih => exact ih (restC_fit hf)
theorem w32_ty (x : Int) : u32c (w32 x) := by unfold w32 u32c; omega
theorem w32_id {x : Int} (h : u32c x) : w32 x = x := by unfold w32; unfold u32c at h; omega
theorem rdE_ty {b : List Int} (hf : fit b) : TyEn (rdE b) := ⟨w32_ty _, rd_ty (rest_fit hf), rd_ty (rest_fit (rest_fit hf))⟩
theorem rdEs_ty {b : List Int} (hf : fit b) (n : Nat) : ∀ e ∈ rdEs n b, TyEn e := by
  induction n generalizing b with
  | zero => intro e he; cases he
  | succ n ih =>
    intro e he
    rcases List.mem_cons.1 he with rfl | he
    · exact rdE_ty hf
    · exact ih (rests_fit hf 3) e he
theorem cntE_le (x : Int) : cntE x ≤ 64 := by unfold cntE; omega
theorem cntL_le (x : Int) : cntL x ≤ 256 := by unfold cntL; omega
theorem rdC_ty {b : List Int} (hf : fit b) : TyC (rdC b) := by
  have hr := fun n => rd_ty (rests_fit hf n)
  have h3 := rdEs_ty (rests_fit hf 9) (cntE (rd (rests 8 b)))
  have h4 := rdEs_len (cntE (rd (rests 8 b))) (rests 9 b)
  have h5 := cntE_le (rd (rests 8 b))
  have h0 := rd_ty hf
  have h1 := hr 1
  have h2 := hr 2
  have h6 := hr 3
  have h7 := hr 4
  have h8 := hr 6
  have h9 := hr 7
  unfold rdC
  generalize cntE (rd (rests 8 b)) = n at *
  generalize rests (3 * n) (rests 9 b) = t at *
  generalize rests 9 b = b9 at *
  generalize rests 7 b = b7 at *
  generalize rests 6 b = b6 at *
  generalize rests 5 b = b5 at *
  generalize rests 4 b = b4 at *
  generalize rests 3 b = b3 at *
  generalize rests 2 b = b2 at *
  generalize rests 1 b = b1 at *
  exact ⟨h0, h1, h2, h6, h7, w32_ty _, h8, h9, w32_ty _, w32_ty _, h3, by
    show (rdEs n b9).length ≤ _
    omega⟩
theorem rdCs_ty {b : List Int} (hf : fit b) (n : Nat) : ∀ c ∈ rdCs n b, TyC c := by
  induction n generalizing b with
  | zero => intro e he; cases he
  | succ n ih =>
    intro e he
    rcases List.mem_cons.1 he with rfl | he
    · exact rdC_ty hf
    · exact ih (restC_fit hf) e he
theorem decL_ty {b : List Int} (hf : fit b) : ∀ c ∈ decL b, TyC c := rdCs_ty (rest_fit hf) _
theorem decL_len (b : List Int) : (decL b).length ≤ 256 := by unfold decL; rw [rdCs_len]; exact cntL_le _
/-! ### What was written is read -/
theorem i64_u32 {x : Int} (h : u32c x) : i64c x := by unfold u32c at h; unfold i64c; omega
theorem rdE_nb {e : En} (h : TyEn e) (k : List Int) : rdE (nb (numE e) ++ k) = e ∧ rests 3 (nb (numE e) ++ k) = k := by
  refine ⟨?_, rests_nb (numE e) k⟩
  have e1 : nb (numE e) ++ k = b8 e.dip ++ (b8 e.port ++ (b8 e.wt ++ k)) := by simp [numE, nb]
  rw [e1]
  unfold rdE
  rw [rd_b8 (i64_u32 h.1), rest_b8, rd_b8 h.2.1, rest_b8, rd_b8 h.2.2, w32_id h.1]
theorem rdEs_nb {es : List En} (h : ∀ e ∈ es, TyEn e) (k : List Int) : rdEs es.length (nb (numEs es) ++ k) = es := by
  induction es with
  | nil => rfl
  | cons e es ih =>
    have e1 : nb (numEs (e :: es)) ++ k = nb (numE e) ++ (nb (numEs es) ++ k) := by
      have : numEs (e :: es) = numE e ++ numEs es := rfl
      rw [this, nb_app, List.append_assoc]
    rw [e1]
    obtain ⟨h1, h2⟩ := rdE_nb (h e List.mem_cons_self) (nb (numEs es) ++ k)
    show rdE _ :: rdEs es.length (rests 3 _) = _
    rw [h1, h2, ih (fun x hx => h x (List.mem_cons_of_mem _ hx))]
theorem rests_nb' {l k b : List Int} {n : Nat} (hn : n = l.length) (hb : b = nb l ++ k) : rests n b = k := by rw [hn, hb, rests_nb]
theorem rdC_nb {c : Cm} (h : TyC c) (h64 : c.es.length ≤ 64) (k : List Int) : rdC (nb (numC c) ++ k) = c ∧ restC (nb (numC c) ++ k) = k := by
  have e1 : nb (numC c) ++ k = b8 c.node ++ (b8 c.boot ++ (b8 c.seq ++ (b8 c.time ++ (b8 c.kind ++ (b8 c.vip ++ (b8 c.proto ++ (b8 c.port ++ (b8 (c.es.length : Int) ++ (nb (numEs c.es) ++ (b8 c.dip ++ (b8 c.cvip ++ (b8 (ub c.up) ++ k)))))))))))) := by
    simp only [numC, head9, tail3, nb_app, nb_cons, List.append_assoc]
    simp [nb]
  have r9 : rests 9 (nb (numC c) ++ k) = nb (numEs c.es) ++ (b8 c.dip ++ (b8 c.cvip ++ (b8 (ub c.up) ++ k))) := by
    rw [e1]
    simp only [rests, rest_b8]
  have r8 : rd (rests 8 (nb (numC c) ++ k)) = (c.es.length : Int) := by
    rw [e1]
    simp only [rests, rest_b8]
    exact rd_b8 ⟨by omega, by omega⟩ _
  have hn : cntE (c.es.length : Int) = c.es.length := by unfold cntE; omega
  have rt : rests (3 * c.es.length) (nb (numEs c.es) ++ (b8 c.dip ++ (b8 c.cvip ++ (b8 (ub c.up) ++ k)))) = b8 c.dip ++ (b8 c.cvip ++ (b8 (ub c.up) ++ k)) := rests_nb' (numEs_len _).symm rfl
  constructor
  · have hu : i64c (ub c.up) := by unfold ub i64c; split <;> omega
    unfold rdC
    rw [r8, hn, r9]
    simp only [rt]
    rw [rd_b8 (i64_u32 h.dip), rest_b8, rd_b8 (i64_u32 h.cvip), w32_id h.dip, w32_id h.cvip, rdEs_nb h.es, e1]
    simp only [rests, rest_b8]
    rw [rd_b8 h.node, rd_b8 h.boot, rd_b8 h.seq, rd_b8 h.time, rd_b8 h.kind, rd_b8 (i64_u32 h.vip), rd_b8 h.proto, rd_b8 h.port, w32_id h.vip, rd_b8 hu]
    have : decide (ub c.up = 1) = c.up := by cases c.up <;> rfl
    rw [this]
  · unfold restC
    rw [r8, hn, r9, ← rests_add, rt]
    simp only [rests, rest_b8]
theorem rdCs_nb {l : List Cm} (h : ∀ c ∈ l, TyC c) (h64 : ∀ c ∈ l, c.es.length ≤ 64) (k : List Int) : rdCs l.length (nb (numL l) ++ k) = l := by
  induction l with
  | nil => rfl
  | cons c l ih =>
    have e1 : nb (numL (c :: l)) ++ k = nb (numC c) ++ (nb (numL l) ++ k) := by
      have : numL (c :: l) = numC c ++ numL l := rfl
      rw [this, nb_app, List.append_assoc]
    rw [e1]
    obtain ⟨h1, h2⟩ := rdC_nb (h c List.mem_cons_self) (h64 c List.mem_cons_self) (nb (numL l) ++ k)
    show rdC _ :: rdCs l.length (restC _) = _
    rw [h1, h2, ih (fun x hx => h x (List.mem_cons_of_mem _ hx)) (fun x hx => h64 x (List.mem_cons_of_mem _ hx))]
theorem dec_bytes {l : List Cm} (h : ∀ c ∈ l, TyC c) (hg : GoodL l) : decL (bytesL l) = l := by
  have hl := hg.1
  have e : bytesL l = b8 (l.length : Int) ++ nb (numL l) := nb_cons _ _
  unfold decL
  rw [e, rd_b8 ⟨by omega, by omega⟩, rest_b8, show cntL (l.length : Int) = l.length by unfold cntL; omega]
  have := rdCs_nb h (fun c hc => goodC_es (hg.2.1 c hc)) []
  rwa [List.append_nil] at this
theorem isLog_bytes {l : List Cm} (h : ∀ c ∈ l, TyC c) (hg : GoodL l) : IsLog (bytesL l) := by
  unfold IsLog
  rw [dec_bytes h hg]
  exact ⟨hg, rfl⟩
end Go.Proofs.Ytnhnpfhfcbmmlaa
namespace Go.Proofs.Ytnhnpfhfcbmmlaa
open Go Go.RowKit
set_option linter.unusedVariables false
set_option linter.unusedSimpArgs false

def IsNode (n : Int) : Prop := n = 0 ∨ (16 ≤ n ∧ n ≤ 23) ∨ (32 ≤ n ∧ n ≤ 39) ∨ (48 ≤ n ∧ n ≤ 55)
instance (n : Int) : Decidable (IsNode n) := by unfold IsNode; infer_instance

theorem places_0 (w : World) : Calls Try.prog 122 #[.int .i64 0] w fun e w' => e = .returned (.int .i64 1) ∧ w = w' := by
  go_enter Try.func122, Try.ntmps122
  go_wp2
  go_ret
  exact ⟨rfl, rfl⟩
theorem places_8 (k : Int) (h : k = 16 ∨ k = 32 ∨ k = 48) (w : World) : Calls Try.prog 122 #[.int .i64 k] w fun e w' => e = .returned (.int .i64 8) ∧ w = w' := by
  rcases h with rfl | rfl | rfl
  all_goals
    go_enter Try.func122, Try.ntmps122
    go_wp2
    go_ret
    exact ⟨rfl, rfl⟩
theorem places_no (k : Int) (h0 : k ≠ 0) (h1 : k ≠ 16) (h2 : k ≠ 32) (h3 : k ≠ 48) (w : World) : Calls Try.prog 122 #[.int .i64 k] w fun e w' => e = .returned (.int .i64 0) ∧ w = w' := by
  have b0 : (k == 0) = false := by simp [h0]
  have b1 : (k == 16) = false := by simp [h1]
  have b2 : (k == 32) = false := by simp [h2]
  have b3 : (k == 48) = false := by simp [h3]
  clear h0 h1 h2 h3
  go_enter Try.func122, Try.ntmps122
  go_wp2
  go_ret
  exact ⟨rfl, rfl⟩

theorem kat0 (w : World) : (Instr.index 190 (.agg #[.int .i64 0, .int .i64 16, .int .i64 32, .int .i64 48]) (.int .i64 0)).run Try.prog w = .ok (.int .i64 0) w := by kernel_rfl
theorem kat1 (w : World) : (Instr.index 190 (.agg #[.int .i64 0, .int .i64 16, .int .i64 32, .int .i64 48]) (.int .i64 1)).run Try.prog w = .ok (.int .i64 16) w := by kernel_rfl
theorem kat2 (w : World) : (Instr.index 190 (.agg #[.int .i64 0, .int .i64 16, .int .i64 32, .int .i64 48]) (.int .i64 2)).run Try.prog w = .ok (.int .i64 32) w := by kernel_rfl
theorem kat3 (w : World) : (Instr.index 190 (.agg #[.int .i64 0, .int .i64 16, .int .i64 32, .int .i64 48]) (.int .i64 3)).run Try.prog w = .ok (.int .i64 48) w := by kernel_rfl

/-- A node's kind. -/
def kd (n : Int) : Int := n / 16 * 16

/-- A counter of at most m. -/
theorem kind_no (n : Int) (hm : n ≤ 9223372036854775807) (h : ¬ IsNode n) (w : World) : Calls Try.prog 101 #[.int .i64 n] w fun e w' => e = .returned (.tuple #[.int .i64 0, .int .i64 0, .bool false]) ∧ w = w' := by
  have e0 := kat0
  have e1 := kat1
  have e2 := kat2
  have e3 := kat3
  have q0 : n < 0 ∨ (0 ≤ n ∧ 1 ≤ n) := by unfold IsNode at h; omega
  have q1 : n < 16 ∨ (16 ≤ n ∧ 24 ≤ n) := by unfold IsNode at h; omega
  have q2 : n < 32 ∨ (32 ≤ n ∧ 40 ≤ n) := by unfold IsNode at h; omega
  have q3 : n < 48 ∨ (48 ≤ n ∧ 56 ≤ n) := by unfold IsNode at h; omega
  have Q := Lib.hid (And.intro q0 (And.intro q1 (And.intro q2 q3)))
  clear h q0 q1 q2 q3
  go_enter Try.func101, Try.ntmps101
  go_wp2
  go_loop [8] (fun i => KRel 4 i) (fun i => 4 - (intOf i).toNat)
  case atStart => exact ⟨0, by omega, rfl⟩
  case round =>
    obtain ⟨k, hk, rfl⟩ := hrel
    have hk' : k = 0 ∨ k = 1 ∨ k = 2 ∨ k = 3 ∨ k = 4 := by omega
    rcases hk' with rfl | rfl | rfl | rfl | rfl
    · rcases Q.out.1 with h | ⟨h, h'⟩
      all_goals
        go_wp2_with (go_at_call 122; refine (places_0 _).mono ?_; rintro e w' ⟨rfl, rfl⟩)
        go_round
        case rel => exact ⟨1, by omega, rfl⟩
        case measure => simp [intOf]
    · rcases Q.out.2.1 with h | ⟨h, h'⟩
      all_goals
        go_wp2_with (go_at_call 122; refine (places_8 16 (by decide) _).mono ?_; rintro e w' ⟨rfl, rfl⟩)
        go_round
        case rel => exact ⟨2, by omega, rfl⟩
        case measure => simp [intOf]
    · rcases Q.out.2.2.1 with h | ⟨h, h'⟩
      all_goals
        go_wp2_with (go_at_call 122; refine (places_8 32 (by decide) _).mono ?_; rintro e w' ⟨rfl, rfl⟩)
        go_round
        case rel => exact ⟨3, by omega, rfl⟩
        case measure => simp [intOf]
    · rcases Q.out.2.2.2 with h | ⟨h, h'⟩
      all_goals
        go_wp2_with (go_at_call 122; refine (places_8 48 (by decide) _).mono ?_; rintro e w' ⟨rfl, rfl⟩)
        go_round
        case rel => exact ⟨4, by omega, rfl⟩
        case measure => simp [intOf]
    · go_wp2
      go_ret3
      exact ⟨rfl, rfl⟩

/-- One round of Kind's loop at which the node is not of that kind; the last one finds it. -/
theorem kind_ok (n : Int) (h : IsNode n) (w : World) : Calls Try.prog 101 #[.int .i64 n] w fun e w' => e = .returned (.tuple #[.int .i64 (kd n), .int .i64 (n - kd n), .bool true]) ∧ w = w' := by
  have e0 := kat0
  have e1 := kat1
  have e2 := kat2
  have e3 := kat3
  obtain ⟨c, hc⟩ : ∃ c, c = kd n := ⟨_, rfl⟩
  rw [← hc]
  unfold kd at hc
  have h' : (c = 0 ∧ n = 0) ∨ (c = 16 ∧ 16 ≤ n ∧ n < 24) ∨ (c = 32 ∧ 32 ≤ n ∧ n < 40) ∨ (c = 48 ∧ 48 ≤ n ∧ n < 56) := by unfold IsNode at h; omega
  clear h hc
  rcases h' with ⟨rfl, rfl⟩ | ⟨rfl, g0, g1⟩ | ⟨rfl, g0, g1⟩ | ⟨rfl, g0, g1⟩
  · go_enter Try.func101, Try.ntmps101
    go_wp2
    go_loop [8] (fun i => KRel 0 i) (fun i => 4 - (intOf i).toNat)
    case atStart => exact ⟨0, by omega, rfl⟩
    case round =>
      obtain ⟨k, hk, rfl⟩ := hrel
      have hk' : k = 0 := by omega
      rcases hk' with rfl
      · go_wp2_with (go_at_call 122; refine (places_0 _).mono ?_; rintro e w' ⟨rfl, rfl⟩)
        go_ret3
        exact ⟨rfl, rfl⟩
  · go_enter Try.func101, Try.ntmps101
    go_wp2
    go_loop [8] (fun i => KRel 1 i) (fun i => 4 - (intOf i).toNat)
    case atStart => exact ⟨0, by omega, rfl⟩
    case round =>
      obtain ⟨k, hk, rfl⟩ := hrel
      have hk' : k = 0 ∨ k = 1 := by omega
      rcases hk' with rfl | rfl
      · go_wp2_with (go_at_call 122; refine (places_0 _).mono ?_; rintro e w' ⟨rfl, rfl⟩)
        go_round
        case rel => exact ⟨1, by omega, rfl⟩
        case measure => simp [intOf]
      · go_wp2_with (go_at_call 122; refine (places_8 16 (by decide) _).mono ?_; rintro e w' ⟨rfl, rfl⟩)
        go_ret3
        exact ⟨rfl, rfl⟩
  · go_enter Try.func101, Try.ntmps101
    go_wp2
    go_loop [8] (fun i => KRel 2 i) (fun i => 4 - (intOf i).toNat)
    case atStart => exact ⟨0, by omega, rfl⟩
    case round =>
      obtain ⟨k, hk, rfl⟩ := hrel
      have hk' : k = 0 ∨ k = 1 ∨ k = 2 := by omega
      rcases hk' with rfl | rfl | rfl
      · go_wp2_with (go_at_call 122; refine (places_0 _).mono ?_; rintro e w' ⟨rfl, rfl⟩)
        go_round
        case rel => exact ⟨1, by omega, rfl⟩
        case measure => simp [intOf]
      · go_wp2_with (go_at_call 122; refine (places_8 16 (by decide) _).mono ?_; rintro e w' ⟨rfl, rfl⟩)
        go_round
        case rel => exact ⟨2, by omega, rfl⟩
        case measure => simp [intOf]
      · go_wp2_with (go_at_call 122; refine (places_8 32 (by decide) _).mono ?_; rintro e w' ⟨rfl, rfl⟩)
        go_ret3
        exact ⟨rfl, rfl⟩
  · go_enter Try.func101, Try.ntmps101
    go_wp2
    go_loop [8] (fun i => KRel 3 i) (fun i => 4 - (intOf i).toNat)
    case atStart => exact ⟨0, by omega, rfl⟩
    case round =>
      obtain ⟨k, hk, rfl⟩ := hrel
      have hk' : k = 0 ∨ k = 1 ∨ k = 2 ∨ k = 3 := by omega
      rcases hk' with rfl | rfl | rfl | rfl
      · go_wp2_with (go_at_call 122; refine (places_0 _).mono ?_; rintro e w' ⟨rfl, rfl⟩)
        go_round
        case rel => exact ⟨1, by omega, rfl⟩
        case measure => simp [intOf]
      · go_wp2_with (go_at_call 122; refine (places_8 16 (by decide) _).mono ?_; rintro e w' ⟨rfl, rfl⟩)
        go_round
        case rel => exact ⟨2, by omega, rfl⟩
        case measure => simp [intOf]
      · go_wp2_with (go_at_call 122; refine (places_8 32 (by decide) _).mono ?_; rintro e w' ⟨rfl, rfl⟩)
        go_round
        case rel => exact ⟨3, by omega, rfl⟩
        case measure => simp [intOf]
      · go_wp2_with (go_at_call 122; refine (places_8 48 (by decide) _).mono ?_; rintro e w' ⟨rfl, rfl⟩)
        go_ret3
        exact ⟨rfl, rfl⟩
end Go.Proofs.Ytnhnpfhfcbmmlaa
namespace Go.Proofs.Ytnhnpfhfcbmmlaa
open Go Go.RowKit
set_option linter.unusedVariables false
set_option linter.unusedSimpArgs false

abbrev tyC : TypeId := 42
theorem infoE : (Try.prog.info? 74).map (fun i => (i.zero, i.size, i.bytes)) = some (some (.agg #[.int .u32 0, .int .i64 0, .int .i64 0]), 3, 24) := by kernel_rfl
theorem infoC : (Try.prog.info? 42).map (fun i => (i.zero, i.size, i.bytes)) = some (some (.agg #[.int .i64 0, .int .i64 0, .int .i64 0, .int .i64 0, .int .i64 0, .int .u32 0, .int .i64 0, .int .i64 0, .slice none 0 0, .int .u32 0, .int .u32 0, .bool false]), 12, 104) := by kernel_rfl
def Cm.cs (x : Cm) (v : Value) : List Value := [.int .i64 x.node, .int .i64 x.boot, .int .i64 x.seq, .int .i64 x.time, .int .i64 x.kind, .int .u32 x.vip, .int .i64 x.proto, .int .i64 x.port, v, .int .u32 x.dip, .int .u32 x.cvip, .bool x.up]
abbrev Cm.arr (x : Cm) (v : Value) : Array Value := #[.int .i64 x.node, .int .i64 x.boot, .int .i64 x.seq, .int .i64 x.time, .int .i64 x.kind, .int .u32 x.vip, .int .i64 x.proto, .int .i64 x.port, v, .int .u32 x.dip, .int .u32 x.cvip, .bool x.up]
abbrev Cm.val (x : Cm) (v : Value) : Value := .agg (x.arr v)
abbrev Cm.obj (x : Cm) (v : Value) : Obj := .cells (x.arr v) tyC
def cellsC : List Cm → List Value → List Value
  | l :: ls, v :: vs => l.cs v ++ cellsC ls vs
  | _, _ => []
theorem cellsC_len : ∀ {ls : List Cm} {vs : List Value}, vs.length = ls.length → (cellsC ls vs).length = ls.length * 12
  | [], [], _ => rfl
  | l :: ls, v :: vs, h => by
    have := cellsC_len (ls := ls) (vs := vs) (by simpa using h)
    simp only [cellsC, Cm.cs, List.length_append, List.length_cons, List.length_nil, this]
    omega
  | [], _ :: _, h => by simp at h
  | _ :: _, [], h => by simp at h
theorem cellsC_app : ∀ {ls : List Cm} {vs : List Value}, vs.length = ls.length → ∀ {ms : List Cm} {us : List Value}, cellsC (ls ++ ms) (vs ++ us) = cellsC ls vs ++ cellsC ms us
  | [], [], _, _, _ => rfl
  | l :: ls, v :: vs, h, ms, us => by
    have := cellsC_app (ls := ls) (vs := vs) (by simpa using h) (ms := ms) (us := us)
    simp only [List.cons_append, cellsC, this, List.append_assoc]
  | [], _ :: _, h, _, _ => by simp at h
  | _ :: _, [], h, _, _ => by simp at h
theorem cellsC_one (l : Cm) (v : Value) : cellsC [l] [v] = l.cs v := by simp [cellsC]
theorem cellsC_at : ∀ {ls : List Cm} {vs : List Value}, vs.length = ls.length → ∀ {j i : Nat}, j < ls.length → i < 12 → (cellsC ls vs)[j * 12 + i]? = ((ls.getD j cm0).cs (vs.getD j undef))[i]?
  | [], [], _, j, i, hj, _ => by simp at hj
  | l :: ls, v :: vs, h, 0, i, _, hi => by
    simp only [cellsC, Nat.zero_mul, Nat.zero_add, List.getD_cons_zero]
    exact List.getElem?_append_left (by simp [Cm.cs]; omega)
  | l :: ls, v :: vs, h, j + 1, i, hj, hi => by
    have := cellsC_at (ls := ls) (vs := vs) (by simpa using h) (j := j) (i := i) (by simpa using hj) hi
    simp only [cellsC, List.getD_cons_succ]
    rw [List.getElem?_append_right (by simp [Cm.cs]; omega), ← this]
    congr 1
    simp [Cm.cs]
    omega
  | [], _ :: _, h, _, _, _, _ => by simp at h
  | _ :: _, [], h, _, _, _, _ => by simp at h
theorem cs_one1 (l : Cm) {v : Value} (h : v.oneCell' = true) : ∀ u ∈ l.cs v, u.oneCell' = true := by
  intro u hu
  simp only [Cm.cs, List.mem_cons, List.not_mem_nil, or_false] at hu
  rcases hu with rfl | rfl | rfl | rfl | rfl | rfl | rfl | rfl | rfl | rfl | rfl | rfl <;> first | rfl | exact h
theorem cellsC_one1 : ∀ {ls : List Cm} {vs : List Value}, (∀ v ∈ vs, v.oneCell' = true) → ∀ u ∈ cellsC ls vs, u.oneCell' = true
  | [], _, _, u, hu => by simp [cellsC] at hu
  | _ :: _, [], _, u, hu => by simp [cellsC] at hu
  | l :: ls, v :: vs, h, u, hu => by
    simp only [cellsC, List.mem_append] at hu
    rcases hu with hu | hu
    · exact cs_one1 l (h v List.mem_cons_self) u hu
    · exact cellsC_one1 (fun v hv => h v (List.mem_cons_of_mem _ hv)) u hu
/-- A row of commands that can be read. -/
structure InC (w : World) (a : Option Addr) (n cap : Nat) (ls : List Cm) (vs : List Value) : Prop where
  len : ls.length = n
  vlen : vs.length = ls.length
  room : n ≤ cap
  none : a = Option.none → cap = 0
  here : ls = [] ∨ ∃ b off, a = some ⟨b, off, .none⟩ ∧ ∀ t u, (cellsC ls vs)[t]? = some u → w.cell? ⟨b, off + t, .none⟩ = some u
  ends : ∀ j, j < n → ∃ ao k c, vs.getD j undef = .slice ao k c ∧ InE w ao k c (ls.getD j cm0).es
  typ : ∀ c ∈ ls, TyC c
/-- The blocks that it reads. -/
def BkC (a : Option Addr) (vs : List Value) (k : Nat) : Prop := (∃ ad, a = some ad ∧ ad.block = k) ∨ ∃ v ∈ vs, ∃ ad n c, v = .slice (some ad) n c ∧ ad.block = k
theorem InE.keep {T : Nat → Prop} {w w' : World} {a : Option Addr} {n cap : Nat} {es : List En} (h : InE w a n cap es) (ht : Tch T w w') (hn : ∀ ad, a = some ad → ¬ T ad.block) : InE w' a n cap es := by
  refine ⟨h.len, h.room, h.none, ?_, h.typ⟩
  rcases h.here with h0 | ⟨b, off, ha, hc⟩
  · exact .inl h0
  · exact .inr ⟨b, off, ha, fun t u hu => ht.cell (hc t u hu) (hn ⟨b, off, .none⟩ ha)⟩
theorem InC.keep {T : Nat → Prop} {w w' : World} {a : Option Addr} {n cap : Nat} {ls : List Cm} {vs : List Value} (h : InC w a n cap ls vs) (ht : Tch T w w') (hn : ∀ k, BkC a vs k → ¬ T k) : InC w' a n cap ls vs := by
  refine ⟨h.len, h.vlen, h.room, h.none, ?_, fun j hj => ?_, h.typ⟩
  · rcases h.here with h0 | ⟨b, off, ha, hc⟩
    · exact .inl h0
    · exact .inr ⟨b, off, ha, fun t u hu => ht.cell (hc t u hu) (hn b (.inl ⟨_, ha, rfl⟩))⟩
  · obtain ⟨ao, k, c, e, hE⟩ := h.ends j hj
    refine ⟨ao, k, c, e, hE.keep ht (fun ad ha => hn _ (.inr ⟨vs.getD j undef, ?_, ad, k, c, by rw [e, ha], rfl⟩))⟩
    rw [List.getD_eq_getElem?_getD, List.getElem?_eq_getElem (by rw [h.vlen, h.len]; exact hj)]
    exact List.getElem_mem _
theorem InC.below {w w' : World} {a : Option Addr} {n cap : Nat} {ls : List Cm} {vs : List Value} (h : InC w a n cap ls vs) (hb : Below w.heap.size w w') : InC w' a n cap ls vs := by
  refine ⟨h.len, h.vlen, h.room, h.none, ?_, fun j hj => ?_, h.typ⟩
  · rcases h.here with h0 | ⟨b, off, ha, hc⟩
    · exact .inl h0
    · exact .inr ⟨b, off, ha, fun t u hu => (hb.cell (p := ⟨b, off + t, .none⟩) (block_lt_of_cell (hc t u hu))).trans (hc t u hu)⟩
  · obtain ⟨ao, k, c, e, hE⟩ := h.ends j hj
    exact ⟨ao, k, c, e, hE.below hb⟩
theorem InC.block {w : World} {a : Option Addr} {n c : Nat} {ls : List Cm} {vs : List Value} (h : InC w a n c ls vs) (hn : 0 < n) : ∃ b off, a = some ⟨b, off, .none⟩ := by
  rcases h.here with h0 | ⟨b, off, ha, _⟩
  · have := h.len; rw [h0] at this; simp at this; omega
  · exact ⟨b, off, ha⟩
/-- One command in memory. -/
structure CAt (w : World) (b o : Nat) (x : Cm) (v : Value) : Prop where
  c0 : w.cell? ⟨b, o, none⟩ = some (.int .i64 x.node)
  c1 : w.cell? ⟨b, o + 1, none⟩ = some (.int .i64 x.boot)
  c2 : w.cell? ⟨b, o + 2, none⟩ = some (.int .i64 x.seq)
  c3 : w.cell? ⟨b, o + 3, none⟩ = some (.int .i64 x.time)
  c4 : w.cell? ⟨b, o + 4, none⟩ = some (.int .i64 x.kind)
  c5 : w.cell? ⟨b, o + 5, none⟩ = some (.int .u32 x.vip)
  c6 : w.cell? ⟨b, o + 6, none⟩ = some (.int .i64 x.proto)
  c7 : w.cell? ⟨b, o + 7, none⟩ = some (.int .i64 x.port)
  c8 : w.cell? ⟨b, o + 8, none⟩ = some v
  c9 : w.cell? ⟨b, o + 9, none⟩ = some (.int .u32 x.dip)
  c10 : w.cell? ⟨b, o + 10, none⟩ = some (.int .u32 x.cvip)
  c11 : w.cell? ⟨b, o + 11, none⟩ = some (.bool x.up)
theorem InC.cell {w : World} {b off n c : Nat} {ls : List Cm} {vs : List Value} (h : InC w (some ⟨b, off, .none⟩) n c ls vs) {j : Nat} (hj : j < n) : CAt w b (off + j * 12) (ls.getD j cm0) (vs.getD j undef) := by
  have hl := h.len
  rcases h.here with h0 | ⟨b', off', ha, hc⟩
  · rw [h0] at hl; simp at hl; omega
  · cases ha
    have g : ∀ i, i < 12 → ∀ u, ((ls.getD j cm0).cs (vs.getD j undef))[i]? = some u → w.cell? ⟨b, off + (j * 12 + i), .none⟩ = some u := fun i hi u hu => hc (j * 12 + i) u ((cellsC_at h.vlen (by omega) hi).trans hu)
    have e := fun i => Nat.add_assoc off (j * 12) i
    refine ⟨g 0 (by omega) _ rfl, ?_, ?_, ?_, ?_, ?_, ?_, ?_, ?_, ?_, ?_, ?_⟩
    · rw [e]; exact g 1 (by omega) _ rfl
    · rw [e]; exact g 2 (by omega) _ rfl
    · rw [e]; exact g 3 (by omega) _ rfl
    · rw [e]; exact g 4 (by omega) _ rfl
    · rw [e]; exact g 5 (by omega) _ rfl
    · rw [e]; exact g 6 (by omega) _ rfl
    · rw [e]; exact g 7 (by omega) _ rfl
    · rw [e]; exact g 8 (by omega) _ rfl
    · rw [e]; exact g 9 (by omega) _ rfl
    · rw [e]; exact g 10 (by omega) _ rfl
    · rw [e]; exact g 11 (by omega) _ rfl
theorem memC {ls : List Cm} {i : Nat} (hi : i < ls.length) : ls.getD i cm0 ∈ ls := by
  rw [List.getD_eq_getElem?_getD, List.getElem?_eq_getElem hi]
  exact List.getElem_mem _
theorem InC.ty {w : World} {a : Option Addr} {n c : Nat} {ls : List Cm} {vs : List Value} (h : InC w a n c ls vs) {j : Nat} (hj : j < n) : TyC (ls.getD j cm0) := h.typ _ (memC (by rw [h.len]; exact hj))
theorem CAt.map {w w' : World} {b o : Nat} {x : Cm} {v : Value} (h : CAt w b o x v) (hm : ∀ (k : Nat) (v : Value), w.cell? ⟨b, k, none⟩ = some v → w'.cell? ⟨b, k, none⟩ = some v) : CAt w' b o x v :=
  ⟨hm _ _ h.c0, hm _ _ h.c1, hm _ _ h.c2, hm _ _ h.c3, hm _ _ h.c4, hm _ _ h.c5, hm _ _ h.c6, hm _ _ h.c7, hm _ _ h.c8, hm _ _ h.c9, hm _ _ h.c10, hm _ _ h.c11⟩
theorem CAt.below {w w' : World} {b o : Nat} {x : Cm} {v : Value} (h : CAt w b o x v) (hb : Below w.heap.size w w') : CAt w' b o x v :=
  h.map (fun k u hc => (hb.cell (p := ⟨b, k, none⟩) (block_lt_of_cell hc)).trans hc)
theorem CAt.tch {T : Nat → Prop} {w w' : World} {b o : Nat} {x : Cm} {v : Value} (h : CAt w b o x v) (ht : Tch T w w') (hn : ¬ T b) : CAt w' b o x v :=
  h.map (fun k u hc => ht.cell hc hn)
theorem CAt.lt {w : World} {b o : Nat} {x : Cm} {v : Value} (h : CAt w b o x v) : b < w.heap.size := block_lt_of_cell h.c0
theorem cAt_new (w : World) (x : Cm) (v : Value) : CAt (w.alloc (x.obj v)) w.heap.size 0 x v := by
  refine ⟨?_, ?_, ?_, ?_, ?_, ?_, ?_, ?_, ?_, ?_, ?_, ?_⟩ <;> (rw [World.cell?_alloc_mark]; rfl)
theorem inC_nil (w : World) : InC w none 0 0 [] [] := ⟨rfl, rfl, Nat.le_refl _, fun _ => rfl, .inl rfl, fun j hj => by omega, fun c hc => by cases hc⟩
theorem inC_nilAt (w : World) (a : Option Addr) (c : Nat) (h : a = Option.none → c = 0) : InC w a 0 c [] [] := ⟨rfl, rfl, Nat.zero_le _, h, .inl rfl, fun j hj => by omega, fun c hc => by cases hc⟩
theorem InC.zero {w : World} {a : Option Addr} {n cap : Nat} {ls : List Cm} {vs : List Value} (h : InC w a n cap ls vs) : a = Option.none → n = 0 ∧ cap = 0 := fun e => by
  have h1 := h.none e
  have h2 := h.room
  exact ⟨by omega, h1⟩
theorem own_inC {w : World} {B n c : Nat} {ao : Option Addr} {ls : List Cm} {vs : List Value} (h : w.ownsRow B tyC 12 (.slice ao n c) n (cellsC ls vs)) (hv : vs.length = ls.length) (he : ∀ j, j < n → ∃ ao k c, vs.getD j undef = .slice ao k c ∧ InE w ao k c (ls.getD j cm0).es) (ht : ∀ c ∈ ls, TyC c) : InC w ao n c ls vs := by
  have hl : ls.length = n := by have := h.1; rw [cellsC_len hv] at this; omega
  rcases h.2 with ⟨e, h0⟩ | ⟨g, cap, cur, e, _, hg, h1, h2, h3, h4⟩
  · simp only [Value.slice.injEq] at e
    obtain ⟨rfl, rfl, rfl⟩ := e
    exact ⟨hl, hv, Nat.le_refl _, fun _ => rfl, .inl (List.eq_nil_of_length_eq_zero hl), he, ht⟩
  · simp only [Value.slice.injEq] at e
    obtain ⟨rfl, _, rfl⟩ := e
    refine ⟨hl, hv, h1, (fun e => by cases e), .inr ⟨g, 0, rfl, fun t u hu => ?_⟩, he, ht⟩
    rw [Nat.zero_add, cell_of_row w g t _ _ _ hg, ← Array.getElem?_toList]
    rw [← h4, List.getElem?_take] at hu
    split at hu
    · exact hu
    · cases hu
theorem take_moreC (ls : List Cm) {i : Nat} (hi : i < ls.length) : ls.take (i + 1) = ls.take i ++ [ls.getD i cm0] := take_more ls cm0 hi
theorem memV {vs : List Value} {i : Nat} (hi : i < vs.length) : vs.getD i undef ∈ vs := by
  rw [List.getD_eq_getElem?_getD, List.getElem?_eq_getElem hi]
  exact List.getElem_mem _
end Go.Proofs.Ytnhnpfhfcbmmlaa
