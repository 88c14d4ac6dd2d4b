/- Rows of ballots as cells; ranges of a block that are wiped. No program. Rows of commands that are wiped with their ends. No program. What a round of VotePlays keeps; behind an Accept. No program. -/
import Derived.Test.YtnhnpfhfcbmmlaaScV
import Derived.Deep.MidRow
import Derived.Test.YtnhnpfhfcbmmlaaVtC
import Derived.Laws.IdiomCopy
import Derived.Test.YtnhnpfhfcbmmlaaVpC
import Derived.Test.YtnhnpfhfcbmmlaaVpN
namespace Go.Proofs.Ytnhnpfhfcbmmlaa
open Go Go.RowKit
set_option linter.unusedVariables false
set_option linter.unusedSimpArgs false

theorem infoB2 : (Try.prog.info? 61).map (fun i => (i.zero, i.size, i.bytes)) = some (some (.agg #[.int .i64 0, .int .i64 0]), 2, 16) := by kernel_rfl
def Bl.cs (b : Bl) : List Value := [.int .i64 b.n, .int .i64 b.node]
def cellsB (bs : List Bl) : List Value := bs.flatMap Bl.cs
theorem cellsB_len (bs : List Bl) : (cellsB bs).length = bs.length * 2 := by
  induction bs with
  | nil => rfl
  | cons e es ih =>
    have : cellsB (e :: es) = e.cs ++ cellsB es := rfl
    rw [this, List.length_append, ih, List.length_cons]
    simp only [Bl.cs, List.length_cons, List.length_nil]
    omega
theorem cellsB_at : ∀ {es : List Bl} {j i : Nat}, j < es.length → i < 2 → (cellsB es)[j * 2 + i]? = ((es.getD j bl0).cs)[i]?
  | [], j, i, hj, _ => by simp at hj
  | e :: es, 0, i, _, hi => by
    have : cellsB (e :: es) = e.cs ++ cellsB es := rfl
    rw [this, Nat.zero_mul, Nat.zero_add, List.getD_cons_zero]
    exact List.getElem?_append_left (by simp [Bl.cs]; omega)
  | e :: es, j + 1, i, hj, hi => by
    have h := cellsB_at (es := es) (j := j) (i := i) (by simpa using hj) hi
    have : cellsB (e :: es) = e.cs ++ cellsB es := rfl
    rw [this, List.getD_cons_succ, List.getElem?_append_right (by simp [Bl.cs]; omega), ← h]
    congr 1
    simp [Bl.cs]
    omega
theorem cellsB_one' (es : List Bl) : ∀ u ∈ cellsB es, u.oneCell' = true := by
  intro u hu
  unfold cellsB at hu
  obtain ⟨e, _, he⟩ := List.mem_flatMap.1 hu
  simp only [Bl.cs, List.mem_cons, List.not_mem_nil, or_false] at he
  rcases he with rfl | rfl <;> rfl
theorem InBl.cells {w : World} {a : Option Addr} {n c : Nat} {bs : List Bl} (h : InBl w a n c bs) : ∀ ad, a = some ad → ∀ j u, (cellsB bs)[j]? = some u → w.cell? (ad.add j) = some u := by
  intro ad ha t u hu
  have ht : t < bs.length * 2 := by rw [← cellsB_len]; exact (List.getElem?_eq_some_iff.1 hu).1
  have hl := h.len
  obtain ⟨b, off, e, hc⟩ := h.at (by omega)
  rw [e] at ha
  cases ha
  have h1 : t = t / 2 * 2 + t % 2 := by omega
  have hj : t / 2 < bs.length := by omega
  rw [h1, cellsB_at hj (by omega)] at hu
  rw [Go.WideShapes.add_plain]
  obtain ⟨k0, k1⟩ := hc (t / 2) (by omega)
  rcases (show t % 2 = 0 ∨ t % 2 = 1 by omega) with h2 | h2
  · rw [h2] at hu
    cases hu
    rw [show off + t = off + t / 2 * 2 by omega]
    exact k0
  · rw [h2] at hu
    cases hu
    rw [show off + t = off + t / 2 * 2 + 1 by omega]
    exact k1
theorem own_inBl {w : World} {B n c : Nat} {ao : Option Addr} {bs : List Bl} (h : w.ownsRow B tyB2 2 (.slice ao n c) n (cellsB bs)) (ht : ∀ b ∈ bs, TyB b) : InBl w ao n c bs := by
  have hl : bs.length = n := by have := h.1; rw [cellsB_len] at this; omega
  rcases h.2 with ⟨e, h0⟩ | ⟨g, cap, cur, e, _, hg, h1, h2, h3, h4⟩
  · simp only [Value.slice.injEq] at e
    obtain ⟨rfl, rfl, rfl⟩ := e
    exact ⟨hl, Nat.le_refl _, .inl rfl, ht⟩
  · simp only [Value.slice.injEq] at e
    obtain ⟨rfl, _, rfl⟩ := e
    have hc : ∀ t u, (cellsB bs)[t]? = some u → w.cell? ⟨g, 0 + t, none⟩ = some u := fun t u hu => by
      rw [Nat.zero_add, cell_of_row w g t _ _ _ hg, ← Array.getElem?_toList]
      rw [← h4, List.getElem?_take] at hu
      split at hu
      · exact hu
      · cases hu
    refine ⟨hl, h1, .inr ⟨g, 0, rfl, fun j hj => ?_⟩, ht⟩
    have k0 := cellsB_at (es := bs) (j := j) (i := 0) (by omega) (by omega)
    have k1 := cellsB_at (es := bs) (j := j) (i := 1) (by omega) (by omega)
    exact ⟨hc (j * 2) _ k0, hc (j * 2 + 1) _ k1⟩
theorem own_litB (w : World) (B : Nat) (hB : B ≤ w.heap.size) : (w.alloc (.cells #[] tyB2)).ownsRow B tyB2 2 (.slice (some ⟨w.heap.size, 0, none⟩) 0 0) 0 [] :=
  ⟨rfl, .inr ⟨w.heap.size, 0, _, rfl, hB, heap_alloc_new w _, Nat.le_refl _, by unfold maxLen; omega, by simp, by simp⟩⟩
theorem tch_setCells (b : Nat) : ∀ (vs : List Value) (w : World) (o : Nat), Tch (· = b) w (w.setCells b o vs)
  | [], w, o => Tch.refl _ _
  | v :: vs, w, o => (tch_set w ⟨b, o, none⟩ v).trans (tch_setCells b vs (w.setCell ⟨b, o, none⟩ v) (o + 1))
theorem own_there {w : World} {B n c size : Nat} {e : TypeId} {ao : Option Addr} {xs : List Value} (h : w.ownsRow B e size (.slice ao n c) n xs) : ∀ g, (Value.slice ao n c).ownBlock = some g → w.there g 0 (n * size) := by
  intro g hg j hj
  rcases h.2 with ⟨e1, h0⟩ | ⟨g1, cap, cur, e1, _, hb, h1, h2, h3, h4⟩
  · subst h0
    omega
  · simp only [Value.slice.injEq] at e1
    obtain ⟨rfl, _, rfl⟩ := e1
    have hgg : g1 = g := by simpa [Value.ownBlock] using hg
    subst hgg
    refine ⟨?_, frozen_of_row w g1 _ _ _ hb⟩
    rw [Nat.zero_add, cell_of_row w g1 j _ _ _ hb]
    have hjs : j < cur.size := by rw [h3]; exact Nat.lt_of_lt_of_le hj (Nat.mul_le_mul_right _ h1)
    rw [Array.getElem?_eq_getElem hjs]
    rfl
theorem there_sub {w : World} {g n : Nat} (h : w.there g 0 n) (o k : Nat) (hk : o + k ≤ n) : w.there g o k := by
  intro j hj
  have := h (o + j) (by omega)
  rwa [Nat.zero_add] at this
theorem LgK.and {a : Option Addr} {n : Nat} {vs : List Value} {K L : Nat → Prop} (h : LgK a n vs K) (h2 : LgK a n vs L) : LgK a n vs (fun k => K k ∧ L k) :=
  ⟨fun ad e hn => ⟨h.1 ad e hn, h2.1 ad e hn⟩, fun j hj ad k c e hk => ⟨h.2 j hj ad k c e hk, h2.2 j hj ad k c e hk⟩⟩
theorem LgK.mono {a : Option Addr} {n : Nat} {vs : List Value} {K L : Nat → Prop} (h : LgK a n vs K) (hk : ∀ k, K k → L k) : LgK a n vs L :=
  ⟨fun ad e hn => hk _ (h.1 ad e hn), fun j hj ad k c e h0 => hk _ (h.2 j hj ad k c e h0)⟩
abbrev zC : Array Value := #[.int .i64 0, .int .i64 0, .int .i64 0, .int .i64 0, .int .i64 0, .int .u32 0, .int .i64 0, .int .i64 0, .slice none 0 0, .int .u32 0, .int .u32 0, .bool false]
theorem infoZ : (Try.prog.info? 42).map (·.size) = some zC.size := by kernel_rfl
theorem zC_one : zC.all (·.oneCell') = true := by simp [zC, Value.oneCell']
abbrev zE : Array Value := #[.int .u32 0, .int .i64 0, .int .i64 0]
theorem infoZE : (Try.prog.info? 74).map (·.size) = some zE.size := by kernel_rfl
theorem zE_one : zE.all (·.oneCell') = true := by simp [zE, Value.oneCell']
end Go.Proofs.Ytnhnpfhfcbmmlaa
namespace Go.Proofs.Ytnhnpfhfcbmmlaa
open Go Go.RowKit
set_option linter.unusedVariables false
set_option linter.unusedSimpArgs false

theorem own_blkK {w w' : World} {B n c size : Nat} {e : TypeId} {ao : Option Addr} {xs : List Value} (h : w.ownsRow B e size (.slice ao n c) n xs) (hk : ∀ k, B ≤ k → k < w.heap.size → w'.heap[k]? = w.heap[k]?) : w'.ownsRow B e size (.slice ao n c) n xs := by
  refine ⟨h.1, h.2.imp (fun x => x) ?_⟩
  rintro ⟨g, cap, cur, e1, h1, hb, hr⟩
  exact ⟨g, cap, cur, e1, h1, (hk g h1 (lt_of_block hb)).trans hb, hr⟩
/-- An own log where its blocks are kept. -/
theorem OwC.blocks {w w' : World} {B c : Nat} {ls : List Cm} {ao : Option Addr} {vs : List Value} (h : OwC w B ls ao c vs) (hk : ∀ k, B ≤ k → k < w.heap.size → w'.heap[k]? = w.heap[k]?) : OwC w' B ls ao c vs :=
  ⟨own_blkK h.own hk, h.vlen, fun j hj => by
    obtain ⟨a2, c2, e, ho⟩ := h.ends j hj
    exact ⟨a2, c2, e, own_blkK ho hk⟩⟩
theorem kpt_lt {w w' : World} {k : Nat} (hk : k < w.heap.size) (h : w'.heap[k]? = w.heap[k]?) : k < w'.heap.size :=
  lt_of_block (h.trans (Array.getElem?_eq_getElem hk))
/-- Ends of the blocks from B to N that may be wiped. -/
def EndT (w : World) (B N g : Nat) (v : Value) : Prop := ∃ a2 k2 c2, v = .slice a2 k2 c2 ∧ k2 ≤ c2 ∧ k2 ≤ 400 ∧ (0 < k2 → ∃ h, a2 = some ⟨h, 0, none⟩ ∧ h ≠ g ∧ B ≤ h ∧ h < N ∧ w.there h 0 (k2 * 3))
/-- Commands that are still to be wiped, from i on. -/
structure MinC (w : World) (B N g n : Nat) (vs : List Value) (i : Nat) : Prop where
  row : w.there g 0 (n * 12)
  loc : B ≤ g ∧ g < N
  sl : ∀ j, i ≤ j → j < n → w.cell? ⟨g, j * 12 + 8, none⟩ = some (vs.getD j undef)
  ends : ∀ j, i ≤ j → j < n → EndT w B N g (vs.getD j undef)
theorem EndT.wipe {w : World} {B N g : Nat} {v : Value} (h : EndT w B N g v) (b o : Nat) (us : List Value) : EndT (w.setCells b o us) B N g v := by
  obtain ⟨a2, k2, c2, e, h1, h2, h3⟩ := h
  exact ⟨a2, k2, c2, e, h1, h2, fun hk => by obtain ⟨x, e2, hne, hx1, hx2, ht⟩ := h3 hk; exact ⟨x, e2, hne, hx1, hx2, World.there_setCells ht _ _ _⟩⟩
theorem MinC.ends_wiped {w : World} {B N g n i : Nat} {vs : List Value} (h : MinC w B N g n vs i) (b o : Nat) (us : List Value) (hb : b ≠ g) : MinC (w.setCells b o us) B N g n vs i :=
  ⟨World.there_setCells h.row _ _ _, h.loc, fun j h1 h2 => by rw [World.cell?_setCells_out b us o w _ (fun e _ => absurd e.symm hb)]; exact h.sl j h1 h2, fun j h1 h2 => (h.ends j h1 h2).wipe _ _ _⟩
theorem MinC.row_wiped {w : World} {B N g n i : Nat} {vs : List Value} (h : MinC w B N g n vs i) (us : List Value) (hl : us.length = 12) : MinC (w.setCells g (i * 12) us) B N g n vs (i + 1) :=
  ⟨World.there_setCells h.row _ _ _, h.loc, fun j h1 h2 => by rw [World.cell?_setCells_out g us (i * 12) w _ (fun _ _ => by right; show i * 12 + us.length ≤ j * 12 + 8; omega)]; exact h.sl j (by omega) h2, fun j h1 h2 => (h.ends j (by omega) h2).wipe _ _ _⟩
theorem MinC.of {w : World} {B c N : Nat} {ls : List Cm} {ao : Option Addr} {vs : List Value} (h : OwC w B ls ao c vs) (hN : ∀ k, BkC ao vs k → k < N) (ht : ∀ x ∈ ls, TyC x) (hes : ∀ x ∈ ls, x.es.length ≤ 400) (hn : 0 < ls.length) : ∃ g, ao = some ⟨g, 0, none⟩ ∧ MinC w B N g ls.length vs 0 := by
  obtain ⟨g, cap, e, hB⟩ := own_shape h.own hn
  simp only [Value.slice.injEq] at e
  obtain ⟨rfl, _, rfl⟩ := e
  have hI := h.in ht
  have hgl := h.own.lt g rfl
  refine ⟨g, rfl, own_there h.own g rfl, ⟨hB, hN g (.inl ⟨_, rfl, rfl⟩)⟩, fun j _ hj => ?_, fun j _ hj => ?_⟩
  · have := (hI.cell (off := 0) hj).c8
    rwa [Nat.zero_add] at this
  · obtain ⟨a2, c2, e2, ho⟩ := h.ends j hj
    have hr : (ls.getD j cm0).es.length ≤ c2 := by
      rcases ho.2 with ⟨e3, h0⟩ | ⟨g3, cap3, cur3, e3, _, _, h3, _⟩
      · omega
      · simp only [Value.slice.injEq] at e3
        omega
    refine ⟨a2, _, c2, e2, hr, hes _ (memC hj), fun hk => ?_⟩
    obtain ⟨g3, cap3, e3, hB3⟩ := own_shape ho hk
    simp only [Value.slice.injEq] at e3
    obtain ⟨rfl, _, rfl⟩ := e3
    refine ⟨g3, rfl, fun e4 => ?_, hB3, hN g3 (.inr ⟨_, memV (i := j) (by rw [h.vlen]; exact hj), _, _, _, e2, rfl⟩), own_there ho g3 rfl⟩
    subst e4
    rcases h.own.2 with ⟨e5, h5⟩ | ⟨g5, cap5, cur5, e5, _, hb5, _⟩
    · omega
    · rcases ho.2 with ⟨e6, h6⟩ | ⟨g6, cap6, cur6, e6, _, hb6, _⟩
      · omega
      · simp only [Value.slice.injEq, Option.some.injEq, Addr.mk.injEq] at e5 e6
        rw [← e5.1.1] at hb5
        rw [← e6.1.1] at hb6
        rw [hb5] at hb6
        have : tyC = tyE := by
          injection hb6 with h7
          injection h7
        exact absurd this (by decide)
theorem MinC.end_there {w : World} {B N g n i x k2 c2 : Nat} {vs : List Value} (h : MinC w B N g n vs i) (hi : i < n) (e : vs.getD i undef = .slice (some ⟨x, 0, none⟩) k2 c2) (hk : 0 < k2) : w.there x 0 (k2 * 3) := by
  obtain ⟨a3, k3, c3, e3, _, _, h3⟩ := h.ends i (Nat.le_refl _) hi
  rw [e] at e3
  simp only [Value.slice.injEq] at e3
  obtain ⟨rfl, rfl, rfl⟩ := e3
  obtain ⟨x2, e4, _, _, _, ht⟩ := h3 hk
  cases e4
  exact ht
end Go.Proofs.Ytnhnpfhfcbmmlaa
namespace Go.Proofs.Ytnhnpfhfcbmmlaa
open Go Go.RowKit
set_option linter.unusedVariables false
set_option linter.unusedSimpArgs false

/-- What a round keeps: the program's voter and the document's hold the same. -/
structure PlX (w2 wr : World) (p s q : Nat) (node : Int) (l : List Pr) (pr ac : Bl) (ls : List Cm) (K : Nat → Prop) (ao : Option Addr) (c : Nat) (vs : List Value) : Prop where
  on : VOn w2 wr p s 4194304 l l pr ac ls node K
  enc : EncS l pr ac ls
  old : ∀ k, k < w2.heap.size → K k
  qK : K q ∧ w2.heap.size ≤ q
  rv : RVb wr q node pr ac (.slice ao ls.length c)
  log : InC wr ao ls.length c ls vs
  lgK : LgK ao ls.length vs K
  sep : LgK ao ls.length vs (· ≠ q)
def PlI (w2 wr : World) (p s q : Nat) (node : Int) : Prop := ∃ l pr ac ls K ao c vs, PlX w2 wr p s q node l pr ac ls K ao c vs
theorem PlX.new {w2 wr wx : World} {p s q : Nat} {node : Int} {l : List Pr} {pr ac : Bl} {ls : List Cm} {K : Nat → Prop} {ao : Option Addr} {c : Nat} {vs : List Value} (h : PlX w2 wr p s q node l pr ac ls K ao c vs) (hb : Below wr.heap.size wr wx) :
    PlX w2 wx p s q node l pr ac ls (fun k => K k ∨ (wr.heap.size ≤ k ∧ k < wx.heap.size)) ao c vs :=
  ⟨h.on.grow hb, h.enc, fun k hk => .inl (h.old k hk), ⟨.inl h.qK.1, h.qK.2⟩, h.rv.later hb, h.log.below hb, ⟨fun ad e hn => .inl (h.lgK.1 ad e hn), fun j hj ad k c2 e hk => .inl (h.lgK.2 j hj ad k c2 e hk)⟩, h.sep⟩

theorem pl_accept {w1 w6 w7 wd w8 w9 wS wr : World} {p s q cc : Nat} {node : Int} {l : List Pr} {pr ac b : Bl} {ls lg : List Cm} {K : Nat → Prop} {ao : Option Addr} {vs : List Value} {e : Ending}
    (hX : PlX w1 w7 p s q node l pr ac ls K ao cc vs) (hq : q < w6.heap.size) (h16 : w1.heap.size ≤ w6.heap.size) (hKn : ∀ k, w6.heap.size ≤ k → k < w7.heap.size → K k)
    (hl6 : LgK ao ls.length vs (· < w6.heap.size)) (hd : Below w7.heap.size w7 wd) (ha : AcO w1 wd p s 4194304 l l pr ac ls node K b lg w8)
    (hr : AcR w8 q node pr ac (.slice ao ls.length cc) b lg e w9) (hN : accN 4194304 b pr lg l = acR b pr lg) (hty : ∀ x ∈ lg, TyC x)
    (hbS : Below w9.heap.size w9 wS) (hT : Tch (fun k => w6.heap.size ≤ k ∧ k < w7.heap.size) wS wr) : PlI w1 wr p s q node := by
  have hqT : ¬ (w6.heap.size ≤ q ∧ q < w7.heap.size) := by omega
  have hk8 : ∀ k, K k → k < w7.heap.size → w8.heap[k]? = w7.heap[k]? := fun k hk h => (ha.kpt k hk).trans (hd.block k h)
  have hT8 : ∀ k, w6.heap.size ≤ k → k < w7.heap.size → k < w8.heap.size := fun k h1 h2 => kpt_lt h2 (hk8 k (hKn k h1 h2) h2)
  have hq8 : q < w8.heap.size := kpt_lt hX.rv.lt (hk8 q hX.qK.1 hX.rv.lt)
  have hs89 : w8.heap.size ≤ w9.heap.size := hr.tch.size
  have hs9S : w9.heap.size ≤ wS.heap.size := hbS.size
  by_cases h0 : acR b pr lg = 0
  · have hbg : OkB b ∧ GoodL lg := by
      by_cases h1 : OkB b
      · by_cases h2 : GoodL lg
        · exact ⟨h1, h2⟩
        · exfalso
          unfold acR at h0
          rw [if_pos h1, if_neg h2] at h0
          exact absurd h0 (by decide)
      · exfalso
        unfold acR at h0
        rw [if_neg h1] at h0
        exact absurd h0 (by decide)
    have hroom := hX.enc.acc_room (size := 4194304) b lg (by have := bytes_small hbg.2; omega)
    have hE := hX.enc.acc hbg.1 hbg.2 hty hroom
    have hV8 := ha.yes (hN.trans h0)
    obtain ⟨a2, c2, v2, hrv, hO⟩ := hr.yes h0
    have hVS := ((hV8.wgrow hr.tch (fun k hk => by rw [hk]; exact hX.qK)).grow hbS).write hT (fun k hk => ⟨.inl (.inl (hKn k hk.1 hk.2)), by omega⟩)
    have hOr := (hO.later hbS).tch hT (fun k hk hB => by have := hT8 k hk.1 hk.2; omega)
    exact ⟨_, b, b, lg, _, a2, c2, v2, hVS, hE, fun k hk => .inl (.inl (hX.old k hk)), ⟨.inl (.inl hX.qK.1), hX.qK.2⟩, (hrv.later hbS).tch hT hqT, hOr.in hty,
      lgK_of hO.vlen (fun k hk => .inl (.inr (hO.blk k hk))), lgK_of hO.vlen (fun k hk e => by have := hO.blk k hk; omega)⟩
  · have hV8 := ha.no (by rw [hN]; exact h0)
    have hrv := hr.no h0
    have hVS := ((hV8.wgrow hr.tch (fun k hk => by rw [hk]; exact hX.qK)).grow hbS).write hT (fun k hk => ⟨.inl (.inl (hKn k hk.1 hk.2)), by omega⟩)
    have hL8 : InC w8 ao ls.length cc ls vs := hX.log.kptw (K := fun k => K k ∧ k < w7.heap.size) (fun k hk => hk8 k hk.1 hk.2) (hX.lgK.and (hX.log.lgk (fun k hk => hk)))
    have hL9 : InC w9 ao ls.length cc ls vs := hL8.kptw (K := fun k => k < w8.heap.size ∧ k ≠ q) (fun k hk => hr.tch.block k hk.1 hk.2) ((hL8.lgk (fun k hk => hk)).and hX.sep)
    have hLS := hL9.below hbS
    have hLr : InC wr ao ls.length cc ls vs := hLS.kptw (K := fun k => k < w6.heap.size ∧ k < wS.heap.size) (fun k hk => hT.block k hk.2 (fun h => by omega)) (hl6.and (hLS.lgk (fun k hk => hk)))
    exact ⟨l, pr, ac, ls, _, ao, cc, vs, hVS, hX.enc, fun k hk => .inl (.inl (hX.old k hk)), ⟨.inl (.inl hX.qK.1), hX.qK.2⟩, (hrv.later hbS).tch hT hqT, hLr, hX.lgK.mono (fun k hk => .inl (.inl hk)), hX.sep⟩
end Go.Proofs.Ytnhnpfhfcbmmlaa
