/- A store of the call's own: how it goes on, and what it leaves alone; alive. No conditions but those stated. -/
import Derived.Test.YtbkpkakjfhkfaaaSbD
import Derived.Test.YtbkpkakjfhkfaaaSbE
import Derived.Lib.SmallJoins
namespace Go.Proofs.Ytbkpkakjfhkfaaa
open Go Go.RowKit Go.Maps
set_option linter.unusedVariables false
set_option linter.unusedSimpArgs false

/-- Blocks that stay as they are. -/
def Kpt (K : Nat → Prop) (w w' : World) : Prop := ∀ k, K k → w'.heap[k]? = w.heap[k]?
theorem Kpt.cell {K : Nat → Prop} {w w' : World} (h : Kpt K w w') {p : Addr} {v : Value} (hc : w.cell? p = some v) (hk : K p.block) : w'.cell? p = some v := (World.cell?_of_block (h p.block hk)).trans hc
theorem Kpt.less {K K2 : Nat → Prop} {w w' : World} (h : Kpt K w w') (hk : ∀ k, K2 k → K k) : Kpt K2 w w' := fun k h3 => h k (hk k h3)
theorem Kpt.trans {K : Nat → Prop} {a b c : World} (h : Kpt K a b) (h2 : Kpt K b c) : Kpt K a c := fun k hk => (h2 k hk).trans (h k hk)
theorem non_below {w w' : World} (h : Tch Non w w') : Below w.heap.size w w' := h.below (fun _ h => h.elim) (Nat.le_refl _)
structure SOn (w0 w : World) (p : Nat) (size : Int) (l m : List Pr) (K : Nat → Prop) : Prop where
  st : ∃ F, St w w0.heap.size F p size l m ∧ ∀ k, K k → ¬ F k
  bel : Below w0.heap.size w0 w
  lt : ∀ k, K k → k < w.heap.size
section
variable {w0 w w' : World} {p : Nat} {size : Int} {l m : List Pr} {K K2 : Nat → Prop}
theorem SOn.facts (h : SOn w0 w p size l m K) : (SrtP l ∧ SrtP m) ∧ ((∀ e ∈ l, OkP e) ∧ (∀ e ∈ m, OkP e)) ∧ OkZ size ∧ ((usedP l : Int) ≤ size ∧ (usedP m : Int) ≤ size) := by
  obtain ⟨F, ⟨c1, c2, h1⟩, _⟩ := h.st
  exact ⟨h1.srt, h1.ok, h1.sz, h1.used⟩
theorem SOn.lens (h : SOn w0 w p size l m K) : l.length ≤ 67108864 ∧ m.length ≤ 67108864 ∧ usedP l ≤ 67108864 ∧ usedP m ≤ 67108864 := by
  obtain ⟨F, ⟨c1, c2, h1⟩, _⟩ := h.st
  exact h1.lens
theorem SOn.new (h : SOn w0 w p size l m K) (hb : Below w.heap.size w w') : SOn w0 w' p size l m K ∧ Kpt K w w' := by
  obtain ⟨F, h1, h2⟩ := h.st
  exact ⟨⟨⟨F, h1.keep (tch_new hb) (fun _ _ h => h), h2⟩, bl_tr h.bel hb, fun k hk => Nat.lt_of_lt_of_le (h.lt k hk) hb.size⟩, fun k hk => hb.block k (h.lt k hk)⟩
/-- More blocks to be left alone: new ones. -/
theorem SOn.grow (h : SOn w0 w p size l m K) (hb : Below w.heap.size w w') : SOn w0 w' p size l m (fun k => K k ∨ (w.heap.size ≤ k ∧ k < w'.heap.size)) := by
  obtain ⟨F, h1, h2⟩ := h.st
  refine ⟨⟨F, h1.keep (tch_new hb) (fun _ _ h => h), fun k hk hf => ?_⟩, bl_tr h.bel hb, fun k hk => ?_⟩
  · rcases hk with hk | hk
    · exact h2 k hk hf
    · have := (h1.blocks k hf).2
      omega
  · rcases hk with hk | hk
    · exact Nat.lt_of_lt_of_le (h.lt k hk) hb.size
    · exact hk.2
theorem SOn.less (h : SOn w0 w p size l m K) (hk : ∀ k, K2 k → K k) : SOn w0 w p size l m K2 := by
  obtain ⟨F, h1, h2⟩ := h.st
  exact ⟨⟨F, h1, fun k h3 => h2 k (hk k h3)⟩, h.bel, fun k h3 => h.lt k (hk k h3)⟩
/-- What is written in K leaves the store. -/
theorem SOn.write {T : Nat → Prop} (h : SOn w0 w p size l m K) (ht : Tch T w w') (hT : ∀ k, T k → K k ∧ w0.heap.size ≤ k) : SOn w0 w' p size l m K := by
  obtain ⟨F, h1, h2⟩ := h.st
  exact ⟨⟨F, h1.keep ht (fun k hf hk => h2 k (hT k hk).1 hf), h2⟩, h.bel.trans (ht.below (fun k hk => (hT k hk).2) h.bel.size), fun k hk => Nat.lt_of_lt_of_le (h.lt k hk) ht.size⟩
theorem RTo.on {F : Nat → Prop} {l' m' : List Pr} (hb : Below w0.heap.size w0 w) (hF : ∀ k, F k → w0.heap.size ≤ k) (hK : ∀ k, K k → ¬ F k) (hl : ∀ k, K k → k < w.heap.size) (h : RTo w w0.heap.size F (some ⟨p, 0, none⟩) size l' m' w') : SOn w0 w' p size l' m' K ∧ Kpt K w w' := by
  obtain ⟨F2, h1, h2, h3⟩ := h
  rcases h1 with ⟨e, _⟩ | ⟨p', e, h1⟩
  · cases e
  cases e
  refine ⟨⟨⟨F2, h1, fun k hk hf => ?_⟩, hb.trans (h3.below hF hb.size), fun k hk => Nat.lt_of_lt_of_le (hl k hk) h3.size⟩, fun k hk => h3.block k (hl k hk) (hK k hk)⟩
  rcases h2 k hf with h4 | h4
  · exact hK k hk h4
  · have := hl k hk
    omega
theorem SOn.put (h : SOn w0 w p size l m K) (k : Ky) (b n : Nat) (us : List Value) (ps : List (List Int)) (hk : k.length ≤ maxLen) (hp : RsIn w b n us ps) (hn : n ≤ 1048576) (hs : ps.flatten.length ≤ 1152921504606846976) :
    Calls Try.prog 92 #[.pointer (some ⟨p, 0, none⟩), sv k, .slice (some ⟨b, 0, none⟩) n n] w fun e w' => e = .returned (errF (putN size k ps.flatten l : Nat)) ∧ SOn w0 w' p size (putL size k ps.flatten l) m K ∧ Kpt K w w' := by
  obtain ⟨F, h1, h2⟩ := h.st
  refine (put_c w0.heap.size F _ size l m k b n us ps w (.inr ⟨p, rfl, h1⟩) h.bel.size hk hp hn hs).mono ?_
  rintro e w' ⟨he, hT⟩
  exact ⟨he, hT.on h.bel (fun k hk => (h1.blocks k hk).1) h2 h.lt⟩
theorem SOn.drop (h : SOn w0 w p size l m K) (b n : Nat) (ks : List Ky) (hp : KsIn w b n ks) (hn : n ≤ 4611686018427387904) (hb : K b) :
    Calls Try.prog 127 #[.pointer (some ⟨p, 0, none⟩), .slice (some ⟨b, 0, none⟩) n n] w fun e w' => e = .returned (.int .i64 ((l.length - (dropP ks l).length : Nat) : Nat)) ∧ SOn w0 w' p size (dropP ks l) m K ∧ Kpt K w w' := by
  obtain ⟨F, h1, h2⟩ := h.st
  refine (drop_c w0.heap.size F _ size l m b n ks w (.inr ⟨p, rfl, h1⟩) h.bel.size hp hn (h2 b hb) (h.lt b hb)).mono ?_
  rintro e w' ⟨he, hT⟩
  exact ⟨he, hT.on h.bel (fun k hk => (h1.blocks k hk).1) h2 h.lt⟩
theorem SOn.sync (h : SOn w0 w p size l m K) :
    Calls Try.prog 111 #[.pointer (some ⟨p, 0, none⟩)] w fun e w' => e = .returned (.int .i64 (unlikeP l m : Nat)) ∧ SOn w0 w' p size l l K ∧ Kpt K w w' := by
  obtain ⟨F, h1, h2⟩ := h.st
  refine (sync_c w0.heap.size F _ size l m w (.inr ⟨p, rfl, h1⟩) h.bel.size).mono ?_
  rintro e w' ⟨he, hT⟩
  exact ⟨he, hT.on h.bel (fun k hk => (h1.blocks k hk).1) h2 h.lt⟩
theorem SOn.crash (h : SOn w0 w p size l m K) :
    Calls Try.prog 37 #[.pointer (some ⟨p, 0, none⟩)] w fun e w' => e = .returned (.int .i64 (unlikeP l m : Nat)) ∧ SOn w0 w' p size m m K ∧ Kpt K w w' := by
  obtain ⟨F, h1, h2⟩ := h.st
  refine (crash_c w0.heap.size F _ size l m w (.inr ⟨p, rfl, h1⟩) h.bel.size).mono ?_
  rintro e w' ⟨he, hT⟩
  exact ⟨he, hT.on h.bel (fun k hk => (h1.blocks k hk).1) h2 h.lt⟩
theorem SOn.get (h : SOn w0 w p size l m K) (k : Ky) (hk : k.length ≤ maxLen) :
    Calls Try.prog 115 #[.pointer (some ⟨p, 0, none⟩), sv k] w fun e w' => GetV w (findP k l) e w' := by
  obtain ⟨F, h1, h2⟩ := h.st
  exact get_c w0.heap.size F _ size l m k w (.inr ⟨p, rfl, h1⟩) h.bel.size hk
theorem SOn.used (h : SOn w0 w p size l m K) :
    Calls Try.prog 91 #[.pointer (some ⟨p, 0, none⟩)] w fun e w' => e = .returned (.int .i64 (usedP l : Nat)) ∧ Tch Non w w' := by
  obtain ⟨F, h1, h2⟩ := h.st
  exact used_c w0.heap.size F _ size l m w (.inr ⟨p, rfl, h1⟩) h.bel.size
theorem SOn.made {e : Ending} (hz : OkZ size) (hb : Below w0.heap.size w0 w) (hK : ∀ k, K k → k < w.heap.size) (h : SNew w size e w') : ∃ p, e = .returned (.tuple #[.pointer (some ⟨p, 0, none⟩), .nilIface]) ∧ SOn w0 w' p size [] [] K ∧ Kpt K w w' := by
  obtain ⟨⟨_, p, F, he, hs⟩ | ⟨hn, _⟩, hb2⟩ := h
  · exact ⟨p, he, ⟨⟨F, hs.base hb.size, fun k hk hf => by have := (hs.blocks k hf).1; have := hK k hk; omega⟩, bl_tr hb hb2, fun k hk => Nat.lt_of_lt_of_le (hK k hk) hb2.size⟩, fun k hk => hb2.block k (hK k hk)⟩
  · exact absurd hz hn
end
/-- A row of one row, in a new block. -/
theorem RsIn.one {w : World} {a : Option Addr} {n c : Nat} {r : List Int} (h : In w a n c r) : RsIn (w.alloc (.cells #[.slice a n c] tyB)) w.heap.size 1 [.slice a n c] [r] :=
  ⟨rfl, fun j hj => by
    have e : j = 0 := by omega
    subst e
    simp, ⟨⟨a, n, c, rfl, h.below (bl_al (Below.refl _ _) _)⟩, trivial⟩⟩
theorem RsIn.two {w : World} {a a2 : Option Addr} {n c n2 c2 : Nat} {r r2 : List Int} (h : In w a n c r) (h2 : In w a2 n2 c2 r2) : RsIn (w.alloc (.cells #[.slice a n c, .slice a2 n2 c2] tyB)) w.heap.size 2 [.slice a n c, .slice a2 n2 c2] [r, r2] :=
  ⟨rfl, fun j hj => by
    have e : j = 0 ∨ j = 1 := by omega
    rcases e with rfl | rfl
    · simp
    · simp, ⟨⟨a, n, c, rfl, h.below (bl_al (Below.refl _ _) _)⟩, ⟨a2, n2, c2, rfl, h2.below (bl_al (Below.refl _ _) _)⟩, trivial⟩⟩
/-- A row of one byte. -/
theorem in_one (w : World) (x : Int) (hx : 0 ≤ x ∧ x < 256) : In (w.alloc (.cells #[.int .u8 x] 5 (1, 2))) (some ⟨w.heap.size, 0, none⟩) 1 1 [x] :=
  ⟨rfl, by omega, (fun e => by cases e), ⟨_, 1, rfl, .inr ⟨w.heap.size, 0, rfl, fun j hj => by
    have e : j = 0 := by simpa using hj
    subst e
    have := cells_new w [.int .u8 x] 5 (1, 2) 0 (.int .u8 x) rfl
    simpa using this⟩⟩, fun b hb => by simp at hb; omega⟩
/-- Put of one row. -/
theorem SOn.put1 {w0 w : World} {p : Nat} {size : Int} {l m : List Pr} {K : Nat → Prop} (h : SOn w0 w p size l m K) (k : Ky) (hk : k.length ≤ maxLen) {a : Option Addr} {n c : Nat} {r : List Int} (hr : In w a n c r) (hn : n ≤ 140737488355328) :
    Calls Try.prog 92 #[.pointer (some ⟨p, 0, none⟩), sv k, .slice (some ⟨w.heap.size, 0, none⟩) 1 1] (w.alloc (.cells #[.slice a n c] tyB)) fun e w' => e = .returned (errF (putN size k r l : Nat)) ∧ SOn w0 w' p size (putL size k r l) m K ∧ Kpt K w w' := by
  obtain ⟨hO, hk2⟩ := h.new (bl_al (Below.refl _ _) (.cells #[.slice a n c] tyB))
  have hlen := hr.len
  refine (hO.put k w.heap.size 1 _ [r] hk (RsIn.one hr) (by omega) (by simp; omega)).mono ?_
  rintro e w' ⟨rfl, h1, h2⟩
  rw [flat1] at h1 ⊢
  exact ⟨rfl, h1, hk2.trans h2⟩
/-- Put of one byte. -/
theorem SOn.putc {w0 w : World} {p : Nat} {size : Int} {l m : List Pr} {K : Nat → Prop} (h : SOn w0 w p size l m K) (k : Ky) (hk : k.length ≤ maxLen) (x : Int) (hx : 0 ≤ x ∧ x < 256) :
    Calls Try.prog 92 #[.pointer (some ⟨p, 0, none⟩), sv k, .slice (some ⟨w.heap.size + 1, 0, none⟩) 1 1] ((w.alloc (.cells #[.int .u8 x] 5 (1, 2))).alloc (.cells #[.slice (some ⟨w.heap.size, 0, none⟩) 1 1] tyB)) fun e w' => e = .returned (errF (putN size k [x] l : Nat)) ∧ SOn w0 w' p size (putL size k [x] l) m K ∧ Kpt K w w' := by
  obtain ⟨hO, hk2⟩ := h.new (bl_al (Below.refl _ _) (.cells #[.int .u8 x] 5 (1, 2)))
  have := hO.put1 k hk (in_one w x hx) (by omega)
  rw [World.size_alloc] at this
  refine this.mono ?_
  rintro e w' ⟨rfl, h1, h2⟩
  exact ⟨rfl, h1, hk2.trans h2⟩
theorem conv1 (w : World) (x : Int) : (convert 26 26 (.slice (some ⟨w.heap.size, 0, none⟩) 1 1)).run Try.prog (w.alloc (.cells #[.int .u8 x] 5)) = .ok (.slice (some ⟨w.heap.size, 0, none⟩) 1 1) (w.alloc (.cells #[.int .u8 x] 5 (1, 2))) := Lib.run_convert_bytes_const (P := Try.prog) w 26 5 #[.int .u8 x] 1 1 Try.underlying26 Try.underlying5
theorem nilNe (w : World) : (binOp .neq 28 .nilIface .nilIface).run Try.prog w = .ok (.bool false) w := by kernel_rfl
theorem nilEl (w : World) : (binOp .eql 28 .nilIface .nilIface).run Try.prog w = .ok (.bool true) w := by kernel_rfl
def alx : Pr := ⟨[97], [120]⟩
def aly : Pr := ⟨[97], [121]⟩
def alz : Pr := ⟨[98], [122]⟩
theorem alP_1 : putN 100 [97] [120] [] = 0 ∧ putL 100 [97] [120] [] = [alx] := ⟨by decide, rfl⟩
theorem alP_2 : putN 100 [97] [121] [alx] = 0 ∧ putL 100 [97] [121] [alx] = [aly] := ⟨by decide, rfl⟩
theorem alP_3 : putN 100 [98] [122] [aly] = 0 ∧ putL 100 [98] [122] [aly] = [aly, alz] := ⟨by decide, rfl⟩
theorem alU : unlikeP [alx] [] = 1 ∧ unlikeP [aly, alz] [alx] = 2 := ⟨by decide, by decide⟩
theorem alF : findP [97] [alx] = some [120] ∧ findP [98] [alx] = none := ⟨rfl, rfl⟩
theorem GetV.no' {w w' : World} {e : Ending} (h : GetV w none e w') : e = .returned (.tuple #[.slice none 0 0, errnoF 6]) ∧ Tch Non w w' := h
theorem GetV.yes' {w w' : World} {r : List Int} {e : Ending} (h : GetV w (some r) e w') : ∃ ao c, e = .returned (.tuple #[.slice ao r.length c, .nilIface]) ∧ w'.ownsRow w.heap.size 5 1 (.slice ao r.length c) r.length (u8s r) ∧ Tch Non w w' := h
end Go.Proofs.Ytbkpkakjfhkfaaa
