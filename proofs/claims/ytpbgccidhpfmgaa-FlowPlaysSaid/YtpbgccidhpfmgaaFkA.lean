/- A table of the call's own: how it goes on, and what it leaves alone. No conditions but those stated. A table of the call's own: how it goes on, and what it leaves alone. No conditions but those stated. -/
import Derived.Test.YtpbgccidhpfmgaaFmQ
import Derived.Test.YtpbgccidhpfmgaaFmT
import Derived.Test.YtpbgccidhpfmgaaFmD
import Derived.Deep.RegionHeld3
import Derived.Test.YtpbgccidhpfmgaaFmN
import Derived.Test.YtpbgccidhpfmgaaFmY
import Derived.Test.YtpbgccidhpfmgaaFmU
namespace Go.Proofs.Ytpbgccidhpfmgaa
open Go Go.RowKit
set_option linter.unusedVariables false
set_option linter.unusedSimpArgs false

/-- Blocks that stay as they are. -/
def Kpt (K : Nat → Prop) (w w' : World) : Prop := ∀ k, K k → w'.heap[k]? = w.heap[k]?
theorem Kpt.cell {K : Nat → Prop} {w w' : World} (h : Kpt K w w') {p : Addr} {v : Value} (hc : w.cell? p = some v) (hk : K p.block) : w'.cell? p = some v := (World.cell?_of_block (h p.block hk)).trans hc
theorem Kpt.box {K : Nat → Prop} {w w' : World} (h : Kpt K w w') {q : Nat} {e : En} (hc : BxE w q e) (hk : K q) : BxE w' q e := (h q hk).trans hc
structure TOn (w0 w : World) (p : Nat) (qt qu : Int) (l : List En) (K : Nat → Prop) : Prop where
  st : ∃ F, TSt w w0.heap.size F p qt qu l ∧ ∀ k, K k → ¬ F k
  bel : Below w0.heap.size w0 w
  lt : ∀ k, K k → k < w.heap.size
theorem TOn.srt {w0 w : World} {p : Nat} {qt qu : Int} {l : List En} {K : Nat → Prop} (h : TOn w0 w p qt qu l K) : SrtE l := h.st.elim fun _ h => h.1.srt
theorem TOn.fit {w0 w : World} {p : Nat} {qt qu : Int} {l : List En} {K : Nat → Prop} (h : TOn w0 w p qt qu l K) : ∀ e ∈ l, FitE e := h.st.elim fun _ h => h.1.fit
theorem TOn.quota {w0 w : World} {p : Nat} {qt qu : Int} {l : List En} {K : Nat → Prop} (h : TOn w0 w p qt qu l K) : OkQ qt ∧ OkQ qu := h.st.elim fun _ h => h.1.quota
theorem TOn.new {w0 w w' : World} {p : Nat} {qt qu : Int} {l : List En} {K : Nat → Prop} (h : TOn w0 w p qt qu l K) (hb : Below w.heap.size w w') : TOn w0 w' p qt qu l K ∧ Kpt K w w' := by
  obtain ⟨F, h1, h2⟩ := h.st
  exact ⟨⟨⟨F, h1.keep (tch_new hb) (fun _ _ h => h), h2⟩, bl_tr h.bel hb, fun k hk => Nat.lt_of_lt_of_le (h.lt k hk) hb.size⟩, fun k hk => hb.block k (h.lt k hk)⟩
/-- More blocks to be left alone: new ones. -/
theorem TOn.grow {w0 w w' : World} {p : Nat} {qt qu : Int} {l : List En} {K : Nat → Prop} (h : TOn w0 w p qt qu l K) (hb : Below w.heap.size w w') : TOn w0 w' p qt qu l (fun k => K k ∨ (w.heap.size ≤ k ∧ k < w'.heap.size)) := by
  obtain ⟨F, h1, h2⟩ := h.st
  refine ⟨⟨F, h1.keep (tch_new hb) (fun _ _ h => h), fun k hk hf => ?_⟩, bl_tr h.bel hb, fun k hk => ?_⟩
  · rcases hk with hk | hk
    · exact h2 k hk hf
    · have := (h1.blocks k hf).2
      omega
  · rcases hk with hk | hk
    · exact Nat.lt_of_lt_of_le (h.lt k hk) hb.size
    · exact hk.2
theorem TOn.less {w0 w : World} {p : Nat} {qt qu : Int} {l : List En} {K K2 : Nat → Prop} (h : TOn w0 w p qt qu l K) (hk : ∀ k, K2 k → K k) : TOn w0 w p qt qu l K2 := by
  obtain ⟨F, h1, h2⟩ := h.st
  exact ⟨⟨F, h1, fun k h3 => h2 k (hk k h3)⟩, h.bel, fun k h3 => h.lt k (hk k h3)⟩
theorem TTo.on {w0 w w' : World} {F K : Nat → Prop} {p : Nat} {qt qu : Int} {l k : List En} (hb : Below w0.heap.size w0 w) (hF : ∀ k, F k → w0.heap.size ≤ k) (hK : ∀ k, K k → ¬ F k) (hl : ∀ k, K k → k < w.heap.size) (h : TTo TSt w w0.heap.size F p qt qu l w') : TOn w0 w' p qt qu l K ∧ Kpt K w w' := by
  obtain ⟨F2, h1, h2, h3⟩ := h
  refine ⟨⟨⟨F2, h1, fun k hk hf => ?_⟩, hb.trans (h3.below hF hb.size), fun k hk => Nat.lt_of_lt_of_le (hl k hk) h3.size⟩, fun k hk => h3.block k (hl k hk) (hK k hk)⟩
  rcases h2 k hf with h4 | h4
  · exact hK k hk h4
  · have := hl k hk
    omega
theorem TOn.put {w0 w : World} {p : Nat} {qt qu : Int} {l : List En} {K : Nat → Prop} (h : TOn w0 w p qt qu l K) (f : Fl) (dip ep now : Int) (hn : l.length ≤ 1048576) (hf : FitF f) (hd : In32 dip) (he : InN ep) (ho : InN now) :
    Calls Try.prog 14 #[.pointer (some ⟨p, 0, none⟩), f.val, .int .u32 dip, .int .i64 ep, .int .i64 now] w fun e w' => e = .returned (putV (putE qu f dip ep now l)) ∧ TOn w0 w' p qt qu (putE qu f dip ep now l).2.2 K ∧ Kpt K w w' := by
  obtain ⟨F, h1, h2⟩ := h.st
  refine (tput_t w0.heap.size p F qt qu l f dip ep now w h1 h.bel.size hn hf hd he ho).mono ?_
  rintro e w' ⟨he, hT⟩
  exact ⟨he, TTo.on (k := l) h.bel (fun k hk => (h1.blocks k hk).1) h2 h.lt hT⟩
theorem TOn.get {w0 w : World} {p : Nat} {qt qu : Int} {l : List En} {K : Nat → Prop} (h : TOn w0 w p qt qu l K) (f : Fl) (hn : l.length ≤ 1048576) (hf : FitF f) :
    Calls Try.prog 19 #[.pointer (some ⟨p, 0, none⟩), f.val] w fun e w' => e = .returned (getR (findE f l)) ∧ TOn w0 w' p qt qu l K ∧ Kpt K w w' := by
  obtain ⟨F, h1, h2⟩ := h.st
  refine (tget_t w0.heap.size p F qt qu l f w h1 h.bel.size hn hf).mono ?_
  rintro e w' ⟨he, hT⟩
  exact ⟨he, TTo.on (k := l) h.bel (fun k hk => (h1.blocks k hk).1) h2 h.lt hT⟩
theorem TOn.touch {w0 w : World} {p : Nat} {qt qu : Int} {l : List En} {K : Nat → Prop} (h : TOn w0 w p qt qu l K) (f : Fl) (flags now : Int) (hn : l.length ≤ 1048576) (hf : FitF f) (hg : InN flags) (ho : InN now) :
    Calls Try.prog 17 #[.pointer (some ⟨p, 0, none⟩), f.val, .int .i64 flags, .int .i64 now] w fun e w' => e = .returned (.bool (touchE qt f flags now l).1) ∧ TOn w0 w' p qt qu (touchE qt f flags now l).2 K ∧ Kpt K w w' := by
  obtain ⟨F, h1, h2⟩ := h.st
  refine (ttouch_t w0.heap.size p F qt qu l f flags now w h1 h.bel.size hn hf hg ho).mono ?_
  rintro e w' ⟨he, hT⟩
  exact ⟨he, TTo.on (k := l) h.bel (fun k hk => (h1.blocks k hk).1) h2 h.lt hT⟩
theorem TOn.len {w0 w : World} {p : Nat} {qt qu : Int} {l : List En} {K : Nat → Prop} (h : TOn w0 w p qt qu l K) (hn : l.length ≤ 1048576) :
    Calls Try.prog 26 #[.pointer (some ⟨p, 0, none⟩)] w fun e w' => e = .returned (.tuple #[.int .i64 (trE l : Nat), .int .i64 (unE l : Nat)]) ∧ TOn w0 w' p qt qu l K ∧ Kpt K w w' := by
  obtain ⟨F, h1, h2⟩ := h.st
  refine (tlen_t w0.heap.size p F qt qu l w h1 h.bel.size hn).mono ?_
  rintro e w' ⟨he, hT⟩
  exact ⟨he, TTo.on (k := l) h.bel (fun k hk => (h1.blocks k hk).1) h2 h.lt hT⟩
theorem TOn.made {w w' : World} {qt qu : Int} {e : Ending} (hq : OkQ qt ∧ OkQ qu) (h : TNew TSt w qt qu e w') : ∃ p, e = .returned (.tuple #[.pointer (some ⟨p, 0, none⟩), .nilIface]) ∧ TOn w w' p qt qu [] (fun k => k < w.heap.size) := by
  obtain ⟨h1, hb⟩ := h
  rcases h1 with ⟨_, p, F, he, hS⟩ | ⟨hn, _⟩
  · exact ⟨p, he, ⟨F, hS, fun k hk hf => by have := (hS.blocks k hf).1; omega⟩, hb, fun k hk => Nat.lt_of_lt_of_le hk hb.size⟩
  · exact absurd hq hn
/-- The statements' own flows. -/
def exF (port : Int) : Fl := ⟨6, 134744072, port, 16843009, 80⟩
theorem exF_fit {port : Int} (h : InN port) : FitF (exF port) := by
  refine ⟨?_, ?_, h, ?_, ?_⟩ <;> simp [exF, InN, In32]
theorem ex_c (port : Int) (w : World) : Calls Try.prog 52 #[.int .i64 port] w fun e w' => e = .returned (exF port).val ∧ Below w.heap.size w w' := by
  go_enter Try.func52, Try.ntmps52
  go_wp2
  refine bodyPost_ret (v := (exF port).val) (by simp [results, Try.results52, go_sem, exF]) rfl ?_
  exact ⟨rfl, bl_al (Below.refl _ _) _⟩
end Go.Proofs.Ytpbgccidhpfmgaa
namespace Go.Proofs.Ytpbgccidhpfmgaa
open Go Go.RowKit
set_option linter.unusedVariables false
set_option linter.unusedSimpArgs false

/-- Rows that are handed back: nobody touches them any more. -/
theorem TOn.exp {w0 w : World} {p : Nat} {qt qu : Int} {l : List En} {K : Nat → Prop} (h : TOn w0 w p qt qu l K) (now : Int) (hn : l.length ≤ 1048576) (ho : InN now) :
    Calls Try.prog 24 #[.pointer (some ⟨p, 0, none⟩), .int .i64 now] w fun e w' => ∃ a c, e = .returned (.slice a (expE now l).1.length c) ∧ InF w' a (expE now l).1.length (expE now l).1 ∧
      TOn w0 w' p qt qu (expE now l).2 (fun k => K k ∨ (Value.slice a (expE now l).1.length c).ownBlock = some k) ∧ Kpt K w w' := by
  obtain ⟨F, h1, h2⟩ := h.st
  refine (texp_t w0.heap.size p F qt qu l now w h1 h.bel.size hn ho).mono ?_
  rintro e w' ⟨F2, a, c, he, hr, ha, hS, hF2, hT⟩
  refine ⟨a, c, he, ownF_in hr, ⟨⟨F2, hS, fun k hk hf => ?_⟩, h.bel.trans (hT.below (fun k hk => (h1.blocks k hk).1) h.bel.size), fun k hk => ?_⟩, fun k hk => hT.block k (h.lt k hk) (h2 k hk)⟩
  · rcases hk with hk | hk
    · rcases hF2 k hf with h4 | h4
      · exact h2 k hk h4
      · have := h.lt k hk
        omega
    · exact ha k hk hf
  · rcases hk with hk | hk
    · exact Nat.lt_of_lt_of_le (h.lt k hk) hT.size
    · exact (hr.lt k hk).2
theorem TOn.all {w0 w : World} {p : Nat} {qt qu : Int} {l : List En} {K : Nat → Prop} (h : TOn w0 w p qt qu l K) (hn : l.length ≤ 1048576) :
    Calls Try.prog 29 #[.pointer (some ⟨p, 0, none⟩)] w fun e w' => ∃ a c, e = .returned (.slice a l.length c) ∧ InE w' a l.length l ∧
      TOn w0 w' p qt qu l (fun k => K k ∨ (Value.slice a l.length c).ownBlock = some k) ∧ Kpt K w w' := by
  obtain ⟨F, h1, h2⟩ := h.st
  refine (tall_t w0.heap.size p F qt qu l w h1 h.bel.size hn).mono ?_
  rintro e w' ⟨F2, a, c, he, hr, ha, hS, hF2, hT⟩
  refine ⟨a, c, he, ownE_in hr, ⟨⟨F2, hS, fun k hk hf => ?_⟩, h.bel.trans (hT.below (fun k hk => (h1.blocks k hk).1) h.bel.size), fun k hk => ?_⟩, fun k hk => hT.block k (h.lt k hk) (h2 k hk)⟩
  · rcases hk with hk | hk
    · rcases hF2 k hf with h4 | h4
      · exact h2 k hk h4
      · have := h.lt k hk
        omega
    · exact ha k hk hf
  · rcases hk with hk | hk
    · exact Nat.lt_of_lt_of_le (h.lt k hk) hT.size
    · exact (hr.lt k hk).2
/-- Flows that are left alone are taken out. -/
theorem TOn.rem {w0 w : World} {p : Nat} {qt qu : Int} {l : List En} {K : Nat → Prop} (h : TOn w0 w p qt qu l K) (fs : List Fl) (a : Option Addr) (n c : Nat) (hI : InF w a n fs) (hK : ∀ b off, a = some ⟨b, off, none⟩ → 0 < n → K b ∨ b < w0.heap.size) (hff : ∀ f ∈ fs, FitF f) (hn : l.length ≤ 1048576) (hn2 : n ≤ 1048576) :
    Calls Try.prog 21 #[.pointer (some ⟨p, 0, none⟩), .slice a n c] w fun e w' => e = .returned (.int .i64 ((remE fs l).1 : Nat)) ∧ TOn w0 w' p qt qu (remE fs l).2 K ∧ Kpt K w w' := by
  obtain ⟨F, h1, h2⟩ := h.st
  refine (trem_t w0.heap.size p F qt qu l fs a n c w h1 h.bel.size ⟨hI, fun b off e h0 hf => ?_, hff⟩ hn hn2).mono ?_
  · rcases hK b off e h0 with h3 | h3
    · exact h2 b h3 hf
    · have := (h1.blocks b hf).1
      omega
  · rintro e w' ⟨he, hT⟩
    exact ⟨he, TTo.on (k := l) h.bel (fun k hk => (h1.blocks k hk).1) h2 h.lt hT⟩
end Go.Proofs.Ytpbgccidhpfmgaa
