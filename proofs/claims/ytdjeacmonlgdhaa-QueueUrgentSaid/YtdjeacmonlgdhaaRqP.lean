/- The document's queue in memory; the contract of its Put. Conditions: those stated. -/
import Derived.Test.YtdjeacmonlgdhaaCps
import Derived.Test.YtdjeacmonlgdhaaQStB
import Derived.Laws.Pointers
import Derived.Deep.RegionLaw
namespace Go.Proofs.Ytdjeacmonlgdhaa
open Go Go.RowKit
set_option linter.unusedVariables false
set_option linter.unusedSimpArgs false

/-- The document's queue at an address: its rows, its size. -/
structure RfQ (w : World) (B m off : Nat) (size : Nat) (ao : Option Addr) (n c : Nat) (vs : List Value) (ps : List (List Int)) : Prop where
  c0 : w.cell? ⟨m, off, none⟩ = some (.slice ao n c)
  c1 : w.cell? ⟨m, off + 1, none⟩ = some (.int .i64 size)
  free : w.frozen? ⟨m, off, none⟩ = false
  own : w.ownsRow B 42 1 (.slice ao n c) n vs
  rows : Rws w B vs ps
  apart : vs.Pairwise Aprt
  far : ∀ v ∈ vs, Aprt (.slice ao n c) v
  away : ∀ v ∈ vs, v.ownBlock ≠ some m
  away0 : (Value.slice ao n c).ownBlock ≠ some m
theorem RfQ.len {w : World} {B m off size : Nat} {ao : Option Addr} {n c : Nat} {vs : List Value} {ps : List (List Int)} (h : RfQ w B m off size ao n c vs ps) : ps.length = n := by
  have h1 := h.own.1
  have h2 := h.rows.len
  omega
/-- The blocks that it lies in, but for its own. -/
def RfB (ao : Option Addr) (n c : Nat) (vs : List Value) (k : Nat) : Prop := (Value.slice ao n c).ownBlock = some k ∨ ∃ v ∈ vs, v.ownBlock = some k
theorem frozen_keep {T : Nat → Prop} {w w' : World} (h : Tch T w w') {p : Addr} {v : Value} (hc : w.cell? p = some v) (hn : ¬ T p.block) : w'.frozen? p = w.frozen? p :=
  World.frozen?_of_block (h.block p.block (World.block_lt_of_cell? _ _ hc) hn)
theorem RfQ.keep {T : Nat → Prop} {w w' : World} {B m off size : Nat} {ao : Option Addr} {n c : Nat} {vs : List Value} {ps : List (List Int)} (h : RfQ w B m off size ao n c vs ps) (ht : Tch T w w') (hm : ¬ T m) (hn : ∀ k, RfB ao n c vs k → ¬ T k) : RfQ w' B m off size ao n c vs ps :=
  ⟨ht.cell h.c0 hm, ht.cell h.c1 hm, (frozen_keep ht h.c0 hm).trans h.free, ht.own h.own (fun g hg => hn g (.inl hg)), h.rows.keep ht (fun v hv g hg => hn g (.inr ⟨v, hv, hg⟩)), h.apart, h.far, h.away, h.away0⟩
theorem RfQ.blocks {w : World} {B m off size : Nat} {ao : Option Addr} {n c : Nat} {vs : List Value} {ps : List (List Int)} (h : RfQ w B m off size ao n c vs ps) : ∀ k, RfB ao n c vs k → B ≤ k ∧ k < w.heap.size := fun k hk => by
  rcases hk with hk | ⟨v, hv, hk⟩
  · exact h.own.lt k hk
  · exact h.rows.blocks v hv k hk
/-- Of a block only one cell may have turned. -/
structure One (m off : Nat) (w w' : World) : Prop where
  cell : ∀ o, o ≠ off → w'.cell? ⟨m, o, none⟩ = w.cell? ⟨m, o, none⟩
  free : ∀ o, w'.frozen? ⟨m, o, none⟩ = w.frozen? ⟨m, o, none⟩
theorem One.refl (m off : Nat) (w : World) : One m off w w := ⟨fun _ _ => rfl, fun _ => rfl⟩
theorem One.trans {m off : Nat} {a b c : World} (h : One m off a b) (h2 : One m off b c) : One m off a c := ⟨fun o ho => (h2.cell o ho).trans (h.cell o ho), fun o => (h2.free o).trans (h.free o)⟩
theorem One.tch {T : Nat → Prop} {m off : Nat} {w w' : World} (h : Tch T w w') (hm : m < w.heap.size) (hn : ¬ T m) : One m off w w' :=
  ⟨fun o _ => World.cell?_of_block (h.block m hm hn), fun o => World.frozen?_of_block (h.block m hm hn)⟩
theorem One.set (m off : Nat) (w : World) (v : Value) : One m off w (w.setCell ⟨m, off, none⟩ v) :=
  ⟨fun o ho => World.cell?_setCell_other _ _ _ _ (fun e => ho (congrArg Addr.off e).symm), fun o => by simp⟩
/-- How many find room. -/
def fits (n size m : Nat) : Nat := min m (size - n)
/-- What the document's Put leaves. -/
def GotP (w : World) (B m off size : Nat) (ao : Option Addr) (n c : Nat) (vs : List Value) (ps qs : List (List Int)) (e : Ending) (w' : World) : Prop :=
  ∃ ao' c' us, e = .returned (.int .i64 (fits n size qs.length)) ∧ RfQ w' B m off size ao' (n + fits n size qs.length) c' (vs ++ us) (ps ++ qs.take (fits n size qs.length)) ∧ One m off w w' ∧
    Tch (fun k => k = m ∨ (Value.slice ao n c).ownBlock = some k) w w' ∧ (∀ u ∈ us, ∀ k, u.ownBlock = some k → w.heap.size ≤ k) ∧ (∀ k, (Value.slice ao' (n + fits n size qs.length) c').ownBlock = some k → (Value.slice ao n c).ownBlock = some k ∨ w.heap.size ≤ k)
theorem put_step {W w7 w8 : World} {B m off size N c' nj g8 c8 c7 : Nat} {ao a7 : Option Addr} {vs : List Value} {ps : List (List Int)} {q : List Int} (hQ : RfQ W B m off size ao N c' vs ps) (hB : B ≤ W.heap.size) (hb7 : Below W.heap.size W w7) (h7 : w7.ownsRow W.heap.size 5 1 (.slice a7 nj c7) nj (u8s q)) (hq : q.length = nj) (hf : fit q)
    (h8 : w8.ownsRow B 42 1 (.slice (some ⟨g8, 0, none⟩) (N + 1) c8) (N + 1) (vs ++ [.slice a7 nj c7])) (hg : (w7.alloc (.cells #[.slice a7 nj c7] 42)).grownBy w8 (Value.slice ao N c').ownBlock) (hl : (Value.slice ao N c').ownBlock = some g8 ∨ g8 = (w7.alloc (.cells #[.slice a7 nj c7] 42)).heap.size) :
    RfQ (w8.setCell ⟨m, off, none⟩ (.slice (some ⟨g8, 0, none⟩) (N + 1) c8)) B m off size (some ⟨g8, 0, none⟩) (N + 1) c8 (vs ++ [.slice a7 nj c7]) (ps ++ [q]) ∧
    One m off W (w8.setCell ⟨m, off, none⟩ (.slice (some ⟨g8, 0, none⟩) (N + 1) c8)) ∧
    Tch (fun k => k = m ∨ (Value.slice ao N c').ownBlock = some k) W (w8.setCell ⟨m, off, none⟩ (.slice (some ⟨g8, 0, none⟩) (N + 1) c8)) ∧
    (∀ k, (Value.slice a7 nj c7).ownBlock = some k → W.heap.size ≤ k) ∧ ((Value.slice ao N c').ownBlock = some g8 ∨ W.heap.size ≤ g8) := by
  have hml : m < W.heap.size := World.block_lt_of_cell? _ _ hQ.c0
  have hob : ∀ k, (Value.slice ao N c').ownBlock = some k → k < W.heap.size ∧ k ≠ m := fun k hk => ⟨(hQ.own.lt k hk).2, fun e => hQ.away0 (by rw [hk, e])⟩
  have hnb : ∀ k, (Value.slice a7 nj c7).ownBlock = some k → W.heap.size ≤ k ∧ k < w7.heap.size := fun k hk => h7.lt k hk
  have s7 := hb7.size
  have hg8 : (Value.slice ao N c').ownBlock = some g8 ∨ w7.heap.size < g8 := hl.imp id (fun e => by simp at e; omega)
  have hg8m : g8 ≠ m := by
    rcases hl with h | h
    · exact (hob g8 h).2
    · simp at h; omega
  have T2 : Tch Non W (w7.alloc (.cells #[.slice a7 nj c7] 42)) := tch_new (bl_al hb7 _)
  have T2' : Tch Non w7 (w7.alloc (.cells #[.slice a7 nj c7] 42)) := tch_new (bl_al (Below.refl _ _) _)
  have T3 := tch_grown hg
  have T4 := tch_set w8 ⟨m, off, none⟩ (.slice (some ⟨g8, 0, none⟩) (N + 1) c8)
  have hm3 : ¬ some m = (Value.slice ao N c').ownBlock := fun e => hQ.away0 e.symm
  have e0 := T3.cell (T2.cell hQ.c0 (fun h => h)) hm3
  have e1 := T3.cell (T2.cell hQ.c1 (fun h => h)) hm3
  have fr := ((frozen_keep T3 (T2.cell hQ.c0 (fun h => h)) hm3).trans (frozen_keep T2 hQ.c0 (fun h => h))).trans hQ.free
  have r7 : w7.ownsRow W.heap.size 5 1 (.slice a7 nj c7) q.length (u8s q) := by rw [hq]; exact h7
  have hnew : Rws w7 B [.slice a7 nj c7] [q] := Rws.one (own_base r7 hB) hf
  have R3 : Rws w8 B (vs ++ [.slice a7 nj c7]) (ps ++ [q]) := by
    refine ((hQ.rows.keep T2 (fun _ _ _ _ h => h)).keep T3 (fun v hv k hk e => hQ.far v hv k e.symm hk)).app ((hnew.keep T2' (fun _ _ _ _ h => h)).keep T3 (fun v hv k hk e => ?_))
    rw [List.mem_singleton] at hv
    rw [hv] at hk
    have := (hob k e.symm).1
    have := (hnb k hk).1
    omega
  have haw : ∀ v ∈ vs ++ [Value.slice a7 nj c7], v.ownBlock ≠ some m := fun v hv e => by
    rcases List.mem_append.1 hv with hv | hv
    · exact hQ.away v hv e
    · rw [List.mem_singleton] at hv
      rw [hv] at e
      have := (hnb m e).1
      omega
  refine ⟨⟨?_, ?_, ?_, ?_, ?_, ?_, ?_, haw, ?_⟩, ?_, ?_, fun k hk => (hnb k hk).1, hg8.imp id (fun h => by omega)⟩
  · exact World.cell?_setCell_same w8 ⟨m, off, none⟩ _ e0
  · exact (World.cell?_setCell_other _ _ _ _ (fun e => by have := congrArg Addr.off e; simp at this)).trans e1
  · simpa using fr
  · exact ownsRow_setCell_other h8 (fun e => hg8m (by cases e; rfl)) _
  · exact R3.keep T4 (fun v hv k hk e => haw v hv (by rw [hk, e]))
  · refine List.pairwise_append.2 ⟨hQ.apart, List.pairwise_singleton _ _, fun v hv u hu k hk hk2 => ?_⟩
    rw [List.mem_singleton] at hu
    rw [hu] at hk2
    have h1 := (hQ.rows.blocks v hv k hk).2
    have h2 := (hnb k hk2).1
    omega
  · intro v hv k hk hk2
    cases hk
    rcases List.mem_append.1 hv with hv | hv
    · rcases hg8 with h | h
      · exact hQ.far v hv g8 h hk2
      · have := (hQ.rows.blocks v hv g8 hk2).2
        omega
    · rw [List.mem_singleton] at hv
      rw [hv] at hk2
      have h2 := hnb g8 hk2
      rcases hg8 with h | h
      · have := (hob g8 h).1
        omega
      · omega
  · intro e
    cases e
    exact hg8m rfl
  · exact ((One.tch T2 hml (fun h => h)).trans (One.tch T3 (Nat.lt_of_lt_of_le hml T2.size) hm3)).trans (One.set m off w8 _)
  · exact ((T2.mono (fun _ h => h.elim)).trans (T3.mono (fun k hk => .inr hk.symm))).trans (T4.mono (fun k hk => .inl hk))
theorem fits_step {n size m j : Nat} (h1 : j < m) (h2 : n + j < size) : j < fits n size m := by unfold fits; omega
theorem fits_end {n size m j : Nat} (h1 : j ≤ m) (h2 : j = 0 ∨ n + j ≤ size) (h : ¬ (j < m ∧ n + j < size)) : j = fits n size m := by unfold fits; omega
set_option maxRecDepth 100000 in
set_option maxHeartbeats 4000000 in
theorem refPut_t (B m off size : Nat) (ao : Option Addr) (n c : Nat) (vs us : List Value) (ps qs : List (List Int)) (ra : Option Addr) (nr cr : Nat) (w0 w : World) (hQ : RfQ w B m off size ao n c vs ps) (hB : B ≤ w.heap.size) (hI : RsIn w0 ra nr cr us qs) (hb0 : Below w0.heap.size w0 w) (hB0 : w0.heap.size ≤ B) (hm0 : w0.heap.size ≤ m) (hs : size ≤ 4096) (hn : n ≤ size) (hnr : nr ≤ 1048576) (hp : ∀ p ∈ qs, p.length ≤ 1048576) :
    Calls Try.prog 14 #[.pointer (some ⟨m, off, none⟩), .slice ra nr cr] w (GotP w B m off size ao n c vs ps qs) := by
  obtain ⟨i0, hi0, hz0, hz1, hz2⟩ := info_parts info5
  obtain ⟨j0, hj0, hy0, hy1, hy2⟩ := info_parts info26
  have HI := Lib.hid hI
  have HP := Lib.hid hp
  have HB0 := Lib.hid hb0
  have HBB := Lib.hid hB
  have HBI := Lib.hid hB0
  have HMI := Lib.hid hm0
  have hml := World.block_lt_of_cell? _ _ hQ.c0
  have HML := Lib.hid (show m < w.heap.size from hml)
  have Q0 : Hid (RfQ w B m off size ao (n + 0) c (vs ++ []) (ps ++ qs.take 0)) := Lib.hid (by simpa using hQ)
  have O0 : Hid (One m off w w) := Lib.hid (One.refl _ _ _)
  have T0 : Hid (Tch (fun k => k = m ∨ (Value.slice ao n c).ownBlock = some k) w w) := Lib.hid (Tch.refl _ _)
  have U0 : Hid (∀ u ∈ ([] : List Value), ∀ k, u.ownBlock = some k → w.heap.size ≤ k) := Lib.hid (fun u hu => by cases hu)
  have A0 : Hid (∀ k, (Value.slice ao (n + 0) c).ownBlock = some k → (Value.slice ao n c).ownBlock = some k ∨ w.heap.size ≤ k) := Lib.hid (fun k hk => .inl hk)
  have HOB := Lib.hid (show ∀ k, (Value.slice ao n c).ownBlock = some k → B ≤ k ∧ k ≠ m from fun k hk => ⟨(hQ.own.lt k hk).1, fun e => hQ.away0 (by rw [hk, e])⟩)
  clear hI hp hb0 hB hQ hB0 hm0 hml
  go_enter Try.func14, Try.ntmps14
  go_wp2
  go_loopw [5] (fun i wr => ∃ (j : Nat) (ao' : Option Addr) (c' : Nat) (xs : List Value), j ≤ nr ∧ n + j ≤ size ∧ i = .int .i64 j ∧ Hid (RfQ wr B m off size ao' (n + j) c' (vs ++ xs) (ps ++ qs.take j)) ∧ Hid (One m off w wr) ∧ Hid (Tch (fun k => k = m ∨ (Value.slice ao n c).ownBlock = some k) w wr) ∧ Hid (∀ u ∈ xs, ∀ k, u.ownBlock = some k → w.heap.size ≤ k) ∧ Hid (∀ k, (Value.slice ao' (n + j) c').ownBlock = some k → (Value.slice ao n c).ownBlock = some k ∨ w.heap.size ≤ k)) (fun i _ => nr - (intOf i).toNat)
  case atStart => exact ⟨0, ao, c, [], by omega, by omega, rfl, Q0, O0, T0, U0, A0⟩
  case round =>
    obtain ⟨j, ao', c', xs, hj, hns, rfl, HQ, HO, HT, HU, HA⟩ := hrel
    clear Q0 O0 T0 U0 A0
    have e0 := HQ.out.c0
    have e1 := HQ.out.c1
    by_cases hlj : j < nr
    · by_cases hls : n + j < size
      · have hjp : j < qs.length := by rw [HI.out.len]; exact hlj
        obtain ⟨b, offr, rfl⟩ := HI.out.block (by omega)
        have ilj : (j : Int) < (nr : Int) := by omega
        have j0' : (0 : Int) ≤ (j : Int) := by omega
        have ils : decide ((n : Int) + (j : Int) < (size : Int)) = true := decide_eq_true (by omega)
        have HLS := Lib.hid hls
        clear hls
        go_wp2
        go_quiet (fail)
        go_wp2
        have hdr : Tch Non wr (wr.drewN nq) := tch_new (below_drewN (Below.refl _ _) _)
        have HQX := Lib.hid (HQ.out.keep hdr (fun h => h) (fun _ _ h => h))
        have HOX := Lib.hid (HO.out.trans (One.tch hdr (World.block_lt_of_cell? _ _ HQ.out.c0) (fun h => h)))
        have HTX := Lib.hid (HT.out.trans (hdr.mono (fun _ h => h.elim)))
        obtain ⟨W, hW⟩ : ∃ W, W = wr.drewN nq := ⟨_, rfl⟩
        rw [← hW] at HQX HOX HTX
        rw [← hW]
        clear hdr hW e0 e1 HQ HO HT
        have e0 := HQX.out.c0
        have efr := HQX.out.free
        have hbr : Below w0.heap.size w0 W := HB0.out.trans (HTX.out.below (fun k hk => by
          rcases hk with hk | hk
          · have := HMI.out; omega
          · have := (HOB.out k hk).1; have := HBI.out; omega) HB0.out.size)
        have hIr := HI.out.below hbr
        have hcj := hIr.cell hlj
        obtain ⟨aj, nj, cj, hej, hin⟩ := hIr.rows.at hjp
        rw [hej] at hcj
        have HIN := Lib.hid hin
        have hpj := HP.out (qs.getD j []) (by rw [List.getD_eq_getElem?_getD, List.getElem?_eq_getElem hjp]; exact List.getElem_mem hjp)
        have hlen := hin.len
        have HTM := Lib.hid (take_moreL qs [] hjp)
        have HNJ := Lib.hid (show nj ≤ 1048576 by omega)
        have HBW := Lib.hid (show B ≤ W.heap.size from Nat.le_trans HBB.out HTX.out.size)
        have hmw := World.block_lt_of_cell? _ _ e0
        have hmw' : m < W.heap.size := hmw
        have HD1 : Hid (Below W.heap.size W (W.alloc (.cells #[] 5)).drew) := Lib.hid ((bl_al (Below.refl _ _) _).drew)
        have own0 := Lib.hid (World.ownsRow_made (base := W.heap.size) (e := 5) (size := 1) W #[] 0 (Nat.le_refl _) (by decide) rfl)
        have HIN1 := Lib.hid (hin.below HD1.out)
        have hl1 : (u8s (qs.getD j [])).length = nj * 1 := by unfold u8s; rw [List.length_map, hlen, Nat.mul_one]
        have HL1 := Lib.hid hl1
        have e01 := cell_later HD1.out e0
        have hcj1 := cell_later HD1.out hcj
        clear hbr hIr hej hin hpj hlen hjp hl1
        go_region_law (first
          | (refine step_append_own_any rfl (.tmp 27) (.tmp 31) 42 rfl W.heap.size 5 i0 (.int .u8 0) 1 1 Try.underlying42 hi0 hz0 hz1 hz2 rfl (by decide) _ 0 [] rfl own0.out aj nj cj (u8s (qs.getD j [])) rfl HL1.out HIN1.out.zero HIN1.out.cells (u8s_one _) (by unfold maxLen; have := HNJ.out; omega) (by have := HNJ.out; omega) (by simp) ?_; intro v7 w7 hown7 hg7; simp only [Nat.zero_add, List.nil_append] at hown7 ⊢; obtain ⟨a7, c7, rfl⟩ := own_form hown7; have hb7 := HD1.out.grown hg7 (by simp) (fun k hk => by cases hk; exact Nat.le_refl _); have e07 := cell_later hb7 e0; have e07a := cell_later (bl_al hb7 (.cells #[.slice a7 nj c7] 42)) e0; have HO7 := Lib.hid ((owns_bel HQX.out.own hb7).alloc (.cells #[.slice a7 nj c7] 42)))
          | (refine step_append_lies _ rfl (.tmp 26) (.tmp 33) 33 rfl B 42 j0 (.slice none 0 0) 1 24 Try.underlying33 hj0 hy0 hy1 hy2 rfl (by decide) _ (n + j) (vs ++ xs) rfl HO7.out ⟨w7.heap.size, 0, none⟩ 1 1 [.slice a7 nj c7] rfl rfl (cell_one_new w7 _ _) (by intro u hu; simp at hu; subst hu; rfl) (by decide) (by unfold maxLen; have := HLS.out; omega) (by have := HLS.out; omega) (by have h1 := hb7.size; have h2 := HBW.out; simp; omega) _ rfl ?_; intro g8 c8 w8 hown8 hg8 hlie hlt; have hT8 := (tch_grown hg8); have hm8 := (fun h => HQX.out.away0 h); have e08 := hT8.cell e07a (fun h => hm8 h.symm); have ef7 := (frozen_keep (tch_new (bl_al hb7 (.cells #[.slice a7 nj c7] 42))) e0 (fun h => h)).trans efr; have ef8 := (frozen_keep hT8 e07a (fun h => hm8 h.symm)).trans ef7)
          | fail)
        all_goals
          obtain ⟨hQ9, hO9, hT9, hn9, hg9⟩ := put_step HQX.out HBW.out hb7 hown7 HIN.out.len HIN.out.fit hown8 hg8 hlie
          have HQ9 := Lib.hid hQ9
          have HO9 := Lib.hid hO9
          have HT9 := Lib.hid hT9
          have HN9 := Lib.hid hn9
          have HG9 := Lib.hid hg9
          obtain ⟨X, hX⟩ : ∃ X, X = w8.setCell ⟨m, off, none⟩ (.slice (some ⟨g8, 0, none⟩) (n + j + 1) c8) := ⟨_, rfl⟩
          rw [← hX] at HQ9 HO9 HT9
          rw [← hX]
          clear hX hQ9 hO9 hT9 hn9 hg9 hown7 hb7 e07 e07a HO7 hown8 hg8 hlie hlt hT8 hm8 e08 ef7 ef8 hg7 e0 efr e01 hcj hcj1 own0 HIN1 HL1 HD1
          have HT10 := Lib.hid (HTX.out.trans' HT9.out (fun k hk hh => hh.imp id (fun hh => (HA.out k hh).elim id (fun h => absurd h (by omega)))))
          have HQ10 : Hid (RfQ X B m off size (some ⟨g8, 0, none⟩) (n + (j + 1)) c8 (vs ++ (xs ++ [.slice a7 nj c7])) (ps ++ qs.take (j + 1))) := Lib.hid (by rw [HTM.out, ← List.append_assoc, ← List.append_assoc]; exact HQ9.out)
          have HO10 := Lib.hid (HOX.out.trans HO9.out)
          have HU10 : Hid (∀ u ∈ xs ++ [Value.slice a7 nj c7], ∀ k, u.ownBlock = some k → w.heap.size ≤ k) := Lib.hid (fun u hu k hk => by
            rcases List.mem_append.1 hu with hu | hu
            · exact HU.out u hu k hk
            · rw [List.mem_singleton] at hu
              rw [hu] at hk
              exact Nat.le_trans HTX.out.size (HN9.out k hk))
          have HA10 : Hid (∀ k, (Value.slice (some ⟨g8, 0, none⟩) (n + (j + 1)) c8).ownBlock = some k → (Value.slice ao n c).ownBlock = some k ∨ w.heap.size ≤ k) := Lib.hid (fun k hk => by
            cases hk
            rcases HG9.out with h | h
            · exact HA.out g8 h
            · exact .inr (Nat.le_trans HTX.out.size h))
          have hls10 : n + (j + 1) ≤ size := by have := HLS.out; omega
          clear HQ9 HO9 HT9 HN9 HG9 HTX HQX HOX HU HA HTM HIN
          go_wp2
          go_roundw
          case rel => exact ⟨j + 1, _, c8, _, by omega, hls10, by go_num, HQ10, HO10, HT10, HU10, HA10⟩
          case measure => simp [intOf]; omega
      · have ilj : (j : Int) < (nr : Int) := by omega
        have ils : decide ((n : Int) + (j : Int) < (size : Int)) = false := decide_eq_false (by omega)
        have HE : Hid (j = fits n size qs.length) := Lib.hid (fits_end (by rw [HI.out.len]; omega) (.inr hns) (by omega))
        clear hlj hls
        go_wp2
        go_quiet (fail)
        go_wp2
        have hdr : Tch Non wr (wr.drewN nq) := tch_new (below_drewN (Below.refl _ _) _)
        have HQX := Lib.hid (HQ.out.keep hdr (fun h => h) (fun _ _ h => h))
        have HOX := Lib.hid (HO.out.trans (One.tch hdr (World.block_lt_of_cell? _ _ HQ.out.c0) (fun h => h)))
        have HTX := Lib.hid (HT.out.trans (hdr.mono (fun _ h => h.elim)))
        go_ret
        refine ⟨ao', c', xs, ?_, ?_, ?_, ?_, HU.out, ?_⟩
        · rw [← HE.out]; rfl
        · rw [← HE.out]; exact HQX.out
        · exact HOX.out
        · exact HTX.out
        · rw [← HE.out]; exact HA.out
    · have ilj : ¬ ((j : Int) < (nr : Int)) := by omega
      have HE : Hid (j = fits n size qs.length) := Lib.hid (fits_end (by rw [HI.out.len]; omega) (.inr hns) (by rw [HI.out.len]; omega))
      go_wp2
      go_quiet (fail)
      go_wp2
      have hdr : Tch Non wr (wr.drewN nq) := tch_new (below_drewN (Below.refl _ _) _)
      have HQX := Lib.hid (HQ.out.keep hdr (fun h => h) (fun _ _ h => h))
      have HOX := Lib.hid (HO.out.trans (One.tch hdr (World.block_lt_of_cell? _ _ HQ.out.c0) (fun h => h)))
      have HTX := Lib.hid (HT.out.trans (hdr.mono (fun _ h => h.elim)))
      go_ret
      refine ⟨ao', c', xs, ?_, ?_, ?_, ?_, HU.out, ?_⟩
      · rw [← HE.out]; rfl
      · rw [← HE.out]; exact HQX.out
      · exact HOX.out
      · exact HTX.out
      · rw [← HE.out]; exact HA.out
end Go.Proofs.Ytdjeacmonlgdhaa
