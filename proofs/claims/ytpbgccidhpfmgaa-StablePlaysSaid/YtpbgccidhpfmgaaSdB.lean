/- The document's store: Put, Get, Sync, Crash. Conditions: as each states. -/
import Derived.Test.YtpbgccidhpfmgaaSdA
namespace Go.Proofs.Ytpbgccidhpfmgaa
open Go Go.RowKit Go.Maps
set_option linter.unusedVariables false
set_option linter.unusedSimpArgs false

abbrev tyR : TypeId := 72
abbrev rsO (size : Int) (v u : Value) : Obj := .cells #[v, u, .int .i64 size] tyR
/-- The document's store, its rows at v and u. -/
structure RsK (w : World) (B : Nat) (G : Nat → Prop) (q : Nat) (size : Int) (a1 : Option Addr) (c1 : Nat) (a2 : Option Addr) (c2 : Nat) (ps qs : List Pv) : Prop where
  srt : SrtP (ps.map (·.1)) ∧ SrtP (qs.map (·.1))
  ok : (∀ x ∈ ps, OkP x.1) ∧ (∀ x ∈ qs, OkP x.1)
  len : usedP (ps.map (·.1)) ≤ 67108864 ∧ usedP (qs.map (·.1)) ≤ 67108864
  sz : 0 ≤ size ∧ size ≤ 67108864
  here : G q
  blocks : ∀ k, G k → B ≤ k ∧ k < w.heap.size
  cells : w.heap[q]? = some (rsO size (.slice a1 ps.length c1) (.slice a2 qs.length c2))
  now : PsV w G B (.slice a1 ps.length c1) ps
  syn : PsV w G B (.slice a2 qs.length c2) qs
def RsS (w : World) (B : Nat) (G : Nat → Prop) (q : Nat) (size : Int) (l m : List Pr) : Prop := ∃ a1 c1 a2 c2 ps qs, RsK w B G q size a1 c1 a2 c2 ps qs ∧ ps.map (·.1) = l ∧ qs.map (·.1) = m
section
variable {w w' : World} {B : Nat} {G : Nat → Prop} {q : Nat} {size : Int} {a1 a2 : Option Addr} {c1 c2 : Nat} {ps qs : List Pv}
theorem RsK.cs (h : RsK w B G q size a1 c1 a2 c2 ps qs) : w.cell? ⟨q, 0, none⟩ = some (.slice a1 ps.length c1) ∧ w.cell? ⟨q, 1, none⟩ = some (.slice a2 qs.length c2) ∧ w.cell? ⟨q, 2, none⟩ = some (.int .i64 size) := by
  have h2 : w.heap[q]? = some (.cells #[.slice a1 ps.length c1, .slice a2 qs.length c2, .int .i64 size] tyR (0, 0)) := h.cells
  refine ⟨?_, ?_, ?_⟩ <;> (rw [cell_of_row w q _ _ _ _ h2]; rfl)
theorem RsK.free (h : RsK w B G q size a1 c1 a2 c2 ps qs) (o : Nat) : w.frozen? ⟨q, o, none⟩ = false := frozen_of_row w q o _ _ h.cells
theorem RsK.noRow (h : RsK w B G q size a1 c1 a2 c2 ps qs) : NoRow w q := fun cs fr e => by
  have := h.cells
  rw [this] at e
  simp only [Option.some.injEq, Obj.cells.injEq] at e
  exact absurd e.2.1 (by decide)
theorem PsV.ne {v : Value} {F : Nat → Prop} {rs : List Pv} (h : PsV w F B v rs) {q : Nat} {cs : Array Value} (hq : w.heap[q]? = some (.cells cs tyR (0, 0))) : ∀ g, v.ownBlock = some g → g ≠ q := fun g hg e => by
  rcases h.row.2 with ⟨rfl, _⟩ | ⟨g', cap, cur, rfl, _, h2, _⟩
  · cases hg
  · cases hg
    subst e
    rw [h2] at hq
    simp only [Option.some.injEq, Obj.cells.injEq] at hq
    exact absurd hq.2.1 (by decide)
theorem RsK.lens (h : RsK w B G q size a1 c1 a2 c2 ps qs) : ps.length ≤ 67108864 ∧ qs.length ≤ 67108864 := by
  have h1 := len_used (l := ps.map (·.1)) (fun e he => by obtain ⟨x, hx, rfl⟩ := List.mem_map.1 he; exact h.ok.1 x hx)
  have h2 := len_used (l := qs.map (·.1)) (fun e he => by obtain ⟨x, hx, rfl⟩ := List.mem_map.1 he; exact h.ok.2 x hx)
  rw [List.length_map] at h1 h2
  have := h.len
  omega
theorem RsK.keep {T : Nat → Prop} (h : RsK w B G q size a1 c1 a2 c2 ps qs) (ht : Tch T w w') (hn : ∀ k, G k → ¬ T k) : RsK w' B G q size a1 c1 a2 c2 ps qs :=
  ⟨h.srt, h.ok, h.len, h.sz, h.here, fun k hk => ⟨(h.blocks k hk).1, Nat.lt_of_lt_of_le (h.blocks k hk).2 ht.size⟩, ht.at h.cells (hn q h.here),
    h.now.tch ht (fun g hg => hn g (h.now.here g hg)) (fun k hT hG => absurd hT (hn k hG)), h.syn.tch ht (fun g hg => hn g (h.syn.here g hg)) (fun k hT hG => absurd hT (hn k hG))⟩
theorem RsK.tchq (h : RsK w B G q size a1 c1 a2 c2 ps qs) (v : Value) (i : Nat) : (∀ {F : Nat → Prop} {u : Value} {rs : List Pv}, PsV w F B u rs → PsV (w.setCell ⟨q, i, none⟩ v) F B u rs) ∧ Tch (· = q) w (w.setCell ⟨q, i, none⟩ v) :=
  ⟨fun hp => hp.tch (tch_set w ⟨q, i, none⟩ v) (fun g hg e => hp.ne h.cells g hg e) (fun k hk _ => by rw [hk]; exact h.noRow), tch_set w ⟨q, i, none⟩ v⟩
/-- The first row's place is written. -/
theorem RsK.set0 (h : RsK w B G q size a1 c1 a2 c2 ps qs) {a3 : Option Addr} {c3 : Nat} {rs : List Pv} (hp : PsV w G B (.slice a3 rs.length c3) rs) (hs : SrtP (rs.map (·.1))) (ho : ∀ x ∈ rs, OkP x.1) (hl : usedP (rs.map (·.1)) ≤ 67108864) :
    RsK (w.setCell ⟨q, 0, none⟩ (.slice a3 rs.length c3)) B G q size a3 c3 a2 c2 rs qs ∧ Tch (· = q) w (w.setCell ⟨q, 0, none⟩ (.slice a3 rs.length c3)) := by
  obtain ⟨k1, k2⟩ := h.tchq (.slice a3 rs.length c3) 0
  refine ⟨⟨⟨hs, h.srt.2⟩, ⟨ho, h.ok.2⟩, ⟨hl, h.len.2⟩, h.sz, h.here, fun k hk => ⟨(h.blocks k hk).1, Nat.lt_of_lt_of_le (h.blocks k hk).2 k2.size⟩, ?_, k1 hp, k1 h.syn⟩, k2⟩
  have h2 : w.heap[q]? = some (.cells #[.slice a1 ps.length c1, .slice a2 qs.length c2, .int .i64 size] tyR (0, 0)) := h.cells
  have := put_row (i := 0) h2 (.slice a3 rs.length c3)
  simpa using this
/-- The second row's place is written. -/
theorem RsK.set1 (h : RsK w B G q size a1 c1 a2 c2 ps qs) : RsK (w.setCell ⟨q, 1, none⟩ (.slice a1 ps.length c1)) B G q size a1 c1 a1 c1 ps ps ∧ Tch (· = q) w (w.setCell ⟨q, 1, none⟩ (.slice a1 ps.length c1)) := by
  obtain ⟨k1, k2⟩ := h.tchq (.slice a1 ps.length c1) 1
  refine ⟨⟨⟨h.srt.1, h.srt.1⟩, ⟨h.ok.1, h.ok.1⟩, ⟨h.len.1, h.len.1⟩, h.sz, h.here, fun k hk => ⟨(h.blocks k hk).1, Nat.lt_of_lt_of_le (h.blocks k hk).2 k2.size⟩, ?_, k1 h.now, k1 h.now⟩, k2⟩
  have h2 : w.heap[q]? = some (.cells #[.slice a1 ps.length c1, .slice a2 qs.length c2, .int .i64 size] tyR (0, 0)) := h.cells
  have := put_row (i := 1) h2 (.slice a1 ps.length c1)
  simpa using this
/-- It takes new blocks. -/
theorem RsK.more (h : RsK w B G q size a1 c1 a2 c2 ps qs) (N : Nat) (hN : B ≤ N) : RsK w B (fun k => G k ∨ (N ≤ k ∧ k < w.heap.size)) q size a1 c1 a2 c2 ps qs :=
  ⟨h.srt, h.ok, h.len, h.sz, .inl h.here, fun k hk => by
    rcases hk with hk | hk
    · exact h.blocks k hk
    · exact ⟨Nat.le_trans hN hk.1, hk.2⟩, h.cells, h.now.mono (fun k hk => .inl hk), h.syn.mono (fun k hk => .inl hk)⟩
end
/-- What a call leaves. -/
def RsTo (w : World) (B : Nat) (G : Nat → Prop) (q : Nat) (size : Int) (l m : List Pr) (w' : World) : Prop := ∃ G2, RsS w' B G2 q size l m ∧ (∀ k, G2 k → G k ∨ w.heap.size ≤ k) ∧ Tch (· = q) w w'
theorem RsS.keep {T : Nat → Prop} {w w' : World} {B : Nat} {G : Nat → Prop} {q : Nat} {size : Int} {l m : List Pr} (h : RsS w B G q size l m) (ht : Tch T w w') (hn : ∀ k, G k → ¬ T k) : RsS w' B G q size l m := by
  obtain ⟨a1, c1, a2, c2, ps, qs, hK, e1, e2⟩ := h
  exact ⟨a1, c1, a2, c2, ps, qs, hK.keep ht hn, e1, e2⟩
theorem RsS.blocks {w : World} {B : Nat} {G : Nat → Prop} {q : Nat} {size : Int} {l m : List Pr} (h : RsS w B G q size l m) : ∀ k, G k → B ≤ k ∧ k < w.heap.size := by
  obtain ⟨a1, c1, a2, c2, ps, qs, hK, _⟩ := h
  exact hK.blocks
/-- What Get answers. -/
def RGet (w : World) (B : Nat) (G : Nat → Prop) (r : Option (List Int)) (e : Ending) (w' : World) : Prop := w = w' ∧ match r with
  | none => e = .returned (.tuple #[.slice none 0 0, .int .i64 6])
  | some r => ∃ a c, e = .returned (.tuple #[.slice a r.length c, .int .i64 0]) ∧ RowF w G B (.slice a r.length c) r
theorem RGet.no {w w' : World} {B : Nat} {G : Nat → Prop} {r : Option (List Int)} {e : Ending} (h : r = none) (hw : w = w') (he : e = .returned (.tuple #[.slice none 0 0, .int .i64 6])) : RGet w B G r e w' := by
  subst h; exact ⟨hw, he⟩
theorem RGet.yes {w w' : World} {B : Nat} {G : Nat → Prop} {o : Option (List Int)} {r : List Int} {e : Ending} {a : Option Addr} {c : Nat} (h : o = some r) (hw : w = w') (he : e = .returned (.tuple #[.slice a r.length c, .int .i64 0])) (hr : RowF w G B (.slice a r.length c) r) : RGet w B G o e w' := by
  subst h; exact ⟨hw, a, c, he, hr⟩
set_option maxRecDepth 100000 in
set_option maxHeartbeats 1000000 in
theorem rget_c (B : Nat) (G : Nat → Prop) (q : Nat) (size : Int) (l m : List Pr) (k : Ky) (w : World) (h : RsS w B G q size l m) :
    Calls Try.prog 46 #[.pointer (some ⟨q, 0, none⟩), sv k] w (RGet w B G (findP k l)) := by
  obtain ⟨a1, c1, a2, c2, ps, qs, hK, e1, e2⟩ := h
  have HK := Lib.hid hK
  have HL := Lib.hid e1
  have hc := hK.cs.1
  have CF := Lib.hid (rfind_c G B a1 ps.length c1 ps k w hK.now (by have := hK.lens.1; omega) rfl)
  clear hK e1 e2
  go_enter Try.func46, Try.ntmps46
  go_wp2_with fail
  refine CF.out.mono ?_
  rintro e w1 ⟨⟨z, rfl, hz⟩, rfl⟩
  by_cases hz0 : z < 0
  · have HF : Hid (findP k l = none) := Lib.hid (by rw [← HL.out]; exact hz.none' hz0)
    clear hz CF
    go_wp2
    go_ret2
    exact RGet.no HF.out rfl rfl
  · obtain ⟨i, hi, rfl, hf⟩ := hz.some' HK.out.srt.1 hz0
    obtain ⟨g, b2, d2, e0, hcap, _, hc0, hc1, _, hrow⟩ := HK.out.now.at hi
    subst e0
    have HF : Hid (findP k l = some (ps.getD i pv0).1.b) := Lib.hid (by rw [← HL.out]; exact hf)
    have HR := Lib.hid hrow
    obtain ⟨x, hx⟩ : ∃ x, x = (ps.getD i pv0).1 := ⟨_, rfl⟩
    rw [← hx] at hc1 HF HR
    have ii : (i : Int) < (ps.length : Int) := by omega
    have i0 : (0 : Int) ≤ (i : Int) := by omega
    have iic : (ps.length : Int) ≤ (c1 : Int) := by omega
    clear hz CF hf hrow hx
    go_wp2
    go_ret2
    exact RGet.yes HF.out rfl rfl HR.out
set_option maxRecDepth 100000 in
set_option maxHeartbeats 1000000 in
theorem rsync_c (B : Nat) (G : Nat → Prop) (q : Nat) (size : Int) (l m : List Pr) (w : World) (h : RsS w B G q size l m) :
    Calls Try.prog 42 #[.pointer (some ⟨q, 0, none⟩)] w fun e w' => e = .returned (.int .i64 (unlikeP l m : Nat)) ∧ RsTo w B G q size l l w' := by
  obtain ⟨a1, c1, a2, c2, ps, qs, hK, e1, e2⟩ := h
  subst e1
  subst e2
  have HK := Lib.hid hK
  have CU := Lib.hid (fun U (hU : Below w.heap.size w U) => runlike_c G B a1 a2 ps.length c1 qs.length c2 ps qs U (hK.keep (tch_new hU) (fun _ _ h => h)).now (hK.keep (tch_new hU) (fun _ _ h => h)).syn hK.lens.1 hK.lens.2 rfl rfl hK.srt.1 hK.srt.2)
  have hd0 : Below w.heap.size w w.drew := (Below.refl _ _).drew
  have hS0 : w.drew.cell? ⟨q, 0, none⟩ = some (.slice a1 ps.length c1) ∧ w.drew.cell? ⟨q, 1, none⟩ = some (.slice a2 qs.length c2) := ⟨hK.cs.1, hK.cs.2.1⟩
  clear hK
  go_enter Try.func42, Try.ntmps42
  go_wp2_with fail
  go_region_held3 (fun wx => wx.cell? ⟨q, 0, none⟩ = some (.slice a1 ps.length c1) ∧ wx.cell? ⟨q, 1, none⟩ = some (.slice a2 qs.length c2)) (first | (with_reducible exact hS0) | (with_reducible assumption) | fail)
    (first | (go_at_call 78; (with_reducible refine (CU.out _ hd0).mono ?_); rintro e w2 ⟨rfl, ht2⟩; have hS2 := (show _ ∧ _ from ⟨ht2.cell hS0.1 (fun h => h), ht2.cell hS0.2 (fun h => h)⟩)) | fail)
  have HT := Lib.hid ((tch_new hd0).trans ht2)
  have HK2 := Lib.hid (HK.out.keep HT.out (fun _ _ h => h))
  have e0 := hS2.1
  have e1 := HK2.out.cs.2.1
  have e3 := HK2.out.free 1
  have HF := Lib.hid HK2.out.set1
  clear hS0 hS2 hd0 ht2 CU HK
  go_wp2
  go_ret
  exact ⟨rfl, G, ⟨_, _, _, _, _, _, HF.out.1, rfl, rfl⟩, fun k hk => .inl hk, (HT.out.mono (fun _ h => h.elim)).trans HF.out.2⟩
theorem RsK.set2 {w : World} {B : Nat} {G : Nat → Prop} {q : Nat} {size : Int} {a1 a2 : Option Addr} {c1 c2 : Nat} {ps qs : List Pv} (h : RsK w B G q size a1 c1 a2 c2 ps qs) : RsK (w.setCell ⟨q, 0, none⟩ (.slice a2 qs.length c2)) B G q size a2 c2 a2 c2 qs qs ∧ Tch (· = q) w (w.setCell ⟨q, 0, none⟩ (.slice a2 qs.length c2)) :=
  h.set0 h.syn h.srt.2 h.ok.2 h.len.2
set_option maxRecDepth 100000 in
set_option maxHeartbeats 1000000 in
theorem rcrash_c (B : Nat) (G : Nat → Prop) (q : Nat) (size : Int) (l m : List Pr) (w : World) (h : RsS w B G q size l m) :
    Calls Try.prog 44 #[.pointer (some ⟨q, 0, none⟩)] w fun e w' => e = .returned (.int .i64 (unlikeP l m : Nat)) ∧ RsTo w B G q size m m w' := by
  obtain ⟨a1, c1, a2, c2, ps, qs, hK, e1, e2⟩ := h
  subst e1
  subst e2
  have HK := Lib.hid hK
  have CU := Lib.hid (fun U (hU : Below w.heap.size w U) => runlike_c G B a1 a2 ps.length c1 qs.length c2 ps qs U (hK.keep (tch_new hU) (fun _ _ h => h)).now (hK.keep (tch_new hU) (fun _ _ h => h)).syn hK.lens.1 hK.lens.2 rfl rfl hK.srt.1 hK.srt.2)
  have hd0 : Below w.heap.size w w.drew := (Below.refl _ _).drew
  have hS0 : w.drew.cell? ⟨q, 0, none⟩ = some (.slice a1 ps.length c1) ∧ w.drew.cell? ⟨q, 1, none⟩ = some (.slice a2 qs.length c2) := ⟨hK.cs.1, hK.cs.2.1⟩
  clear hK
  go_enter Try.func44, Try.ntmps44
  go_wp2_with fail
  go_region_held3 (fun wx => wx.cell? ⟨q, 0, none⟩ = some (.slice a1 ps.length c1) ∧ wx.cell? ⟨q, 1, none⟩ = some (.slice a2 qs.length c2)) (first | (with_reducible exact hS0) | (with_reducible assumption) | fail)
    (first | (go_at_call 78; (with_reducible refine (CU.out _ hd0).mono ?_); rintro e w2 ⟨rfl, ht2⟩; have hS2 := (show _ ∧ _ from ⟨ht2.cell hS0.1 (fun h => h), ht2.cell hS0.2 (fun h => h)⟩)) | fail)
  have HT := Lib.hid ((tch_new hd0).trans ht2)
  have HK2 := Lib.hid (HK.out.keep HT.out (fun _ _ h => h))
  have e0 := hS2.2
  have e1 := HK2.out.cs.1
  have e3 := HK2.out.free 0
  have HF := Lib.hid HK2.out.set2
  clear hS0 hS2 hd0 ht2 CU HK
  go_wp2
  go_ret
  exact ⟨rfl, G, ⟨_, _, _, _, _, _, HF.out.1, rfl, rfl⟩, fun k hk => .inl hk, (HT.out.mono (fun _ h => h.elim)).trans HF.out.2⟩
end Go.Proofs.Ytpbgccidhpfmgaa
