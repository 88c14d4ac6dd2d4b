/- RoundAgrees's walk. Conditions: those stated. -/
import Derived.Test.YtnhnpfhfcbmmlaaRoR
import Derived.Test.YtnhnpfhfcbmmlaaVhD
import Derived.Deep.CutRange
namespace Go.Proofs.Ytnhnpfhfcbmmlaa
open Go Go.RowKit
set_option linter.unusedVariables false
set_option linter.unusedSimpArgs false

abbrev tyMa : TypeId := 100
abbrev tyAs : TypeId := 106
def vr0 : Vr := ⟨bl0, bl0, [], []⟩
theorem own_lit0 (w : World) (e : TypeId) (size : Nat) : (w.alloc (.cells #[] e)).ownsRow w.heap.size e size (.slice (some ⟨w.heap.size, 0, none⟩) 0 0) 0 [] :=
  ⟨by simp, .inr ⟨w.heap.size, 0, #[], rfl, Nat.le_refl _, heap_alloc_new w _, Nat.le_refl _, by unfold maxLen; omega, by simp, by simp⟩⟩
theorem rowOn_nil (w1 w : World) (f : Nat → Nat) (x : Nat) (e : TypeId) (size : Nat) : RowOn w1 w f x e size (.slice none 0 0) 0 [] := ⟨⟨by simp, .inl ⟨rfl, rfl⟩⟩, fun g h => by cases h⟩
section
variable {w1 w : World} {f : Nat → Nat} {M : Nat} {V : Nat → Vr} {vp sp : Nat → Nat} {n : Nat} {R : Nat → Rd} {rp : Nat → Nat} {vv rv wv sv : Value} {nr : Nat} {ws : List Int} {ss : List Bl}
theorem Mny.litR (h : Mny w1 w f M V vp sp n R rp vv rv wv sv nr ws ss) (hM : M ≤ 8) : Mny w1 (w.alloc (.cells #[] tyPR)) (upd f w.heap.size 2) M V vp sp n R rp vv (.slice (some ⟨w.heap.size, 0, none⟩) 0 0) wv sv 0 ws ss := by
  have hr := RowOn.make (f := f) (x := 2) h.bel (own_lit0 w tyPR 1) (bl_al (Below.refl _ _) _)
  have hs := hr.1
  exact ⟨hs.bel, fun i hi => (h.von i hi).another hs (by omega), fun i hi => (h.ron i hi).another hs.bel hs.kpz (by omega), h.vrow.another h.bel hs (by omega), hr.2, h.wrow.another h.bel hs (by omega), h.srow.another h.bel hs (by omega)⟩
theorem Mny.litW (h : Mny w1 w f M V vp sp n R rp vv rv wv sv nr ws ss) (hM : M ≤ 8) : Mny w1 (w.alloc (.cells #[] tyIn)) (upd f w.heap.size 3) M V vp sp n R rp vv rv (.slice (some ⟨w.heap.size, 0, none⟩) 0 0) sv nr [] ss := by
  have hr := RowOn.make (f := f) (x := 3) h.bel (own_lit0 w tyIn 1) (bl_al (Below.refl _ _) _)
  have hs := hr.1
  exact ⟨hs.bel, fun i hi => (h.von i hi).another hs (by omega), fun i hi => (h.ron i hi).another hs.bel hs.kpz (by omega), h.vrow.another h.bel hs (by omega), h.rrow.another h.bel hs (by omega), hr.2, h.srow.another h.bel hs (by omega)⟩
theorem Mny.litS (h : Mny w1 w f M V vp sp n R rp vv rv wv sv nr ws ss) (hM : M ≤ 8) : Mny w1 (w.alloc (.cells #[] tyB2)) (upd f w.heap.size 4) M V vp sp n R rp vv rv wv (.slice (some ⟨w.heap.size, 0, none⟩) 0 0) nr ws [] := by
  have hr := RowOn.make (f := f) (x := 4) h.bel (own_lit0 w tyB2 2) (bl_al (Below.refl _ _) _)
  have hs := hr.1
  exact ⟨hs.bel, fun i hi => (h.von i hi).another hs (by omega), fun i hi => (h.ron i hi).another hs.bel hs.kpz (by omega), h.vrow.another h.bel hs (by omega), h.rrow.another h.bel hs (by omega), h.wrow.another h.bel hs (by omega), hr.2⟩
end
theorem infoPV : (Try.prog.info? tyPV).map (fun i => (i.zero, i.size, i.bytes)) = some (some (.pointer none), 1, 8) := by kernel_rfl
theorem infoPR : (Try.prog.info? tyPR).map (fun i => (i.zero, i.size, i.bytes)) = some (some (.pointer none), 1, 8) := by kernel_rfl
theorem infoIn : (Try.prog.info? tyIn).map (fun i => (i.zero, i.size, i.bytes)) = some (some (.int .i64 0), 1, 8) := by kernel_rfl
/-- What making voters keeps. -/
def Mk (w1 wr : World) (k : Nat) (va : Option Addr) (vc : Nat) : Prop := ∃ f V vp sp, Mny w1 wr f k V vp sp 0 (fun _ => newR 1 bl0 []) (fun _ => 0) (.slice va k vc) (.slice none 0 0) (.slice none 0 0) (.slice none 0 0) 0 [] [] ∧ ∀ j, j < k → V j = vr0
theorem inv_zero {M : Nat} {V : Nat → Vr} (R : Nat → Rd) (h : ∀ k, k < M → V k = vr0) : Inv M V 0 R :=
  ⟨fun i hi => by omega, fun i j hi => by omega, fun k hk => .inl (by rw [h k hk]; rfl), fun k hk => by rw [h k hk]; exact ltB_self _, fun i hi => by omega, fun i hi => by omega, fun i j hi => by omega, fun i hi => by omega, fun i hi => by omega⟩
theorem updN_updN {α : Type} (f : Nat → α) (k : Nat) (x y : α) : updN (updN f k x) k y = updN f k y := by
  funext i
  unfold updN
  split <;> rfl
/-- The topmost block is no voter's. -/
def TopN (f : Nat → Nat) (w : World) : Prop := ∃ t, t + 1 = w.heap.size ∧ (f t < 10 ∨ 18 ≤ f t)
theorem topN_new {f : Nat → Nat} {w w' : World} {y : Nat} (hs : w.heap.size < w'.heap.size) (hy : y < 10 ∨ 18 ≤ y) : TopN (upd f w.heap.size y) w' :=
  ⟨w'.heap.size - 1, by omega, by rw [upd_new (by omega)]; exact hy⟩
theorem topN_step {f : Nat → Nat} {w w' : World} {y : Nat} (h : TopN f w) (hs : w.heap.size ≤ w'.heap.size) (hy : y < 10 ∨ 18 ≤ y) : TopN (upd f w.heap.size y) w' := by
  by_cases e : w.heap.size < w'.heap.size
  · exact topN_new e hy
  · obtain ⟨t, h1, h2⟩ := h
    exact ⟨t, by omega, by rw [upd_old (by omega)]; exact h2⟩
/-- What the rounds' loop keeps. -/
structure Lp (w1 wr : World) (f : Nat → Nat) (M : Nat) (V : Nat → Vr) (vp sp : Nat → Nat) (n : Nat) (R : Nat → Rd) (rp : Nat → Nat) (vv rv wv sv : Value) (ss : List Bl) : Prop where
  acx : ∃ ws, AcS w1 wr f M V vp sp n R rp vv rv wv sv ws ss
  len : ss.length = n
  typ : ∀ b ∈ ss, TyB b
theorem infoAs : True := trivial
theorem prepN_zero {size : Int} {b pr : Bl} {l : List Pr} (h : prepN size b pr l = 0) : ¬ LtB b pr := by
  unfold prepN at h
  rcases hearN_cases b pr with ⟨_, _, h2⟩ | h2 | h2
  · exact h2
  · rw [h2, if_neg (by decide)] at h
    exact absurd h (by decide)
  · rw [h2, if_neg (by decide)] at h
    exact absurd h (by decide)
/-- A box that belongs to none of them. -/
structure BoxOn (w : World) (f : Nat → Nat) (q : Nat) (o : Obj) : Prop where
  here : w.heap[q]? = some o
  mine : f q = 0
theorem BoxOn.another {w1 w w' : World} {f : Nat → Nat} {q y : Nat} {o : Obj} (h : BoxOn w f q o) (hs : Stp w1 f y w w') (hne : y ≠ 0) : BoxOn w' (upd f w.heap.size y) q o :=
  ⟨(hs.kpz.1 q ⟨lt_of_block h.here, fun e => hne (e.symm.trans h.mine)⟩).trans h.here, by rw [upd_old (lt_of_block h.here)]; exact h.mine⟩
theorem BoxOn.new {w w' : World} {f : Nat → Nat} {q : Nat} {o : Obj} (h : BoxOn w f q o) (hb : Below w.heap.size w w') (y : Nat) : BoxOn w' (upd f w.heap.size y) q o :=
  ⟨(hb.block q (lt_of_block h.here)).trans h.here, by rw [upd_old (lt_of_block h.here)]; exact h.mine⟩
/-- The boxes of a proposer's doings and of its ballot. -/
structure Bxs (w : World) (f : Nat → Nat) (q8 q9 : Nat) (on od oh og : Int) (b : Bl) : Prop where
  a : BoxOn w f q8 (.cells #[.int .i64 on, .int .i64 od, .int .i64 oh, .int .i64 og] tyAs (0, 0))
  b : BoxOn w f q9 (.cells #[.int .i64 b.n, .int .i64 b.node] tyB2 (0, 0))
theorem Bxs.another {w1 w w' : World} {f : Nat → Nat} {q8 q9 y : Nat} {on od oh og : Int} {b : Bl} (h : Bxs w f q8 q9 on od oh og b) (hs : Stp w1 f y w w') (hne : y ≠ 0) : Bxs w' (upd f w.heap.size y) q8 q9 on od oh og b := ⟨h.a.another hs hne, h.b.another hs hne⟩
theorem Bxs.new {w w' : World} {f : Nat → Nat} {q8 q9 : Nat} {on od oh og : Int} {b : Bl} (h : Bxs w f q8 q9 on od oh og b) (hb : Below w.heap.size w w') (y : Nat) : Bxs w' (upd f w.heap.size y) q8 q9 on od oh og b := ⟨h.a.new hb y, h.b.new hb y⟩
theorem Bxs.cells {w : World} {f : Nat → Nat} {q8 q9 : Nat} {on od oh og : Int} {b : Bl} (h : Bxs w f q8 q9 on od oh og b) : w.cell? ⟨q8, 2, none⟩ = some (.int .i64 oh) ∧ w.cell? ⟨q9, 0, none⟩ = some (.int .i64 b.n) ∧ w.cell? ⟨q9, 1, none⟩ = some (.int .i64 b.node) :=
  ⟨by rw [cell_of_row w q8 2 _ _ _ h.a.here]; rfl, by rw [cell_of_row w q9 0 _ _ _ h.b.here]; rfl, by rw [cell_of_row w q9 1 _ _ _ h.b.here]; rfl⟩
/-- A round that asks, with its voters. -/
structure Cu (w1 wr : World) (f : Nat → Nat) (M : Nat) (V : Nat → Vr) (vp sp : Nat → Nat) (n : Nat) (R : Nat → Rd) (r : Rd) (rp : Nat → Nat) (vv rv wv sv : Value) (ws : List Int) (ss : List Bl) (b : Bl) : Prop where
  mem : Mny w1 wr f M V vp sp (n + 1) (updN R n r) rp vv rv wv sv n ws ss
  cur : Cur M V n R r
  top : TopN f wr
  bal : r.b = b
theorem take_fresh {ss : List Bl} {b x : Bl} {j : Nat} (hj : j < ss.length) (hx : x = ss.getD j bl0) : decide (b ∉ ss.take (j + 1)) = (decide (b ∉ ss.take j) && !decide (x = b)) := by
  have h1 : ss.take (j + 1) = ss.take j ++ [x] := by
    rw [List.take_add_one, List.getElem?_eq_getElem hj, hx, List.getD_eq_getElem?_getD, List.getElem?_eq_getElem hj]
    rfl
  rw [h1]
  by_cases h2 : b ∈ ss.take j
  · simp [h2]
  · by_cases h3 : x = b
    · subst h3
      simp
    · have h4 : ¬ b = x := fun e => h3 e.symm
      simp [h2, h3, h4]
theorem promR_b (r : Rd) (node : Int) (acc : Bl) (lg : List Cm) : (promR r node acc lg).b = r.b := by
  unfold promR
  have hf := greater_f (heard r node) acc lg
  split
  · split
    · exact hf.2.1
    · exact hf.2.1
  · rfl
theorem InC.cut {w : World} {a : Option Addr} {n c : Nat} {ls : List Cm} {vs : List Value} (h : InC w a n c ls vs) {m : Nat} (hm : m ≤ n) : InC w a m c (ls.take m) (vs.take m) := by
  have hl := h.len
  have hv := h.vlen
  have hg : ∀ j, j < m → (ls.take m).getD j cm0 = ls.getD j cm0 ∧ (vs.take m).getD j undef = vs.getD j undef := fun j hj => by
    rw [List.getD_eq_getElem?_getD, List.getD_eq_getElem?_getD, List.getD_eq_getElem?_getD, List.getD_eq_getElem?_getD, List.getElem?_take, List.getElem?_take, if_pos hj, if_pos hj]
    exact ⟨rfl, rfl⟩
  refine ⟨by rw [List.length_take]; omega, by rw [List.length_take, List.length_take]; omega, Nat.le_trans hm h.room, h.none, ?_, fun j hj => ?_, fun x hx => h.typ x (List.mem_of_mem_take hx)⟩
  · rcases h.here with h0 | ⟨b, off, e, hc⟩
    · left
      rw [h0, List.take_nil]
    · refine .inr ⟨b, off, e, fun t u hu => hc t u ?_⟩
      have e1 : cellsC ls vs = cellsC (ls.take m) (vs.take m) ++ cellsC (ls.drop m) (vs.drop m) := by
        rw [← cellsC_app (by rw [List.length_take, List.length_take]; omega), List.take_append_drop, List.take_append_drop]
      rw [e1, List.getElem?_append_left (List.getElem?_eq_some_iff.1 hu).1]
      exact hu
  · rw [(hg j hj).1, (hg j hj).2]
    exact h.ends j (by omega)
theorem Mny.step5 {w1 w w' : World} {f : Nat → Nat} {M : Nat} {V : Nat → Vr} {vp sp : Nat → Nat} {n : Nat} {R : Nat → Rd} {rp : Nat → Nat} {vv rv wv sv : Value} {nr : Nat} {ws : List Int} {ss : List Bl} (h : Mny w1 w f M V vp sp n R rp vv rv wv sv nr ws ss) (hs : Stp w1 f 5 w w') : Mny w1 w' (upd f w.heap.size 5) M V vp sp n R rp vv rv wv sv nr ws ss :=
  ⟨hs.bel, fun k hk => (h.von k hk).another hs (by omega), fun j hj => (h.ron j hj).another hs.bel hs.kpz (by omega), h.vrow.another h.bel hs (by omega), h.rrow.another h.bel hs (by omega), h.wrow.another h.bel hs (by omega), h.srow.another h.bel hs (by omega)⟩
abbrev tyCs : TypeId := 22
theorem infoCs : (Try.prog.info? tyCs).map (fun i => (i.zero, i.size, i.bytes)) = some (some (.slice none 0 0), 1, 24) := by kernel_rfl
/-- A log of a round that is done. -/
structure Dn where
  ls : List Cm
  ao : Option Addr
  c : Nat
  vs : List Value
def dn0 : Dn := ⟨[], none, 0, []⟩
def Dn.val (d : Dn) : Value := .slice d.ao d.ls.length d.c
structure DnS (w1 wr : World) (f : Nat → Nat) (M : Nat) (V : Nat → Vr) (vp sp : Nat → Nat) (n : Nat) (R : Nat → Rd) (rp : Nat → Nat) (vv rv wv sv : Value) (ws : List Int) (ss : List Bl) (dv : Value) (ds : List Dn) : Prop where
  mem : Mny w1 wr f M V vp sp n R rp vv rv wv sv n ws ss
  row : RowOn w1 wr f 5 tyCs 1 dv ds.length (ds.map Dn.val)
  each : ∀ d ∈ ds, Lone w1 wr f d.ls d.ao d.c d.vs ∧ ∃ j, j < n ∧ (R j).stage = 3 ∧ d.ls = (R j).log
/-- What the last loops read. -/
structure DnE (wD : World) (da : Option Addr) (d dc : Nat) (ds : List Dn) : Prop where
  len : ds.length = d
  room : d ≤ dc
  here : d = 0 ∨ ∃ g, da = some ⟨g, 0, none⟩ ∧ ∀ k, k < d → wD.cell? ⟨g, k, none⟩ = some (ds.getD k dn0).val
  each : ∀ k, k < d → InC wD (ds.getD k dn0).ao (ds.getD k dn0).ls.length (ds.getD k dn0).c (ds.getD k dn0).ls (ds.getD k dn0).vs ∧ (∀ x ∈ (ds.getD k dn0).ls, x.es.length ≤ 64) ∧ (ds.getD k dn0).ls.length ≤ 257
  cmp : ∀ k j, k < d → j < d → (ds.getD k dn0).ls <+: (ds.getD j dn0).ls ∨ (ds.getD j dn0).ls <+: (ds.getD k dn0).ls
theorem memD {ds : List Dn} {k : Nat} (h : k < ds.length) : ds.getD k dn0 ∈ ds := by
  rw [List.getD_eq_getElem?_getD, List.getElem?_eq_getElem h]
  exact List.getElem_mem _
theorem DnS.ends {w1 wr : World} {f : Nat → Nat} {M : Nat} {V : Nat → Vr} {vp sp : Nat → Nat} {n : Nat} {R : Nat → Rd} {rp : Nat → Nat} {vv rv wv sv : Value} {ws : List Int} {ss : List Bl} {da : Option Addr} {d dc : Nat} {ds : List Dn} (h : DnS w1 wr f M V vp sp n R rp vv rv wv sv ws ss (.slice da d dc) ds) (hI : Inv M V n R) (hd : ds.length = d) : DnE wr da d dc ds := by
  have ho : ∀ j, j < n → OkR (R j) := fun j hj => by
    obtain ⟨_, _, _, _, _, _, hX⟩ := h.mem.ron j hj
    exact hX.ok
  have hown := h.row.own
  rw [hd] at hown
  refine ⟨hd, ?_, ?_, fun k hk => ?_, fun k j hk hj => ?_⟩
  · rcases hown.2 with ⟨e, h0⟩ | ⟨g, cap, cur, e, _, _, h1, _⟩
    · omega
    · simp only [Value.slice.injEq] at e
      omega
  · rcases hown.2 with ⟨e, h0⟩ | ⟨g, cap, cur, e, _, hb, h1, h2, h3, h4⟩
    · exact .inl h0
    · simp only [Value.slice.injEq] at e
      refine .inr ⟨g, e.1, fun k hk => ?_⟩
      have hk2 : k < ds.length := by omega
      have hv : (ds.map Dn.val)[k]? = some (ds.getD k dn0).val := by
        rw [List.getElem?_map, List.getElem?_eq_getElem hk2, List.getD_eq_getElem?_getD, List.getElem?_eq_getElem hk2]
        rfl
      rw [cell_of_row wr g k _ _ _ hb, ← Array.getElem?_toList, ← hv, ← h4, List.getElem?_take, if_pos (by omega)]
  · obtain ⟨hl, j, hj, _, e⟩ := h.each _ (memD (ds := ds) (k := k) (by omega))
    exact ⟨hl.own.in (by rw [e]; exact (ho j hj).lty), by rw [e]; exact (ho j hj).es, by rw [e]; exact (ho j hj).few⟩
  · obtain ⟨_, i1, hi1, hs1, e1⟩ := h.each _ (memD (ds := ds) (k := k) (by omega))
    obtain ⟨_, i2, hi2, hs2, e2⟩ := h.each _ (memD (ds := ds) (k := j) (by omega))
    rw [e1, e2]
    exact hI.agree hi1 hi2 hs1 hs2
theorem DnE.below {wD w' : World} {da : Option Addr} {d dc : Nat} {ds : List Dn} (h : DnE wD da d dc ds) (hb : Below wD.heap.size wD w') : DnE w' da d dc ds :=
  ⟨h.len, h.room, h.here.imp id (fun ⟨g, e, hc⟩ => ⟨g, e, fun k hk => cell_later hb (hc k hk)⟩), fun k hk => ⟨(h.each k hk).1.below hb, (h.each k hk).2⟩, h.cmp⟩
theorem pre_take {a b : List Cm} (h : a <+: b ∨ b <+: a) : b.take (min a.length b.length) = a.take (min a.length b.length) := by
  rcases h with ⟨t, rfl⟩ | ⟨t, rfl⟩
  · have e : min a.length (a ++ t).length = a.length := by rw [List.length_append]; omega
    rw [e, List.take_left' rfl, List.take_length]
  · have e : min (b ++ t).length b.length = b.length := by rw [List.length_append]; omega
    rw [e, List.take_left' rfl, List.take_length]
set_option maxRecDepth 100000 in
set_option maxHeartbeats 32000000 in
theorem roundAgrees_t (z : Int) (hz : i64c z) (aa : Option Addr) (an ac : Nat) (aq : List AskV) (la : Option Addr) (ln lc : Nat) (lq : List Int) (w : World) (hA : InA w aa an ac aq) (hL : InI w la ln lc lq) :
    Calls Try.prog 10 #[.agg #[.int .i64 z, .slice aa an ac, .slice la ln lc]] w fun e w' => e = .returned (.bool true) ∧ Below w.heap.size w w' := by
  obtain ⟨w0, hw0⟩ : ∃ W, W = w.alloc (.cells #[.int .i64 z, .slice aa an ac, .slice la ln lc] tyMa) := ⟨_, rfl⟩
  have hb0 : Below w.heap.size w w0 := by rw [hw0]; exact bl_al (Below.refl _ _) _
  have hB : w0.heap[w.heap.size]? = some (.cells #[.int .i64 z, .slice aa an ac, .slice la ln lc] tyMa (0, 0)) := by rw [hw0]; exact heap_alloc_new w _
  obtain ⟨q, hq⟩ : ∃ q, q = w.heap.size := ⟨_, rfl⟩
  rw [← hq] at hB
  have HC0 : Hid (w0.cell? ⟨q, 0, none⟩ = some (.int .i64 z) ∧ w0.cell? ⟨q, 1, none⟩ = some (.slice aa an ac) ∧ w0.cell? ⟨q, 2, none⟩ = some (.slice la ln lc)) := Lib.hid ⟨by rw [cell_of_row w0 q 0 _ _ _ hB]; rfl, by rw [cell_of_row w0 q 1 _ _ _ hB]; rfl, by rw [cell_of_row w0 q 2 _ _ _ hB]; rfl⟩
  have HW := Lib.hid (And.intro hw0 hq)
  have HB := Lib.hid hb0
  have CA := Lib.hid (alive2_c w0)
  have HA0 := Lib.hid (hA.below hb0)
  have HL0 := Lib.hid (hL.below hb0)
  have haroom := hA.room
  have hlroom := hL.room
  have q0 := nilEl
  have q1 := nilNe
  clear hw0 hb0 hB hq hA hL
  go_enter Try.func10, Try.ntmps10
  go_upto_region 1 with fail
  rw [show w.alloc (.cells #[.int .i64 z, .slice aa an ac, .slice la ln lc] tyMa) = w0 from HW.out.1.symm, ← HW.out.2]
  go_wp2_with fail
  refine CA.out.mono ?_
  rintro e w1 ⟨rfl, hb1⟩
  have HBW := Lib.hid (bl_tr HB.out hb1)
  have HC : Hid (∀ wr, Below w1.heap.size w1 wr → wr.cell? ⟨q, 0, none⟩ = some (.int .i64 z) ∧ wr.cell? ⟨q, 1, none⟩ = some (.slice aa an ac) ∧ wr.cell? ⟨q, 2, none⟩ = some (.slice la ln lc)) := Lib.hid (fun wr h => ⟨cell_later h (cell_later hb1 HC0.out.1), cell_later h (cell_later hb1 HC0.out.2.1), cell_later h (cell_later hb1 HC0.out.2.2)⟩)
  have HA := Lib.hid (HA0.out.below hb1)
  have HL := Lib.hid (HL0.out.below hb1)
  clear hb1 CA HA0 HL0 HC0 HW HB
  obtain ⟨c0, c1, c2⟩ := HC.out w1 (Below.refl _ _)
  have HBR : Hid (∀ wr, Below w1.heap.size w1 wr → Below w.heap.size w wr) := Lib.hid (fun wr h => bl_tr HBW.out h)
  by_cases hlo : z < 1
  · go_wp2
    go_ret
    exact ⟨rfl, HBW.out⟩
  · by_cases hhi : z > 8
    · go_wp2
      go_ret
      exact ⟨rfl, HBW.out⟩
    · by_cases han : an > 24
      · have ga : (an : Int) > 24 := by omega
        go_wp2
        go_ret
        exact ⟨rfl, HBW.out⟩
      · have ga : ¬ (an : Int) > 24 := by omega
        obtain ⟨M, rfl⟩ : ∃ M : Nat, z = (M : Int) := ⟨z.toNat, by omega⟩
        have hM : 1 ≤ M ∧ M ≤ 8 := by omega
        have h1 : Hid (Mk w1 (w1.alloc (.cells #[] tyPV)) 0 (some ⟨w1.heap.size, 0, none⟩) 0) := Lib.hid (by
          have hr := RowOn.make (w1 := w1) (f := fun _ => 0) (x := 1) (Below.refl _ _) (own_lit0 w1 tyPV 1) (bl_al (Below.refl _ _) _)
          exact ⟨_, fun _ => vr0, fun _ => 0, fun _ => 0, ⟨hr.1.bel, fun k hk => by omega, fun j hj => by omega, hr.2, rowOn_nil _ _ _ _ _ _, rowOn_nil _ _ _ _ _ _, rowOn_nil _ _ _ _ _ _⟩, fun j hj => by omega⟩)
        obtain ⟨w2, hw2⟩ : ∃ W, W = w1.alloc (.cells #[] tyPV) := ⟨_, rfl⟩
        rw [← hw2] at h1
        have HW2 := Lib.hid hw2
        clear hw2
        go_upto_region 6 with fail
        rw [show w1.alloc (.cells #[] tyPV) = w2 from HW2.out.symm]
        clear c0 c1 c2 hlo hhi HW2
        go_wp2
        go_loopw [3, 4, 5, 6, 7] (fun vv iv _ _ _ wr => ∃ (k : Nat) (va : Option Addr) (vc : Nat), k ≤ M ∧ iv = .int .i64 k ∧ vv = .slice va k vc ∧ Hid (Mk w1 wr k va vc)) (fun _ iv _ _ _ _ => M - (intOf iv).toNat)
        case atStart => exact ⟨0, _, _, by omega, rfl, rfl, h1⟩
        case round =>
          obtain ⟨k, va, vc, hk, rfl, rfl, HS⟩ := hrel
          obtain ⟨w3, rfl⟩ : ∃ v, v = wr := ⟨_, rfl⟩
          clear h1
          have hbel3 : Below w1.heap.size w1 w3 := by obtain ⟨f, V, vp, sp, h, _⟩ := HS.out; exact h.bel
          obtain ⟨c0, c1, c2⟩ := HC.out w3 hbel3
          by_cases hkM : k < M
          · have kk : (k : Int) < (M : Int) := by omega
            have HB3 := Lib.hid hbel3
            have CN := Lib.hid (new_c 4194304 w3)
            clear hbel3
            go_wp2_with fail
            refine CN.out.mono ?_
            intro e w4 hO
            obtain ⟨s, rfl, hS, hk4⟩ := SOn.made (K := fun k => k < w3.heap.size) (by decide) HB3.out (fun k hk => hk) hO
            have hmg : IsMgr (16 + (k : Int)) := by unfold IsMgr; omega
            have CO := Lib.hid (open_c w1 w4 s 4194304 [] [] (16 + (k : Int)) (fun k => k < w3.heap.size) hS ⟨by omega, by omega⟩ (fun k r _ h => by cases h))
            have HK4 := Lib.hid hk4
            have hs0 : ((some (⟨s, 0, none⟩ : Addr)) == none) = false := rfl
            clear hO hS hk4 CN c0 c1 c2
            go_wp2_with fail
            refine CO.out.mono ?_
            intro e w5 hP
            obtain ⟨p, rfl, hV⟩ := hP.yes hmg bl0 bl0 [] rfl rfl
            have hp0 : ((some (⟨p, 0, none⟩ : Addr)) == none) = false := rfl
            obtain ⟨f3, V, vp, sp, hm3, hv3⟩ := HS.out
            have hST : Stp w1 f3 (10 + k) w3 w5 := ⟨hV.bel, fun i hi => (hP.kpt i hi.1).trans (HK4.out i hi.1), Nat.le_of_not_lt (fun h => Nat.lt_irrefl _ (hP.on.lt w5.heap.size h))⟩
            have HST := Lib.hid hST
            have HVN := Lib.hid hV
            have HM3 := Lib.hid hm3
            have HV3 := Lib.hid hv3
            clear hP hV hmg CO HK4 hST hm3 hv3 hs0
            obtain ⟨w6, hw6⟩ : ∃ W, W = w5.alloc (.cells #[.pointer (some ⟨p, 0, none⟩)] tyPV) := ⟨_, rfl⟩
            have hl6 : Below w5.heap.size w5 w6 := by rw [hw6]; exact bl_al (Below.refl _ _) _
            have hc6 : w6.cell? ⟨w5.heap.size, 0, none⟩ = some (.pointer (some ⟨p, 0, none⟩)) := by rw [hw6, cell_of_row _ _ 0 _ _ _ (heap_alloc_new w5 _)]; rfl
            have hr6 := (HM3.out.vrow.another HM3.out.bel HST.out (by omega)).another HST.out.bel (stp_new (y := 0) HST.out.bel hl6) (by omega)
            obtain ⟨i2, hi2, hzb0, hzb1, hzb2⟩ := info_parts infoPV
            have HL6 := Lib.hid hl6
            have HC6 : Hid (∀ ad, some (⟨w5.heap.size, 0, none⟩ : Addr) = some ad → ∀ j u, ([.pointer (some ⟨p, 0, none⟩)] : List Value)[j]? = some u → w6.cell? (ad.add j) = some u) := Lib.hid (fun ad e j u hu => by
              cases e
              match j, hu with
              | 0, hu => cases hu; exact hc6)
            have HR6 := Lib.hid hr6.own
            have HW6 := Lib.hid hw6
            have HBS6 : Hid (w1.heap.size ≤ w6.heap.size) := Lib.hid (by have := HST.out.bel.size; have := hl6.size; omega)
            clear hw6 hl6 hc6 hr6
            go_wp2_with (at_builtin; rw [show w5.alloc (.cells #[.pointer (some ⟨p, 0, none⟩)] tyPV) = w6 from HW6.out.symm]; refine append_at rfl (.tmp 79) (.tmp 81) 101 rfl w1.heap.size tyPV i2 (.pointer none) 1 8 Try.underlying101 hi2 hzb0 hzb1 hzb2 rfl (by decide) _ k (ptrs vp k) rfl HR6.out (some ⟨w5.heap.size, 0, none⟩) 1 1 [.pointer (some ⟨p, 0, none⟩)] rfl rfl (fun e => by cases e) HC6.out (by simp [Value.oneCell']) (by unfold maxLen; omega) (by omega) HBS6.out ?_)
            intro v7 w7 hown7 hg7 hvo7
            obtain ⟨a7, c7, rfl⟩ := own_form hown7
            have HF : Hid (Mk w1 w7 (k + 1) a7 c7) := Lib.hid ⟨_, _, _, _, HM3.out.addV (x := vr0) (by omega) HST.out HVN.out HL6.out hown7 hg7 hvo7, fun j hj => by
              by_cases e : j = k
              · rw [e, updN_self]
              · rw [updN_ne V _ e]
                exact HV3.out j (by omega)⟩
            clear hown7 hg7 hvo7 HM3 HST HVN HV3 HL6 HC6 HR6 HW6 HBS6 hzb0 hzb1 hzb2 hi2
            go_wp2
            go_roundw
            case rel => exact ⟨k + 1, a7, c7, by omega, by go_num, rfl, HF⟩
            case measure => simp [intOf]; omega
          · have kk : ¬ (k : Int) < (M : Int) := by omega
            obtain rfl : M = k := by omega
            obtain ⟨f3, V, vp, sp, hm3, hv3⟩ := HS.out
            have HM3 := Lib.hid hm3
            have HV3 := Lib.hid hv3
            clear hm3 hv3
            obtain ⟨w4, hw4⟩ : ∃ W, W = w3.alloc (.cells #[] tyPR) := ⟨_, rfl⟩
            obtain ⟨w5, hw5⟩ : ∃ W, W = w4.alloc (.cells #[] tyIn) := ⟨_, rfl⟩
            obtain ⟨w6, hw6⟩ : ∃ W, W = w5.alloc (.cells #[] tyB2) := ⟨_, rfl⟩
            have h6 := ((HM3.out.litR hM.2).litW hM.2).litS hM.2
            rw [← hw4, ← hw5, ← hw6] at h6
            have HLP : Hid (∃ f V R rp, Lp w1 w6 f M V vp sp 0 R rp (.slice va M vc) (.slice (some ⟨w3.heap.size, 0, none⟩) 0 0) (.slice (some ⟨w4.heap.size, 0, none⟩) 0 0) (.slice (some ⟨w5.heap.size, 0, none⟩) 0 0) []) := Lib.hid ⟨_, _, _, _, ⟨[], h6, inv_zero _ HV3.out, rfl, fun j hj => by omega, fun j hj => by omega⟩, rfl, fun b hb => by cases hb⟩
            have HW4 := Lib.hid hw4
            have HW5 := Lib.hid hw5
            have HW6 := Lib.hid hw6
            obtain ⟨c0, c1, c2⟩ := HC.out w6 h6.bel
            clear hw4 hw5 hw6 h6 HS
            go_upto_region 19 with fail
            rw [show w3.alloc (.cells #[] tyPR) = w4 from HW4.out.symm, show w4.alloc (.cells #[] tyIn) = w5 from HW5.out.symm, show w5.alloc (.cells #[] tyB2) = w6 from HW6.out.symm]
            have e4 : w4.heap.size = w3.heap.size + 1 := by rw [HW4.out]; simp
            have e5 : w5.heap.size = w3.heap.size + 1 + 1 := by rw [HW5.out, ← e4]; simp
            rw [e4, e5] at HLP
            clear HW4 HW5 HW6 HM3 HV3 kk e4 e5
            go_wp2
            clear c0 c1 c2
            go_loopw [8, 9, 10, 11, 12, 13, 14, 16, 17, 18, 19, 20, 21, 22, 23, 24, 89] (fun rv wv sv _ _ _ _ _ _ _ _ _ _ _ _ _ iv wr => ∃ (i n : Nat) (ra : Option Addr) (rc : Nat) (wa : Option Addr) (wc : Nat) (sa : Option Addr) (sc : Nat), i ≤ an ∧ n ≤ i ∧ iv = .int .i64 i ∧ rv = .slice ra n rc ∧ wv = .slice wa n wc ∧ sv = .slice sa n sc ∧ Hid (∃ f V R rp ss, Lp w1 wr f M V vp sp n R rp (.slice va M vc) (.slice ra n rc) (.slice wa n wc) (.slice sa n sc) ss)) (fun _ _ _ _ _ _ _ _ _ _ _ _ _ _ _ _ iv _ => an - (intOf iv).toNat)
            case atStart => exact ⟨0, 0, _, _, _, _, _, _, by omega, by omega, rfl, rfl, rfl, rfl, Lib.hid (by obtain ⟨f, V, R, rp, h⟩ := HLP.out; exact ⟨f, V, R, rp, [], h⟩)⟩
            case round =>
              obtain ⟨i, n, ra, rc, wa, wc, sa, sc, hi, hni, rfl, rfl, rfl, rfl, HS⟩ := hrel
              obtain ⟨w7, rfl⟩ : ∃ v, v = wr := ⟨_, rfl⟩
              clear HLP
              by_cases hin : i < an
              · have ii : (i : Int) < (an : Int) := by omega
                have i0 : (0 : Int) ≤ (i : Int) := by omega
                have ic : (i : Int) ≤ (ac : Int) := by omega
                obtain ⟨f, V, R, rp, ss, hL⟩ := HS.out
                obtain ⟨ws, hS⟩ := hL.acx
                have hbel := hS.mem.bel
                obtain ⟨ab, aoff, rfl, k0, k1, k2, k3⟩ := (HA.out.below hbel).at hin
                have hat := HA.out.typ i hin
                obtain ⟨o, ho⟩ : ∃ o, o = aq.getD i ask0 := ⟨_, rfl⟩
                rw [← ho] at k0 k1 k2 k3 hat
                obtain ⟨on, od, oh, og⟩ := o
                have HAT : Hid (i64c oh) := Lib.hid hat.hears
                have hnr : 0 ≤ IntKind.u64.wrap on % 50 ∧ IntKind.u64.wrap on % 50 < 50 := by omega
                obtain ⟨X, hX⟩ : ∃ X, X = IntKind.u64.wrap on := ⟨_, rfl⟩
                have hX0 : 0 ≤ X := by rw [hX, IntKind.wrap_u64]; omega
                have m0 : IntKind.u64.wrap on = X := hX.symm
                obtain ⟨bn, hbn⟩ : ∃ r : Int, r = X % 50 := ⟨_, rfl⟩
                have vr1 : X.tmod 50 = bn := by rw [Int.tmod_eq_emod_of_nonneg hX0]; exact hbn.symm
                have hbn0 : 0 ≤ bn ∧ bn < 50 := by omega
                have vr2 : IntKind.u64.wrap bn = bn := IntWalk.u64_in _ (by omega)
                have vr3 : IntKind.i64.wrap bn = bn := IntWalk.i64_in _ (by omega)
                have vr4 : IntKind.i64.wrap (1 + bn) = 1 + bn := IntWalk.i64_in _ (by omega)
                obtain ⟨Y, hY⟩ : ∃ X, X = IntKind.u64.wrap od := ⟨_, rfl⟩
                have hY0 : 0 ≤ Y := by rw [hY, IntKind.wrap_u64]; omega
                have m1 : IntKind.u64.wrap od = Y := hY.symm
                obtain ⟨bd, hbd⟩ : ∃ r : Int, r = Y % 8 := ⟨_, rfl⟩
                have vs1 : Y.tmod 8 = bd := by rw [Int.tmod_eq_emod_of_nonneg hY0]; exact hbd.symm
                have hbd0 : 0 ≤ bd ∧ bd < 8 := by omega
                have vs2 : IntKind.u64.wrap bd = bd := IntWalk.u64_in _ (by omega)
                have vs3 : IntKind.i64.wrap bd = bd := IntWalk.i64_in _ (by omega)
                have vs4 : IntKind.i64.wrap (16 + bd) = 16 + bd := IntWalk.i64_in _ (by omega)
                have HLL := Lib.hid hL
                have HSS := Lib.hid hS
                obtain ⟨w8, hw8⟩ : ∃ W, W = w7.alloc (.cells #[.int .i64 on, .int .i64 od, .int .i64 oh, .int .i64 og] tyAs) := ⟨_, rfl⟩
                obtain ⟨q8, hq8⟩ : ∃ q, q = w7.heap.size := ⟨_, rfl⟩
                have hb8 : Below w7.heap.size w7 w8 := by rw [hw8]; exact bl_al (Below.refl _ _) _
                have hA8 : w8.heap[q8]? = some (.cells #[.int .i64 on, .int .i64 od, .int .i64 oh, .int .i64 og] tyAs (0, 0)) := by rw [hw8, hq8]; exact heap_alloc_new w7 _
                have d0 : w8.cell? ⟨q8, 0, none⟩ = some (.int .i64 on) := by rw [cell_of_row w8 q8 0 _ _ _ hA8]; rfl
                have d1 : w8.cell? ⟨q8, 1, none⟩ = some (.int .i64 od) := by rw [cell_of_row w8 q8 1 _ _ _ hA8]; rfl
                have HD2 : Hid (w8.cell? ⟨q8, 2, none⟩ = some (.int .i64 oh)) := Lib.hid (by rw [cell_of_row w8 q8 2 _ _ _ hA8]; rfl)
                obtain ⟨w9, hw9⟩ : ∃ W, W = w8.alloc (.cells #[.int .i64 (1 + bn), .int .i64 (16 + bd)] tyB2) := ⟨_, rfl⟩
                obtain ⟨q9, hq9⟩ : ∃ q, q = w8.heap.size := ⟨_, rfl⟩
                obtain ⟨b, hb⟩ : ∃ b : Bl, b = ⟨1 + bn, 16 + bd⟩ := ⟨_, rfl⟩
                have hA9 := bxB_new w8 b
                rw [hb, show w8.alloc (Bl.obj ⟨1 + bn, 16 + bd⟩) = w9 from hw9.symm, ← hq9, ← hb] at hA9
                have hb9 : Below w8.heap.size w8 w9 := by rw [hw9]; exact bl_al (Below.refl _ _) _
                have HBT : Hid (TyB b ∧ LtB bl0 b ∧ IsMgr b.node) := Lib.hid (by rw [hb]; unfold TyB i64c LtB IsMgr bl0; simp only; omega)
                have HM9 := Lib.hid (HSS.out.mem.new (bl_tr hb8 hb9))
                have HD9 : Hid (w9.cell? ⟨q8, 2, none⟩ = some (.int .i64 oh)) := Lib.hid (cell_later hb9 HD2.out)
                have HA9 := Lib.hid hA9
                have HBX9 : Hid (Bxs w9 (upd f w7.heap.size 0) q8 q9 on od oh og b) := Lib.hid ⟨⟨(hb9.block q8 (lt_of_block hA8)).trans hA8, upd_new (by omega)⟩, ⟨hA9, upd_new (by rw [hq9]; exact hb8.size)⟩⟩
                have HW8 := Lib.hid (And.intro hw8 hq8)
                have HW9 := Lib.hid (And.intro hw9 hq9)
                have HBB := Lib.hid hb
                have hown := HSS.out.mem.srow.own
                rw [HLL.out.len] at hown
                have hss := own_inBl hown HLL.out.typ
                clear hown
                have HIS := Lib.hid (hss.below (bl_tr hb8 hb9))
                have hscn := hss.room
                clear hL hS hbel hat ho hX hY hbn hbd hw8 hq8 hb8 hA8 hw9 hq9 hb9 hb hA9 hss HD2
                go_upto_region 22 with fail
                rw [show w7.alloc (.cells #[.int .i64 on, .int .i64 od, .int .i64 oh, .int .i64 og] tyAs) = w8 from HW8.out.1.symm, ← HW8.out.2]
                clear k0 k1 k2 k3 HW8
                go_upto_region 23 with fail
                rw [show w8.alloc (.cells #[.int .i64 (1 + bn), .int .i64 (16 + bd)] tyB2) = w9 from HW9.out.1.symm, ← HW9.out.2]
                clear d0 d1 HW9 m0 m1 vr1 vr2 vr3 vr4 vs1 vs2 vs3 vs4 hX0 hY0 hnr
                go_wp2
                go_loopw [14, 16, 109] (fun fv _ jv wr => ∃ j : Nat, j ≤ n ∧ jv = .int .i64 j ∧ fv = .bool (decide (b ∉ ss.take j)) ∧ Hid (Below w9.heap.size w9 wr)) (fun _ _ jv _ => n - (intOf jv).toNat)
                case atStart => exact ⟨0, by omega, rfl, by simp, Lib.hid (Below.refl _ _)⟩
                case round =>
                  obtain ⟨j, hj, rfl, rfl, HJ⟩ := hrel
                  obtain ⟨w10, rfl⟩ : ∃ v, v = wr := ⟨_, rfl⟩
                  by_cases hjn : j < n
                  · have jj : (j : Int) < (n : Int) := by omega
                    have j0 : (0 : Int) ≤ (j : Int) := by omega
                    have jc : (j : Int) ≤ (sc : Int) := by omega
                    obtain ⟨sb, soff, rfl, hcs⟩ := (HIS.out.below HJ.out).at (by omega)
                    obtain ⟨e0, e1⟩ := hcs j hjn
                    obtain ⟨x, hx⟩ : ∃ x, x = ss.getD j bl0 := ⟨_, rfl⟩
                    rw [← hx] at e0 e1
                    have hkey : decide (b ∉ ss.take (j + 1)) = (decide (b ∉ ss.take j) && !decide (x = b)) := take_fresh (by rw [HLL.out.len]; exact hjn) hx
                    have HKEY := Lib.hid hkey
                    obtain ⟨w11, hw11⟩ : ∃ W, W = w10.alloc (.cells #[.int .i64 x.n, .int .i64 x.node] tyB2) := ⟨_, rfl⟩
                    obtain ⟨q11, hq11⟩ : ∃ q, q = w10.heap.size := ⟨_, rfl⟩
                    have hA11 := bxB_new w10 x
                    rw [show w10.alloc (Bl.obj x) = w11 from hw11.symm, ← hq11] at hA11
                    have hb11 : Below w10.heap.size w10 w11 := by rw [hw11]; exact bl_al (Below.refl _ _) _
                    have HJ2 := Lib.hid (bl_tr HJ.out hb11)
                    have hB11 := HA9.out.later HJ2.out
                    have HW11 := Lib.hid (And.intro hw11 hq11)
                    have HBX : Hid (BxB w11 q11 x ∧ BxB w11 q9 b) := Lib.hid ⟨hA11, hB11⟩
                    clear hcs hx hkey hw11 hq11 hA11 hb11 hB11
                    go_upto_region 27 with fail
                    rw [show w10.alloc (.cells #[.int .i64 x.n, .int .i64 x.node] tyB2) = w11 from HW11.out.1.symm, ← HW11.out.2]
                    clear e0 e1 HW11
                    obtain ⟨z0, z1⟩ := HBX.out.1.at
                    obtain ⟨z2, z3⟩ := HBX.out.2.at
                    have qn := fun W => bl_neq x b W
                    by_cases hfr : b ∉ ss.take j
                    · have dfr : decide (b ∉ ss.take j) = true := decide_eq_true hfr
                      rw [dfr]
                      go_wp2
                      go_roundw
                      case rel => exact ⟨j + 1, by omega, by go_num, by rw [HKEY.out, dfr]; rfl, HJ2⟩
                      case measure => simp [intOf]; omega
                    · have dfr : decide (b ∉ ss.take j) = false := decide_eq_false hfr
                      rw [dfr]
                      go_wp2
                      go_roundw
                      case rel => exact ⟨j + 1, by omega, by go_num, by rw [HKEY.out, dfr]; rfl, HJ2⟩
                      case measure => simp [intOf]; omega
                  · have jj : ¬ (j : Int) < (n : Int) := by omega
                    have hjE : j = n := by omega
                    rw [show ss.take j = ss from by rw [hjE, ← HLL.out.len, List.take_length]]
                    have HM10 := Lib.hid (HM9.out.new HJ.out)
                    by_cases hfr : b ∉ ss
                    · rw [decide_eq_true hfr]
                      have HFR := Lib.hid hfr
                      clear hfr
                      have HA10 := Lib.hid (HA9.out.later HJ.out)
                      have HD10 : Hid (w10.cell? ⟨q8, 2, none⟩ = some (.int .i64 oh)) := Lib.hid (cell_later HJ.out HD9.out)
                      obtain ⟨z0, z1⟩ := HA10.out.at
                      obtain ⟨w11, hw11⟩ : ∃ W, W = w10.alloc (.cells #[.int .i64 b.n, .int .i64 b.node] tyB2) := ⟨_, rfl⟩
                      have hl11 : Below w10.heap.size w10 w11 := by rw [hw11]; exact bl_al (Below.refl _ _) _
                      have hA11 := bxB_new w10 b
                      rw [show w10.alloc (Bl.obj b) = w11 from hw11.symm] at hA11
                      have hr11 := (HM10.out.srow.another HM10.out.bel (stp_new (y := 0) HM10.out.bel hl11) (by omega)).own
                      rw [HLL.out.len] at hr11
                      obtain ⟨i2, hi2, hzb0, hzb1, hzb2⟩ := info_parts infoB2
                      have HL11 := Lib.hid hl11
                      have HC11 : Hid (∀ ad, some (⟨w10.heap.size, 0, none⟩ : Addr) = some ad → ∀ j u, (b.cs)[j]? = some u → w11.cell? (ad.add j) = some u) := Lib.hid (fun ad e j u hu => by
                        cases e
                        obtain ⟨y0, y1⟩ := hA11.at
                        match j, hu with
                        | 0, hu => cases hu; exact y0
                        | 1, hu => cases hu; exact y1)
                      have HR11 := Lib.hid hr11
                      have HW11 := Lib.hid hw11
                      have HBS11 : Hid (w1.heap.size ≤ w11.heap.size) := Lib.hid (by have := HM10.out.bel.size; have := hl11.size; omega)
                      clear hw11 hl11 hA11 hr11
                      have hn24 : n ≤ 24 := by omega
                      go_upto_region 30 with fail
                      go_wp2_with (at_builtin; rw [show w10.alloc (.cells #[.int .i64 b.n, .int .i64 b.node] tyB2) = w11 from HW11.out.symm]; refine append_at rfl (.tmp 122) (.tmp 124) 64 rfl w1.heap.size tyB2 i2 (.agg #[.int .i64 0, .int .i64 0]) 2 16 Try.underlying64 hi2 hzb0 hzb1 hzb2 rfl (by decide) _ n (cellsB ss) rfl HR11.out (some ⟨w10.heap.size, 0, none⟩) 1 1 b.cs rfl rfl (fun e => by cases e) HC11.out (by simp [Bl.cs, Value.oneCell']) (by unfold maxLen; omega) (by omega) HBS11.out ?_)
                      intro v12 w12 hown12 hg12 hvo12
                      obtain ⟨a12, c12, rfl⟩ := own_form hown12
                      have hst12 := (HM10.out.srow.push HM10.out.bel HL11.out hown12 hg12 hvo12).1
                      have HM12 := Lib.hid (HM10.out.pushS (x := b) hM.2 HL11.out (by rw [HLL.out.len]; exact hown12) hg12 hvo12)
                      have HBX12 := Lib.hid ((HBX9.out.new HJ.out 0).another hst12 (by decide))
                      clear hown12 hg12 hvo12 hst12 hzb0 hzb1 hzb2 hi2 HL11 HC11 HR11 HW11 HBS11 HM10 HA10 HD10 z0 z1 HM9 HD9 HA9 HJ HIS
                      obtain ⟨c0, _, _⟩ := HC.out w12 HM12.out.bel
                      obtain ⟨_, z0, z1⟩ := HBX12.out.cells
                      have hit : IsTm (i : Int) := by unfold IsTm; omega
                      have hty : TyC (hl2 b.node i) := hl2_ty HBT.out.1.2 ⟨by omega, by omega⟩
                      have CH := Lib.hid (health2_c b.node i w12.drew)
                      have CN := Lib.hid (fun (wx : World) => newR_c M hM b HBT.out.1 [hl2 b.node i] _ _ 1 1 (wx.alloc ((hl2 b.node i).obj (.slice none 0 0))) (inC_boxR wx (hl2 b.node i) hty rfl) (by simp) (hl2_good HBT.out.2.2 hit))
                      have hS0 : w12.drew.cell? ⟨q, 0, none⟩ = some (.int .i64 M) ∧ w12.drew.cell? ⟨q9, 0, none⟩ = some (.int .i64 b.n) ∧ w12.drew.cell? ⟨q9, 1, none⟩ = some (.int .i64 b.node) := ⟨c0, z0, z1⟩
                      clear c0 z0 z1 hit hty
                      go_upto_region 31 with fail
                      go_region_held3 (fun wx => wx.cell? ⟨q, 0, none⟩ = some (.int .i64 M) ∧ wx.cell? ⟨q9, 0, none⟩ = some (.int .i64 b.n) ∧ wx.cell? ⟨q9, 1, none⟩ = some (.int .i64 b.node)) (first | (with_reducible exact hS0) | (with_reducible assumption) | (with_reducible exact hS2 _) | fail)
                        (first
                          | (go_at_call 48; (refine CH.out.mono ?_); rintro e wH ⟨rfl, hbH⟩; have hS1 := (show wH.cell? ⟨q, 0, none⟩ = some (.int .i64 M) ∧ wH.cell? ⟨q9, 0, none⟩ = some (.int .i64 b.n) ∧ wH.cell? ⟨q9, 1, none⟩ = some (.int .i64 b.node) from ⟨cell_later hbH hS0.1, cell_later hbH hS0.2.1, cell_later hbH hS0.2.2⟩); have hS2 := (show ∀ o : Obj, (wH.alloc o).cell? ⟨q, 0, none⟩ = some (.int .i64 M) ∧ (wH.alloc o).cell? ⟨q9, 0, none⟩ = some (.int .i64 b.n) ∧ (wH.alloc o).cell? ⟨q9, 1, none⟩ = some (.int .i64 b.node) from fun o => ⟨cell_later (bl_al (Below.refl wH.heap.size wH) o) hS1.1, cell_later (bl_al (Below.refl wH.heap.size wH) o) hS1.2.1, cell_later (bl_al (Below.refl wH.heap.size wH) o) hS1.2.2⟩))
                          | (go_at_call 47; (refine (CN.out wH).mono ?_); rintro e wN ⟨p, rfl, hRN, hbN⟩; have hS3 := (show wN.cell? ⟨q, 0, none⟩ = some (.int .i64 M) ∧ wN.cell? ⟨q9, 0, none⟩ = some (.int .i64 b.n) ∧ wN.cell? ⟨q9, 1, none⟩ = some (.int .i64 b.node) from ⟨cell_later hbN (hS2 _).1, cell_later hbN (hS2 _).2.1, cell_later hbN (hS2 _).2.2⟩))
                          | fail)
                      all_goals
                        clear hS0 hS1 hS2 hS3
                        obtain ⟨wA, hwA⟩ : ∃ W, W = wH.alloc ((hl2 b.node i).obj (.slice none 0 0)) := ⟨_, rfl⟩
                        have hbA : Below w12.heap.size w12 wA := by rw [hwA]; exact bl_tr (bl_tr (Below.refl w12.heap.size w12).drew hbH) (bl_al (Below.refl _ _) _)
                        rw [← hwA] at hRN hbN
                        obtain ⟨r0, hr0⟩ : ∃ r, r = newR M b [hl2 b.node i] := ⟨_, rfl⟩
                        rw [← hr0] at hRN
                        have hlt : wA.heap.size < wN.heap.size := by
                          obtain ⟨_, _, _, _, _, _, hX⟩ := hRN
                          have h1 := hX.base
                          have h2 := hX.ob.lt
                          omega
                        have h0 : Inv M V (n + 1) (updN R n r0) ∧ Asks M V n R r0 := by
                          refine ⟨HSS.out.inv.new (by rw [hr0]; rfl) (fun ht => ?_) (fun j hj e => ?_) (by rw [hr0]; exact HBT.out.2.1), asks_new _ _ _ _ _ (by rw [hr0]; rfl) (by rw [hr0]; rfl) (by rw [hr0]; rfl)⟩
                          · rw [hr0] at ht
                            rcases ht with h1 | h1
                            · exact absurd (show (1 : Int) = 2 from h1) (by decide)
                            · exact absurd (show (1 : Int) = 3 from h1) (by decide)
                          · rw [HSS.out.bal j hj, hr0] at e
                            have e2 : ss.getD j bl0 = b := e
                            exact HFR.out (e2 ▸ memBl (by rw [HLL.out.len]; exact hj))
                        have HCU : Hid (∃ f V r, Cu w1 wN f M V vp sp n R r (updN rp n p) (.slice va M vc) (.slice ra n rc) (.slice wa n wc) (.slice a12 (n + 1) c12) ws (ss ++ [b]) b ∧ Bxs wN f q8 q9 on od oh og b) := Lib.hid ⟨_, V, r0, ⟨(HM12.out.new hbA).addR hM.2 (Nat.le_refl n) hRN hbN, ⟨h0.1, fun _ => h0.2⟩, topN_new hlt (by omega), by rw [hr0]; rfl⟩, (HBX12.out.new hbA 0).new hbN (100 + n)⟩
                        have hp0 : ((some (⟨p, 0, none⟩ : Addr)) == none) = false := rfl
                        clear hwA hbA hRN hbN hr0 hlt h0 hbH CH CN HM12 HBX12 HBX9
                        go_wp2
                        go_loopw [19, 20, 21, 22, 23, 146] (fun _ _ _ _ _ kv wr => ∃ k : Nat, k ≤ M ∧ kv = .int .i64 k ∧ Hid (∃ f V r, Cu w1 wr f M V vp sp n R r (updN rp n p) (.slice va M vc) (.slice ra n rc) (.slice wa n wc) (.slice a12 (n + 1) c12) ws (ss ++ [b]) b ∧ Bxs wr f q8 q9 on od oh og b)) (fun _ _ _ _ _ kv _ => M - (intOf kv).toNat)
                        case atStart => exact ⟨0, by omega, rfl, HCU⟩
                        case round =>
                          obtain ⟨k, hk, rfl, HU⟩ := hrel
                          obtain ⟨w15, rfl⟩ : ∃ v, v = wr := ⟨_, rfl⟩
                          clear HCU
                          by_cases hkM : k < M
                          · have kk : (k : Int) < (M : Int) := by omega
                            have k0 : (0 : Int) ≤ (k : Int) := by omega
                            have ck : IntKind.u64.wrap (k : Int) = (k : Int) := IntWalk.u64_in _ (by omega)
                            obtain ⟨f5, V5, r5, hcu, hbx⟩ := HU.out
                            obtain ⟨vg, vcap, ev, hvc, cv⟩ := hcu.mem.vptr hkM
                            simp only [Value.slice.injEq] at ev
                            obtain ⟨rfl, _, rfl⟩ := ev
                            have kc : (k : Int) ≤ (vc : Int) := by omega
                            obtain ⟨x2, y0, y1⟩ := hbx.cells
                            have HC5 := Lib.hid hcu
                            have HX5 := Lib.hid hbx
                            have CP := Lib.hid (prepare_c w1 w15 (vp k) (sp k) 4194304 (V5 k).l (V5 k).l (V5 k).pr (V5 k).ac (V5 k).ls (16 + (k : Int)) _ b HBT.out.1 (hcu.mem.von k hkM))
                            clear hcu hbx hvc
                            go_upto_region 37 with fail
                            by_cases hbit : bits .and .i64 (oh / 2 ^ k) 1 = 1
                            · go_wp2_with fail
                              refine CP.out.mono ?_
                              intro e w16 hP
                              have htop : ∃ t, t + 1 = w15.heap.size ∧ f5 t ≠ 10 + k := by obtain ⟨t, h1, h2⟩ := HC5.out.top; exact ⟨t, h1, by omega⟩
                              clear CP cv x2 y0 y1 hbit
                              by_cases hN : prepN 4194304 b (V5 k).pr (V5 k).l = 0
                              · obtain ⟨aT, cT, vT, K2, rfl, hOT, hsub, hblk, hVn⟩ := hP.yes hN
                                have hs16 : Stp w1 f5 (10 + k) w15 w16 := stp_kpt hVn.bel hP.kpt htop
                                have hm16 := HC5.out.mem.voter hkM hM.2 hs16 (hVn.less hsub)
                                obtain ⟨w17, hw17⟩ : ∃ W, W = w16.alloc (.cells #[.int .i64 (V5 k).ac.n, .int .i64 (V5 k).ac.node] tyB2) := ⟨_, rfl⟩
                                obtain ⟨q17, hq17⟩ : ∃ q, q = w16.heap.size := ⟨_, rfl⟩
                                have hb17 : Below w16.heap.size w16 w17 := by rw [hw17]; exact bl_al (Below.refl _ _) _
                                have hA17 := bxB_new w16 (V5 k).ac
                                rw [show w16.alloc (Bl.obj (V5 k).ac) = w17 from hw17.symm, ← hq17] at hA17
                                have hlt17 : w16.heap.size < w17.heap.size := by rw [hw17]; simp
                                have hm17 := hm16.new hb17
                                have hcur := HC5.out.cur.prepare (k := k) (by rw [HC5.out.bal]; exact prepN_zero hN) (saveP 4194304 (prepP b) (V5 k).l).2
                                rw [HC5.out.bal] at hcur
                                have HBX17 := Lib.hid ((HX5.out.another hs16 (by omega)).new hb17 0)
                                obtain ⟨hty, hacc⟩ : (∀ x ∈ (V5 k).ls, TyC x) ∧ TyB (V5 k).ac ∧ (V5 k).ls.length ≤ 256 := by
                                  obtain ⟨ao, c, vs, hVX⟩ := HC5.out.mem.von k hkM
                                  exact ⟨hVX.log.typ, hVX.typ.2.1, hVX.few.1⟩
                                have hR17 := hm17.ron n (by omega)
                                rw [updN_self, updN_self] at hR17
                                obtain ⟨ra1, rc1, rv1, ra2, rc2, rv2, hX17⟩ := hR17
                                have CPR := Lib.hid (promiseR_c w1 w17 p r5 _ _ _ _ _ _ _ (16 + (k : Int)) (V5 k).ac hacc.1 (V5 k).ls vT aT _ cT hX17 ((hOT.later hb17).in hty) (fun x hx => by
                                  have hx2 := hOT.blk x hx
                                  refine ⟨by omega, ?_⟩
                                  rw [upd_old hx2.2, upd_new hx2.1]
                                  omega) (by omega))
                                have HM17 := Lib.hid hm17
                                have HCR := Lib.hid hcur
                                have HTP := Lib.hid (topN_new (f := upd f5 w15.heap.size (10 + k)) (y := 0) hlt17 (by omega))
                                have HW17 := Lib.hid (And.intro hw17 hq17)
                                obtain ⟨ac5, hac5⟩ : ∃ x, x = (V5 k).ac := ⟨_, rfl⟩
                                obtain ⟨ls5, hls5⟩ : ∃ x, x = (V5 k).ls := ⟨_, rfl⟩
                                rw [← hac5] at HW17 hA17 ⊢
                                obtain ⟨y0, y1⟩ := hA17.at
                                rw [← hac5, ← hls5] at CPR
                                rw [← hls5]
                                have HAL := Lib.hid (And.intro hac5 hls5)
                                clear hP hN hOT hsub hblk hVn hs16 hm16 hw17 hq17 hb17 hA17 hlt17 hm17 hcur hty hacc hX17 htop hac5 hls5
                                go_upto_region 39 with fail
                                rw [show w16.alloc (.cells #[.int .i64 ac5.n, .int .i64 ac5.node] tyB2) = w17 from HW17.out.1.symm, ← HW17.out.2]
                                go_wp2_with fail
                                refine CPR.out.mono ?_
                                intro e w18 hR
                                obtain rfl := hR.1
                                have hm18 := HM17.out.round (j := n) (by omega) hM.2 (by rw [updN_self]; exact hR)
                                rw [updN_updN] at hm18
                                have hcp := HCR.out.promise hkM (by rw [updN_self]; exact HC5.out.bal.symm)
                                rw [updN_self] at hcp
                                have hst : Stp w1 (upd (upd f5 w15.heap.size (10 + k)) w16.heap.size 0) (100 + n) w17 w18 := ⟨hR.2.1.bel, hR.2.2⟩
                                have HF : Hid (∃ f V r, Cu w1 w18 f M V vp sp n R r (updN rp n p) (.slice (some ⟨vg, 0, none⟩) M vc) (.slice ra n rc) (.slice wa n wc) (.slice a12 (n + 1) c12) ws (ss ++ [b]) b ∧ Bxs w18 f q8 q9 on od oh og b) := Lib.hid ⟨_, _, promR r5 (16 + (k : Int)) ac5 ls5, ⟨hm18, by rw [HAL.out.1, HAL.out.2]; exact hcp, topN_step HTP.out hR.2.2.2 (by omega), by rw [promR_b]; exact HC5.out.bal⟩, HBX17.out.another hst (by omega)⟩
                                clear hR hm18 hcp hst CPR HM17 HCR HTP HBX17 y0 y1
                                go_wp2
                                go_roundw
                                case rel => exact ⟨k + 1, by omega, by go_num, HF⟩
                                case measure => simp [intOf]; omega
                              · obtain ⟨rfl, hVn⟩ := hP.no hN
                                have hs16 : Stp w1 f5 (10 + k) w15 w16 := stp_kpt hVn.bel hP.kpt htop
                                have hm16 := HC5.out.mem.voter hkM hM.2 hs16 hVn
                                rw [show (⟨(V5 k).pr, (V5 k).ac, (V5 k).ls, (V5 k).l⟩ : Vr) = V5 k from rfl, updN_same] at hm16
                                obtain ⟨w17, hw17⟩ : ∃ W, W = w16.alloc (.cells #[.int .i64 bl0.n, .int .i64 bl0.node] tyB2) := ⟨_, rfl⟩
                                obtain ⟨q17, hq17⟩ : ∃ q, q = w16.heap.size := ⟨_, rfl⟩
                                have hb17 : Below w16.heap.size w16 w17 := by rw [hw17]; exact bl_al (Below.refl _ _) _
                                have hlt17 : w16.heap.size < w17.heap.size := by rw [hw17]; simp
                                have HF : Hid (∃ f V r, Cu w1 w17 f M V vp sp n R r (updN rp n p) (.slice (some ⟨vg, 0, none⟩) M vc) (.slice ra n rc) (.slice wa n wc) (.slice a12 (n + 1) c12) ws (ss ++ [b]) b ∧ Bxs w17 f q8 q9 on od oh og b) := Lib.hid ⟨_, V5, r5, ⟨hm16.new hb17, HC5.out.cur, topN_new hlt17 (by omega), HC5.out.bal⟩, (HX5.out.another hs16 (by omega)).new hb17 0⟩
                                obtain ⟨N, hNe⟩ : ∃ N, N = prepN 4194304 b (V5 k).pr (V5 k).l := ⟨_, rfl⟩
                                rw [← hNe] at hN ⊢
                                have q2 : ∀ W : World, (binOp .eql 28 (errnoF N) .nilIface).run Try.prog W = .ok (.bool false) W := fun W => by
                                  have := errF_eql N W
                                  rw [show errF N = errnoF N from if_neg hN, show (N == 0) = false by simp [hN]] at this
                                  exact this
                                rw [show errF N = errnoF N from if_neg hN]
                                have HW17 := Lib.hid (And.intro hw17 hq17)
                                clear hP hN hVn hs16 hm16 hw17 hq17 hb17 hlt17 htop hNe
                                go_upto_region 39 with fail
                                rw [show w16.alloc (.cells #[.int .i64 bl0.n, .int .i64 bl0.node] tyB2) = w17 from HW17.out.1.symm]
                                clear HW17
                                go_wp2
                                go_roundw
                                case rel => exact ⟨k + 1, by omega, by go_num, HF⟩
                                case measure => simp [intOf]; omega
                            · clear CP
                              go_wp2
                              go_roundw
                              case rel => exact ⟨k + 1, by omega, by go_num, HU⟩
                              case measure => simp [intOf]; omega
                          · have kk : ¬ (k : Int) < (M : Int) := by omega
                            obtain ⟨f5, V5, r5, hcu, hbx⟩ := HU.out
                            have HC5 := Lib.hid hcu
                            clear hcu hbx HU
                            obtain ⟨w16, hw16⟩ : ∃ W, W = w15.alloc (.cells #[.pointer (some ⟨p, 0, none⟩)] tyPR) := ⟨_, rfl⟩
                            have hl16 : Below w15.heap.size w15 w16 := by rw [hw16]; exact bl_al (Below.refl _ _) _
                            have hc16 : w16.cell? ⟨w15.heap.size, 0, none⟩ = some (.pointer (some ⟨p, 0, none⟩)) := by rw [hw16, cell_of_row _ _ 0 _ _ _ (heap_alloc_new w15 _)]; rfl
                            have hr16 := (HC5.out.mem.rrow.another HC5.out.mem.bel (stp_new (y := 0) HC5.out.mem.bel hl16) (by omega)).own
                            obtain ⟨i2, hi2, hzb0, hzb1, hzb2⟩ := info_parts infoPR
                            have HL16 := Lib.hid hl16
                            have HC16 : Hid (∀ ad, some (⟨w15.heap.size, 0, none⟩ : Addr) = some ad → ∀ j u, ([.pointer (some ⟨p, 0, none⟩)] : List Value)[j]? = some u → w16.cell? (ad.add j) = some u) := Lib.hid (fun ad e j u hu => by
                              cases e
                              match j, hu with
                              | 0, hu => cases hu; exact hc16)
                            have HR16 := Lib.hid hr16
                            have HW16 := Lib.hid hw16
                            have HBS16 : Hid (w1.heap.size ≤ w16.heap.size) := Lib.hid (by have := HC5.out.mem.bel.size; have := hl16.size; omega)
                            clear hw16 hl16 hc16 hr16
                            go_upto_region 42 with fail
                            go_wp2_with (at_builtin; rw [show w15.alloc (.cells #[.pointer (some ⟨p, 0, none⟩)] tyPR) = w16 from HW16.out.symm]; refine append_at rfl (.tmp 174) (.tmp 176) 104 rfl w1.heap.size tyPR i2 (.pointer none) 1 8 Try.underlying104 hi2 hzb0 hzb1 hzb2 rfl (by decide) _ n (ptrs (updN rp n p) n) rfl HR16.out (some ⟨w15.heap.size, 0, none⟩) 1 1 [.pointer (some ⟨p, 0, none⟩)] rfl rfl (fun e => by cases e) HC16.out (by simp [Value.oneCell']) (by unfold maxLen; omega) (by omega) HBS16.out ?_)
                            intro v17 w17 hown17 hg17 hvo17
                            obtain ⟨a17, c17, rfl⟩ := own_form hown17
                            have HM17 := Lib.hid (HC5.out.mem.pushR hM.2 HL16.out (by rw [updN_self]; exact hown17) hg17 hvo17)
                            clear hown17 hg17 hvo17 HL16 HC16 HR16 HW16 HBS16 hzb0 hzb1 hzb2 hi2
                            obtain ⟨i2, hi2, hzb0, hzb1, hzb2⟩ := info_parts infoIn
                            obtain ⟨c0, c1, c2⟩ := HC.out w17 HM17.out.bel
                            by_cases hil : i < ln
                            · have gl : (i : Int) < (ln : Int) := by omega
                              obtain ⟨lb, loff, rfl⟩ := in_blockI HL.out (by omega)
                              have hcl := in_cellI (HL.out.below HM17.out.bel) i hil
                              obtain ⟨lz, hlz⟩ : ∃ x, x = lq.getD i 0 := ⟨_, rfl⟩
                              rw [← hlz] at hcl
                              have lcc : (i : Int) ≤ (lc : Int) := by omega
                              obtain ⟨X, hX⟩ : ∃ X, X = IntKind.u64.wrap lz := ⟨_, rfl⟩
                              have hX0 : 0 ≤ X := by rw [hX, IntKind.wrap_u64]; omega
                              have m0 : IntKind.u64.wrap lz = X := hX.symm
                              obtain ⟨lt, hlt⟩ : ∃ r : Int, r = X % 4 := ⟨_, rfl⟩
                              have vr1 : X.tmod 4 = lt := by rw [Int.tmod_eq_emod_of_nonneg hX0]; exact hlt.symm
                              have hlt0 : 0 ≤ lt ∧ lt < 4 := by omega
                              have vr2 : IntKind.u64.wrap lt = lt := IntWalk.u64_in _ (by omega)
                              have vr3 : IntKind.i64.wrap lt = lt := IntWalk.i64_in _ (by omega)
                              clear hlz hX hlt
                              obtain ⟨w18, hw18⟩ : ∃ W, W = w17.alloc (.cells #[.int .i64 ((i : Int) + lt)] tyIn) := ⟨_, rfl⟩
                              have hl18 : Below w17.heap.size w17 w18 := by rw [hw18]; exact bl_al (Below.refl _ _) _
                              have hc18 : w18.cell? ⟨w17.heap.size, 0, none⟩ = some (.int .i64 ((i : Int) + lt)) := by rw [hw18, cell_of_row _ _ 0 _ _ _ (heap_alloc_new w17 _)]; rfl
                              have hr18 := (HM17.out.wrow.another HM17.out.bel (stp_new (y := 0) HM17.out.bel hl18) (by omega)).own
                              rw [HSS.out.len] at hr18
                              have HL18 := Lib.hid hl18
                              have HC18 : Hid (∀ ad, some (⟨w17.heap.size, 0, none⟩ : Addr) = some ad → ∀ j u, ([.int .i64 ((i : Int) + lt)] : List Value)[j]? = some u → w18.cell? (ad.add j) = some u) := Lib.hid (fun ad e j u hu => by
                                cases e
                                match j, hu with
                                | 0, hu => cases hu; exact hc18)
                              have HR18 := Lib.hid hr18
                              have HW18 := Lib.hid hw18
                              have HBS18 : Hid (w1.heap.size ≤ w18.heap.size) := Lib.hid (by have := HM17.out.bel.size; have := hl18.size; omega)
                              clear hw18 hl18 hc18 hr18
                              go_upto_region 46 with fail
                              go_wp2_with (at_builtin; rw [show w17.alloc (.cells #[.int .i64 ((i : Int) + lt)] tyIn) = w18 from HW18.out.symm]; refine append_at rfl (.tmp 191) (.tmp 195) 98 rfl w1.heap.size tyIn i2 (.int .i64 0) 1 8 Try.underlying98 hi2 hzb0 hzb1 hzb2 rfl (by decide) _ n (intsV ws) rfl HR18.out (some ⟨w17.heap.size, 0, none⟩) 1 1 [.int .i64 ((i : Int) + lt)] rfl rfl (fun e => by cases e) HC18.out (by simp [Value.oneCell']) (by unfold maxLen; omega) (by omega) HBS18.out ?_)
                              intro v19 w19 hown19 hg19 hvo19
                              obtain ⟨a19, c19, rfl⟩ := own_form hown19
                              have hm19 := HM17.out.pushW (x := ((i : Int) + lt)) hM.2 HL18.out (by rw [HSS.out.len]; exact hown19) hg19 hvo19
                              have HLEN : Hid ((ss ++ [b]).length = n + 1) := Lib.hid (by rw [List.length_append, HLL.out.len]; rfl)
                              have hacx : AcX w1 w19 M vp sp (n + 1) (updN rp n p) (.slice va M vc) (.slice a17 (n + 1) c17) (.slice a19 (n + 1) c19) (.slice a12 (n + 1) c12) (ss ++ [b]) none := ⟨_, V5, updN R n r5, ws ++ [((i : Int) + lt)], ⟨hm19, HC5.out.cur.inv, by rw [List.length_append, HSS.out.len]; rfl, fun j hj => by
                                by_cases e : j < n
                                · rw [List.getD_eq_getElem?_getD, List.getElem?_append_left (by rw [HSS.out.len]; exact e), ← List.getD_eq_getElem?_getD]
                                  exact HSS.out.typ j e
                                · rw [List.getD_eq_getElem?_getD, List.getElem?_append_right (by rw [HSS.out.len]; omega), show j - ws.length = 0 by rw [HSS.out.len]; omega]
                                  exact ⟨by show -9223372036854775808 ≤ ((i : Int) + lt); omega, by show ((i : Int) + lt) ≤ 9223372036854775807; omega⟩, fun j hj => by
                                by_cases e : j < n
                                · rw [updN_ne R _ (by omega), List.getD_eq_getElem?_getD, List.getElem?_append_left (by rw [HLL.out.len]; exact e), ← List.getD_eq_getElem?_getD]
                                  exact HSS.out.bal j e
                                · have e2 : j = n := by omega
                                  rw [e2, updN_self, List.getD_eq_getElem?_getD, List.getElem?_append_right (by rw [HLL.out.len]; omega), show n - ss.length = 0 by rw [HLL.out.len]; omega]
                                  exact HC5.out.bal⟩, fun j hj => by cases hj⟩
                              obtain ⟨c0', c1', c2'⟩ := HC.out w19 hm19.bel
                              have CAC := Lib.hid (accepts_c w1 w19 M vp sp (n + 1) (updN rp n p) _ _ _ _ (ss ++ [b]) hM.2 (by omega) hacx (i : Int) ⟨by omega, by omega⟩ aq _ an ac HA.out (by omega) (by omega))
                              clear hown19 hg19 hvo19 hm19 hacx HL18 HC18 HR18 HW18 HBS18 hzb0 hzb1 hzb2 hi2
                              go_wp2_with fail
                              refine CAC.out.mono ?_
                              rintro e w20 ⟨rfl, hX20⟩
                              have HE : Hid (∃ f V R rp ss, Lp w1 w20 f M V vp sp (n + 1) R rp (.slice va M vc) (.slice a17 (n + 1) c17) (.slice a19 (n + 1) c19) (.slice a12 (n + 1) c12) ss) := Lib.hid (by
                                obtain ⟨f, V, R, ws2, hS, _⟩ := hX20
                                exact ⟨f, V, R, _, _, ⟨ws2, hS⟩, HLEN.out, fun x hx => by
                                  rcases List.mem_append.1 hx with h1 | h1
                                  · exact HLL.out.typ x h1
                                  · rw [List.mem_singleton.1 h1]; exact HBT.out.1⟩)
                              clear hX20 CAC
                              go_wp2
                              go_roundw
                              case rel => exact ⟨i + 1, n + 1, a17, c17, a19, c19, a12, c12, by omega, by omega, by go_num, rfl, rfl, rfl, HE⟩
                              case measure => simp [intOf]; omega
                            · have gl : ¬ (i : Int) < (ln : Int) := by omega
                              obtain ⟨w18, hw18⟩ : ∃ W, W = w17.alloc (.cells #[.int .i64 (i : Int)] tyIn) := ⟨_, rfl⟩
                              have hl18 : Below w17.heap.size w17 w18 := by rw [hw18]; exact bl_al (Below.refl _ _) _
                              have hc18 : w18.cell? ⟨w17.heap.size, 0, none⟩ = some (.int .i64 (i : Int)) := by rw [hw18, cell_of_row _ _ 0 _ _ _ (heap_alloc_new w17 _)]; rfl
                              have hr18 := (HM17.out.wrow.another HM17.out.bel (stp_new (y := 0) HM17.out.bel hl18) (by omega)).own
                              rw [HSS.out.len] at hr18
                              have HL18 := Lib.hid hl18
                              have HC18 : Hid (∀ ad, some (⟨w17.heap.size, 0, none⟩ : Addr) = some ad → ∀ j u, ([.int .i64 (i : Int)] : List Value)[j]? = some u → w18.cell? (ad.add j) = some u) := Lib.hid (fun ad e j u hu => by
                                cases e
                                match j, hu with
                                | 0, hu => cases hu; exact hc18)
                              have HR18 := Lib.hid hr18
                              have HW18 := Lib.hid hw18
                              have HBS18 : Hid (w1.heap.size ≤ w18.heap.size) := Lib.hid (by have := HM17.out.bel.size; have := hl18.size; omega)
                              clear hw18 hl18 hc18 hr18
                              go_upto_region 46 with fail
                              go_wp2_with (at_builtin; rw [show w17.alloc (.cells #[.int .i64 (i : Int)] tyIn) = w18 from HW18.out.symm]; refine append_at rfl (.tmp 191) (.tmp 195) 98 rfl w1.heap.size tyIn i2 (.int .i64 0) 1 8 Try.underlying98 hi2 hzb0 hzb1 hzb2 rfl (by decide) _ n (intsV ws) rfl HR18.out (some ⟨w17.heap.size, 0, none⟩) 1 1 [.int .i64 (i : Int)] rfl rfl (fun e => by cases e) HC18.out (by simp [Value.oneCell']) (by unfold maxLen; omega) (by omega) HBS18.out ?_)
                              intro v19 w19 hown19 hg19 hvo19
                              obtain ⟨a19, c19, rfl⟩ := own_form hown19
                              have hm19 := HM17.out.pushW (x := (i : Int)) hM.2 HL18.out (by rw [HSS.out.len]; exact hown19) hg19 hvo19
                              have HLEN : Hid ((ss ++ [b]).length = n + 1) := Lib.hid (by rw [List.length_append, HLL.out.len]; rfl)
                              have hacx : AcX w1 w19 M vp sp (n + 1) (updN rp n p) (.slice va M vc) (.slice a17 (n + 1) c17) (.slice a19 (n + 1) c19) (.slice a12 (n + 1) c12) (ss ++ [b]) none := ⟨_, V5, updN R n r5, ws ++ [(i : Int)], ⟨hm19, HC5.out.cur.inv, by rw [List.length_append, HSS.out.len]; rfl, fun j hj => by
                                by_cases e : j < n
                                · rw [List.getD_eq_getElem?_getD, List.getElem?_append_left (by rw [HSS.out.len]; exact e), ← List.getD_eq_getElem?_getD]
                                  exact HSS.out.typ j e
                                · rw [List.getD_eq_getElem?_getD, List.getElem?_append_right (by rw [HSS.out.len]; omega), show j - ws.length = 0 by rw [HSS.out.len]; omega]
                                  exact ⟨by show -9223372036854775808 ≤ (i : Int); omega, by show (i : Int) ≤ 9223372036854775807; omega⟩, fun j hj => by
                                by_cases e : j < n
                                · rw [updN_ne R _ (by omega), List.getD_eq_getElem?_getD, List.getElem?_append_left (by rw [HLL.out.len]; exact e), ← List.getD_eq_getElem?_getD]
                                  exact HSS.out.bal j e
                                · have e2 : j = n := by omega
                                  rw [e2, updN_self, List.getD_eq_getElem?_getD, List.getElem?_append_right (by rw [HLL.out.len]; omega), show n - ss.length = 0 by rw [HLL.out.len]; omega]
                                  exact HC5.out.bal⟩, fun j hj => by cases hj⟩
                              obtain ⟨c0', c1', c2'⟩ := HC.out w19 hm19.bel
                              have CAC := Lib.hid (accepts_c w1 w19 M vp sp (n + 1) (updN rp n p) _ _ _ _ (ss ++ [b]) hM.2 (by omega) hacx (i : Int) ⟨by omega, by omega⟩ aq _ an ac HA.out (by omega) (by omega))
                              clear hown19 hg19 hvo19 hm19 hacx HL18 HC18 HR18 HW18 HBS18 hzb0 hzb1 hzb2 hi2
                              go_wp2_with fail
                              refine CAC.out.mono ?_
                              rintro e w20 ⟨rfl, hX20⟩
                              have HE : Hid (∃ f V R rp ss, Lp w1 w20 f M V vp sp (n + 1) R rp (.slice va M vc) (.slice a17 (n + 1) c17) (.slice a19 (n + 1) c19) (.slice a12 (n + 1) c12) ss) := Lib.hid (by
                                obtain ⟨f, V, R, ws2, hS, _⟩ := hX20
                                exact ⟨f, V, R, _, _, ⟨ws2, hS⟩, HLEN.out, fun x hx => by
                                  rcases List.mem_append.1 hx with h1 | h1
                                  · exact HLL.out.typ x h1
                                  · rw [List.mem_singleton.1 h1]; exact HBT.out.1⟩)
                              clear hX20 CAC
                              go_wp2
                              go_roundw
                              case rel => exact ⟨i + 1, n + 1, a17, c17, a19, c19, a12, c12, by omega, by omega, by go_num, rfl, rfl, rfl, HE⟩
                              case measure => simp [intOf]; omega
                    · rw [decide_eq_false hfr]
                      have HE : Hid (∃ f V R rp ss, Lp w1 w10 f M V vp sp n R rp (.slice va M vc) (.slice ra n rc) (.slice wa n wc) (.slice sa n sc) ss) := Lib.hid ⟨_, _, _, _, ss, ⟨ws, HM10.out, HSS.out.inv, HSS.out.len, HSS.out.typ, HSS.out.bal⟩, HLL.out.len, HLL.out.typ⟩
                      clear HM10 HJ HM9
                      go_wp2
                      go_roundw
                      case rel => exact ⟨i + 1, n, ra, rc, wa, wc, sa, sc, by omega, by omega, by go_num, rfl, rfl, rfl, HE⟩
                      case measure => simp [intOf]; omega
              · have ii : ¬ (i : Int) < (an : Int) := by omega
                obtain ⟨f, V, R, rp, ss, hL⟩ := HS.out
                obtain ⟨ws, hS⟩ := hL.acx
                obtain ⟨c0, c1, c2⟩ := HC.out w7 hS.mem.bel
                have CAC := Lib.hid (accepts_c w1 w7 M vp sp n rp _ _ _ _ ss hM.2 (by omega) ⟨f, V, R, ws, hS, fun j hj => by cases hj⟩ 100 ⟨by decide, by decide⟩ aq _ an ac HA.out (by omega) (by omega))
                clear hL hS HS
                go_wp2_with fail
                refine CAC.out.mono ?_
                rintro e w8 ⟨rfl, f8, V8, R8, ws8, hS8, _⟩
                obtain ⟨w9, hw9⟩ : ∃ W, W = w8.alloc (.cells #[] tyCs) := ⟨_, rfl⟩
                have HIV := Lib.hid hS8.inv
                have HD0 : Hid (∃ f, DnS w1 w9 f M V8 vp sp n R8 rp (.slice va M vc) (.slice ra n rc) (.slice wa n wc) (.slice sa n sc) ws8 ss (.slice (some ⟨w8.heap.size, 0, none⟩) 0 0) []) := Lib.hid (by
                  have hr := RowOn.make (f := f8) (x := 5) hS8.mem.bel (own_lit0 w8 tyCs 1) (bl_al (Below.refl _ _) _)
                  rw [← hw9] at hr
                  exact ⟨_, hS8.mem.step5 hr.1, hr.2, fun d hd => by cases hd⟩)
                have HW9 := Lib.hid hw9
                clear hS8 hw9 CAC c0 c1 c2
                go_upto_region 51 with fail
                rw [show w8.alloc (.cells #[] tyCs) = w9 from HW9.out.symm]
                clear HW9
                go_wp2
                go_loopw [25, 27, 214] (fun dv _ jv wr => ∃ (j : Nat) (da : Option Addr) (dc : Nat) (ds : List Dn), j ≤ n ∧ jv = .int .i64 j ∧ dv = .slice da ds.length dc ∧ ds.length ≤ j ∧ Hid (∃ f, DnS w1 wr f M V8 vp sp n R8 rp (.slice va M vc) (.slice ra n rc) (.slice wa n wc) (.slice sa n sc) ws8 ss (.slice da ds.length dc) ds)) (fun _ _ jv _ => n - (intOf jv).toNat)
                case atStart => exact ⟨0, _, _, [], by omega, rfl, rfl, by simp, HD0⟩
                case round =>
                  obtain ⟨j, da, dc, ds, hj, rfl, rfl, hdj, HD⟩ := hrel
                  obtain ⟨w10, rfl⟩ : ∃ v, v = wr := ⟨_, rfl⟩
                  clear HD0
                  by_cases hjn : j < n
                  · have jj : (j : Int) < (n : Int) := by omega
                    have j0 : (0 : Int) ≤ (j : Int) := by omega
                    obtain ⟨f9, hD⟩ := HD.out
                    obtain ⟨rg, rcap, er, hrc, cr⟩ := hD.mem.rptr hjn
                    simp only [Value.slice.injEq] at er
                    obtain ⟨rfl, _, rfl⟩ := er
                    have jc : (j : Int) ≤ (rc : Int) := by omega
                    obtain ⟨ra1, rc1, rv1, ra2, rc2, rv2, hX⟩ := hD.mem.ron j hjn
                    have CST := Lib.hid (stage_c w10 (rp j) (R8 j) _ _ hX.ob hX.ok)
                    obtain ⟨st, hst⟩ : ∃ z, z = (R8 j).stage := ⟨_, rfl⟩
                    rw [← hst] at CST
                    have HST := Lib.hid hst
                    have HDD := Lib.hid hD
                    clear hX hst hD
                    go_wp2_with fail
                    refine CST.out.mono ?_
                    rintro e w11 ⟨rfl, hb11⟩
                    have HB11 := Lib.hid hb11
                    clear hb11 CST cr
                    by_cases h3 : st = 3
                    · obtain ⟨ra1, rc1, rv1, ra2, rc2, rv2, hX⟩ := (HDD.out.mem.new HB11.out).ron j hjn
                      have CL := Lib.hid (log_cR w11 hX)
                      have HS3 : Hid ((R8 j).stage = 3) := Lib.hid (HST.out.symm.trans h3)
                      have HOK := Lib.hid hX.ok
                      subst h3
                      clear hX HST
                      go_wp2_with fail
                      refine CL.out.mono ?_
                      intro e w12 hLg
                      obtain ⟨⟨a7, c7, v7, rfl, hO7⟩, _⟩ := hLg.1 (.inr HS3.out)
                      have hb12 := bl_tr HB11.out hLg.2.2
                      have hm12 := HDD.out.mem.new hb12
                      have hrow12 := HDD.out.row.another HDD.out.mem.bel (stp_new (y := 0) HDD.out.mem.bel hb12) (by omega)
                      have hlone : Lone w1 w12 (upd f9 w10.heap.size 0) (R8 j).log a7 c7 v7 := ⟨hO7.base (by have := HDD.out.mem.bel.size; have := HB11.out.size; omega), fun k hk => upd_new (by have := (hO7.blk k hk).1; have := HB11.out.size; omega)⟩
                      have heach : ∀ d ∈ ds, Lone w1 w12 (upd f9 w10.heap.size 0) d.ls d.ao d.c d.vs ∧ ∃ j, j < n ∧ (R8 j).stage = 3 ∧ d.ls = (R8 j).log := fun d hd => ⟨(HDD.out.each d hd).1.beside hb12 0, (HDD.out.each d hd).2⟩
                      obtain ⟨lL, hlL⟩ : ∃ x, x = (R8 j).log.length := ⟨_, rfl⟩
                      rw [← hlL]
                      obtain ⟨w13, hw13⟩ : ∃ W, W = w12.alloc (.cells #[.slice a7 lL c7] tyCs) := ⟨_, rfl⟩
                      have hl13 : Below w12.heap.size w12 w13 := by rw [hw13]; exact bl_al (Below.refl _ _) _
                      have hc13 : w13.cell? ⟨w12.heap.size, 0, none⟩ = some (.slice a7 lL c7) := by rw [hw13, cell_of_row _ _ 0 _ _ _ (heap_alloc_new w12 _)]; rfl
                      have hr13 := (hrow12.another hm12.bel (stp_new (y := 0) hm12.bel hl13) (by omega)).own
                      obtain ⟨i2, hi2, hzb0, hzb1, hzb2⟩ := info_parts infoCs
                      have HL13 := Lib.hid hl13
                      have HC13 : Hid (∀ ad, some (⟨w12.heap.size, 0, none⟩ : Addr) = some ad → ∀ j u, ([.slice a7 lL c7] : List Value)[j]? = some u → w13.cell? (ad.add j) = some u) := Lib.hid (fun ad e j u hu => by
                        cases e
                        match j, hu with
                        | 0, hu => cases hu; exact hc13)
                      have HR13 := Lib.hid hr13
                      have HW13 := Lib.hid hw13
                      have HBS13 : Hid (w1.heap.size ≤ w13.heap.size) := Lib.hid (by have := hm12.bel.size; have := hl13.size; omega)
                      have HM12 := Lib.hid hm12
                      have HROW := Lib.hid hrow12
                      have HLO := Lib.hid (And.intro hlone heach)
                      have HLL2 := Lib.hid hlL
                      obtain ⟨d, hd⟩ : ∃ d, d = ds.length := ⟨_, rfl⟩
                      have HDL := Lib.hid hd
                      rw [← hd] at HR13 hdj HROW ⊢
                      clear hLg hO7 hb12 hm12 hrow12 hlone heach hw13 hl13 hc13 hr13 CL hlL hd
                      go_wp2_with (at_builtin; rw [show w12.alloc (.cells #[.slice a7 lL c7] tyCs) = w13 from HW13.out.symm]; refine append_at rfl (.tmp 221) (.tmp 224) 114 rfl w1.heap.size tyCs i2 (.slice none 0 0) 1 24 Try.underlying114 hi2 hzb0 hzb1 hzb2 rfl (by decide) _ d (ds.map Dn.val) rfl HR13.out (some ⟨w12.heap.size, 0, none⟩) 1 1 [.slice a7 lL c7] rfl rfl (fun e => by cases e) HC13.out (by simp [Value.oneCell']) (by unfold maxLen; omega) (by omega) HBS13.out ?_)
                      intro v14 w14 hown14 hg14 hvo14
                      obtain ⟨a14, c14, rfl⟩ := own_form hown14
                      have hp := HROW.out.push HM12.out.bel HL13.out hown14 hg14 hvo14
                      have hlen : (ds ++ [(⟨(R8 j).log, a7, c7, v7⟩ : Dn)]).length = d + 1 := by rw [List.length_append, HDL.out]; rfl
                      have hmap : (ds ++ [(⟨(R8 j).log, a7, c7, v7⟩ : Dn)]).map Dn.val = ds.map Dn.val ++ [.slice a7 lL c7] := by rw [List.map_append, HLL2.out]; rfl
                      have HF : Hid (∃ f, DnS w1 w14 f M V8 vp sp n R8 rp (.slice va M vc) (.slice (some ⟨rg, 0, none⟩) n rc) (.slice wa n wc) (.slice sa n sc) ws8 ss (.slice a14 (ds ++ [(⟨(R8 j).log, a7, c7, v7⟩ : Dn)]).length c14) (ds ++ [⟨(R8 j).log, a7, c7, v7⟩])) := Lib.hid ⟨_, HM12.out.step5 hp.1, by rw [hlen, hmap]; exact hp.2, fun x hx => by
                        rcases List.mem_append.1 hx with h1 | h1
                        · exact ⟨(HLO.out.2 x h1).1.another HM12.out.bel hp.1.bel hp.1.kpz (by omega), (HLO.out.2 x h1).2⟩
                        · rw [List.mem_singleton.1 h1]
                          exact ⟨HLO.out.1.another HM12.out.bel hp.1.bel hp.1.kpz (by omega), j, hjn, HS3.out, rfl⟩⟩
                      rw [← hlen]
                      have hle : (ds ++ [(⟨(R8 j).log, a7, c7, v7⟩ : Dn)]).length ≤ j + 1 := by rw [hlen]; omega
                      clear hown14 hg14 hvo14 hp hmap HM12 HROW HLO HL13 HC13 HR13 HW13 HBS13 hzb0 hzb1 hzb2 hi2
                      go_wp2
                      go_roundw
                      case rel => exact ⟨j + 1, a14, c14, ds ++ [⟨(R8 j).log, a7, c7, v7⟩], by omega, by go_num, by rw [hlen], hle, HF⟩
                      case measure => simp [intOf]; omega
                    · have HE : Hid (∃ f, DnS w1 w11 f M V8 vp sp n R8 rp (.slice va M vc) (.slice (some ⟨rg, 0, none⟩) n rc) (.slice wa n wc) (.slice sa n sc) ws8 ss (.slice da ds.length dc) ds) := Lib.hid ⟨_, HDD.out.mem.new HB11.out, HDD.out.row.another HDD.out.mem.bel (stp_new (y := 0) HDD.out.mem.bel HB11.out) (by omega), fun d hd => ⟨(HDD.out.each d hd).1.beside HB11.out 0, (HDD.out.each d hd).2⟩⟩
                      have g3 : ¬ st = 3 := h3
                      go_wp2
                      go_roundw
                      case rel => exact ⟨j + 1, da, dc, ds, by omega, by go_num, rfl, by omega, HE⟩
                      case measure => simp [intOf]; omega
                  · have jj : ¬ (j : Int) < (n : Int) := by omega
                    obtain ⟨d, hd⟩ : ∃ d, d = ds.length := ⟨_, rfl⟩
                    rw [← hd] at HD hdj ⊢
                    have HDE : Hid (DnE w10 da d dc ds ∧ Below w1.heap.size w1 w10) := Lib.hid (by
                      obtain ⟨f, hD⟩ := HD.out
                      exact ⟨hD.ends HIV.out hd.symm, hD.mem.bel⟩)
                    have hdc := HDE.out.1.room
                    clear HD hd HIV
                    go_wp2
                    go_loopw [28, 29, 31, 32, 229] (fun _ _ _ _ iv wr => ∃ i : Nat, i ≤ d ∧ iv = .int .i64 i ∧ Hid (Below w10.heap.size w10 wr)) (fun _ _ _ _ iv _ => d - (intOf iv).toNat)
                    case atStart => exact ⟨0, by omega, rfl, Lib.hid (Below.refl _ _)⟩
                    case round =>
                      obtain ⟨i6, hi6, rfl, HJ⟩ := hrel
                      obtain ⟨w11, rfl⟩ : ∃ v, v = wr := ⟨_, rfl⟩
                      by_cases hid : i6 < d
                      · have ji : (i6 : Int) < (d : Int) := by omega
                        have j0 : (0 : Int) ≤ (i6 : Int) := by omega
                        have jc : (i6 : Int) ≤ (dc : Int) := by omega
                        obtain ⟨g, rfl, hcs⟩ := (HDE.out.1.below HJ.out).here.resolve_left (by omega)
                        have ca := hcs i6 hid
                        obtain ⟨A, hA⟩ : ∃ x, x = ds.getD i6 dn0 := ⟨_, rfl⟩
                        rw [← hA] at ca
                        have HAE := Lib.hid hA
                        unfold Dn.val at ca
                        obtain ⟨nA, hnA⟩ : ∃ x, x = A.ls.length := ⟨_, rfl⟩
                        have HNA := Lib.hid hnA
                        rw [← hnA] at ca
                        clear hcs hA hnA
                        go_wp2
                        clear ca
                        go_loopw [31, 32, 238] (fun _ _ kv wr => ∃ k : Nat, k ≤ i6 ∧ kv = .int .i64 k ∧ Hid (Below w10.heap.size w10 wr)) (fun _ _ kv _ => i6 - (intOf kv).toNat)
                        case atStart => exact ⟨0, by omega, rfl, HJ⟩
                        case round =>
                          obtain ⟨k, hk, rfl, HK⟩ := hrel
                          obtain ⟨w12, rfl⟩ : ∃ v, v = wr := ⟨_, rfl⟩
                          clear HJ
                          by_cases hki : k < i6
                          · have kk : (k : Int) < (i6 : Int) := by omega
                            have k0 : (0 : Int) ≤ (k : Int) := by omega
                            have kc : (k : Int) ≤ (dc : Int) := by omega
                            have hDE := HDE.out.1.below HK.out
                            obtain ⟨g2, eg, hcs⟩ := hDE.here.resolve_left (by omega)
                            obtain rfl : g = g2 := by simpa using eg
                            have cb := hcs k (by omega)
                            obtain ⟨B, hB⟩ : ∃ x, x = ds.getD k dn0 := ⟨_, rfl⟩
                            rw [← hB] at cb
                            unfold Dn.val at cb
                            have hAI := hDE.each i6 hid
                            have hBI := hDE.each k (by omega)
                            have hcmp := hDE.cmp i6 k hid (by omega)
                            rw [← HAE.out] at hAI hcmp
                            rw [← hB] at hBI hcmp
                            obtain ⟨m, hm⟩ : ∃ m, m = min A.ls.length B.ls.length := ⟨_, rfl⟩
                            have hmA : m ≤ A.ls.length := by omega
                            have hmB : m ≤ B.ls.length := by omega
                            have hI1 := hAI.1.cut hmA
                            have hI2 := hBI.1.cut hmB
                            have e2 : B.ls.take m = A.ls.take m := by rw [hm]; exact pre_take hcmp
                            rw [e2] at hI2
                            have hrA : m ≤ A.c := Nat.le_trans hmA hAI.1.room
                            have hrB : m ≤ B.c := Nat.le_trans hmB hBI.1.room
                            have CS := Lib.hid (sameR_c (A.ls.take m) (A.vs.take m) (B.vs.take m) A.ao B.ao m A.c B.c w12.drew (hI1.below (Below.refl _ _).drew) (hI2.below (Below.refl _ _).drew) (by have := hAI.2.2; omega) (fun x hx => Nat.le_trans (hAI.2.1 x (List.mem_of_mem_take hx)) (by decide)))
                            obtain ⟨nB, hnB⟩ : ∃ x, x = B.ls.length := ⟨_, rfl⟩
                            rw [← hnB] at cb
                            have hmin : min (nA : Int) (nB : Int) = (m : Int) := by rw [HNA.out, hnB, hm]; omega
                            have m0 : (0 : Int) ≤ (m : Int) := by omega
                            have mA : (m : Int) ≤ (A.c : Int) := by omega
                            have mB : (m : Int) ≤ (B.c : Int) := by omega
                            have hB0 := hBI.1.none
                            have hA0 := hAI.1.none
                            clear hDE hcs hB hAI hBI hcmp hm hmA hmB hI1 hI2 e2 hnB hrA hrB eg
                            go_upto_region 64 with fail
                            try rw [hmin]
                            go_region_held3 (fun wx => True) (first | (with_reducible exact True.intro) | fail)
                              (first
                                | (go_at_call 21; (refine CS.out.mono ?_); rintro e wS ⟨rfl, hbS⟩)
                                | fail)
                            all_goals
                              have HK2 := Lib.hid (bl_tr (bl_tr HK.out (Below.refl w12.heap.size w12).drew) hbS)
                              clear hbS CS
                              go_wp2
                              go_roundw
                              case rel => exact ⟨k + 1, by omega, by go_num, HK2⟩
                              case measure => simp [intOf]; omega
                          · have kk : ¬ (k : Int) < (i6 : Int) := by omega
                            go_wp2
                            go_roundw
                            case rel => exact ⟨i6 + 1, by omega, by go_num, HK⟩
                            case measure => simp [intOf]; omega
                      · have ji : ¬ (i6 : Int) < (d : Int) := by omega
                        have HF := Lib.hid (HBR.out w11 (bl_tr HDE.out.2 HJ.out))
                        go_wp2
                        go_ret
                        exact ⟨rfl, HF.out⟩
end Go.Proofs.Ytnhnpfhfcbmmlaa
