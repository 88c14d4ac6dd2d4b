/- maps.Values over the table's map; slices.AppendSeq and slices.Collect of it. Conditions: at most 2^20 entries. slices.AppendSeq and slices.Collect of the map's values. Conditions: at most 2^20 entries. The program's table: All. Conditions: as each states. -/
import Derived.Test.YtpbgccidhpfmgaaFmY
import Derived.RangeFuncNested
import Derived.RangeFuncBound
import Derived.RangeFuncCalls
import Derived.RangeFuncLeaves
import Derived.RangeFuncBox
import Derived.Shelf.Abstract
import Derived.Shelf.RegionOpen
import Derived.OwnWalkIn
import Derived.TacticsInMore
import Derived.LoopNIn
import Derived.LoopIn
import Derived.Maps.OwnIn
import Derived.Sort.MapsRangeIn
import Derived.Laws.IdiomRangeMap
namespace Go.Proofs.Ytpbgccidhpfmgaa
open Go Go.RowKit Go.Maps Go.Shelf
set_option linter.unusedVariables false
set_option linter.unusedSimpArgs false
attribute [local go_sem] Oper.semAt_some

/-- The entries that have come. -/
def Alm (l : List En) (left : Lit → Bool) (xs : List En) : Prop := xs.Nodup ∧ ∀ e, e ∈ xs ↔ e ∈ l ∧ Come left e
theorem Alm.start {D : DE} {l : List En} (hm : MR D l) (hs : SrtE l) (hf : ∀ e ∈ l, FitE e) : Alm l (Maps.has D) [] :=
  ⟨List.nodup_nil, fun e => ⟨fun h => by simp at h, fun h => absurd h.2 (not_come hm hf hs h.1)⟩⟩
theorem Alm.take {l : List En} {left : Lit → Bool} {xs : List En} {x : En} {kl : Lit} (h : Alm l left xs) (hs : SrtE l) (hx : x ∈ l) (hk : KeyAt x.f kl) (hl : left kl = true) : Alm l (fun z => left z && !z.sameKey kl) (xs ++ [x]) := by
  refine ⟨?_, fun e => ⟨fun he => ?_, fun he => ?_⟩⟩
  · rw [List.nodup_append]
    refine ⟨h.1, by simp, fun a ha b hb => ?_⟩
    rw [List.mem_singleton] at hb
    subst hb
    rintro rfl
    have h1 := ((h.2 a).1 ha).2 kl hk
    rw [hl] at h1
    cases h1
  · rcases List.mem_append.1 he with he | he
    · exact ⟨((h.2 e).1 he).1, come_keep ((h.2 e).1 he).2⟩
    · rw [List.mem_singleton] at he
      subst he
      exact ⟨hx, come_here hk⟩
  · rw [List.mem_append]
    rcases come_step hs hx hk he.1 he.2 with c | rfl
    · exact .inl ((h.2 e).2 ⟨he.1, c⟩)
    · exact .inr (by simp)
/-- All have come, each once. -/
def AllE (l xs : List En) : Prop := xs.Nodup ∧ ∀ e, e ∈ xs ↔ e ∈ l
set_option maxRecDepth 100000 in
set_option maxHeartbeats 2000000 in
theorem vals_stops (Bm b : Nat) (l : List En) (w : World) (hBm : Bm < w.heap.size) (hs : SrtE l) (hf : ∀ e ∈ l, FitE e) (hc : w.cell? ⟨Bm, 0, none⟩ = some (.map (some b))) (hM : MapS w b l) :
    SeqStopsK Fence.wide 2 Try.prog 94 #[.pointer (some ⟨Bm, 0, none⟩)] (fun e : En => #[e.val]) KeepsWalks (AllE l) (fun _ => True) l.length w := by
  intro lp J Jx W hW hJ hJx hY h0
  have hM' := hM.tch (tch_new hW) (fun h => h)
  have hm : W.cell? ⟨Bm, 0, none⟩ = some (.map (some b)) := (tch_new hW).cell hc (fun h => h)
  obtain ⟨D, hown, hmr⟩ := hM'
  have HMR := Lib.hid hmr
  have HDZ := Lib.hid hmr.size
  have HA := Lib.hid (Alm.start hmr hs hf)
  clear hM hW hc hmr
  refine callsIn_of_wp Try.func94 rfl trivial ?_ rfl
  simp only [show Try.f94.ntmps = 15 from rfl, List.size_toArray, List.length_cons, List.length_nil, Nat.reduceAdd, Nat.reduceSub, Array.replicate_succ, Array.replicate_zero, List.push_toArray, List.append_toArray, List.nil_append, List.cons_append]
  gi_wp2_with (first
    | (gi_at_range; refine wpListIn_range_own _ rfl _ tyM rfl tyF tyE lawF Try.underlying106 rdE b _ D rfl hown ?_; intro w0 hrg0 hg0 hs0)
    | gi_in)
  (try go_frame)
  rw [HDZ.out] at hrg0
  gi_loopw [4] (fun _ wr => ∃ (left : Lit → Bool) (cnt : Nat) (xs : List En), wr.ranges Try.prog tyF rdE b W.heap.size l.length D left cnt ∧ xs.length + cnt ≤ l.length ∧ Alm l left xs ∧ J xs wr)
    (fun _ wr => wr.rangeLeft b W.heap.size)
  case atStart => exact ⟨_, _, [], hrg0, by simp, HA.out, hJ [] W w0 none h0 hg0 (fun r e => by cases e)⟩
  case round =>
    obtain ⟨left, cnt, xs, hrg, hcs, hA, hJs⟩ := hrel
    gi_wp2_with (first
      | (gi_at_next; refine wpListIn_next_ranges _ rfl _ rfl tyF lawF rdE Fl.val En.val invKF invVE b W.heap.size l.length D left cnt rfl hrg ?_ ?_)
      | gi_in)
    · intro hc0 hl0
      gi_wp2
      go_end0
      exact ⟨⟨_, rfl⟩, .inl ⟨xs, ⟨hA.1, fun e => ⟨fun h => ((hA.2 e).1 h).1, fun h => (hA.2 e).2 ⟨h, fun k _ => hl0 k⟩⟩⟩, hJs⟩⟩
    · intro xf xe kl yd yp w2 cnt2 hkey hlk hv hat hrg2 hlt hg2 hs2 hen
      have HFE := Lib.hid (mr_in (y := (yd, yp)) HMR.out hkey hv hat)
      have hxf : xe.f = xf := (findE_some HFE.out).2
      subst hxf
      have HIN := Lib.hid (findE_some HFE.out).1
      have hA2 := hA.take hs HIN.out hkey hlk
      have hJ2 : J xs w2 := hJ xs wr w2 (some W.heap.size) hJs hg2 (fun r e => by cases e; exact ⟨Nat.le_refl _, hrg.iter_walk⟩)
      have hJ3 : J xs (w2.alloc xe.obj) := hJ xs w2 _ none hJ2 (World.grownBy_alloc w2 _ none) (fun r e => by cases e)
      have hrg3 := rng_tch hrg2 (tch_new (bl_al (Below.refl w2.heap.size w2) xe.obj)) (fun h => h) (fun h => h)
      obtain ⟨fn, tmps, assign, body, hy, hR⟩ := hY xs xe (w2.alloc xe.obj) hJ3 (by omega)
      dsimp only [En.val] at hy
      clear hs2 hJ2 hrg2
      gi_wp2
      refine hR.mono ?_
      rintro e W3 (⟨rfl, hJ4, hk4⟩ | ⟨rfl, hJx4⟩)
      · have hrg4 := hrg3.of_walks hk4
        gi_wp2
        go_roundw
        case rel => exact ⟨_, cnt2, xs ++ [xe], hrg4, by simp; omega, hA2, hJ4⟩
        case measure => rw [hrg4.left_eq, hrg.left_eq]; exact hlt
      · gi_wp2
        refine bodyPost_ret (results_none rfl _ _ _) rfl ?_
        exact ⟨⟨_, rfl⟩, .inr ⟨xs ++ [xe], trivial, hJx4⟩⟩
end Go.Proofs.Ytpbgccidhpfmgaa
namespace Go.Proofs.Ytpbgccidhpfmgaa
open Go Go.RowKit Go.Maps Go.Shelf
set_option linter.unusedVariables false
set_option linter.unusedSimpArgs false
attribute [local go_sem] Oper.semAt_some

set_option maxRecDepth 100000 in
set_option maxHeartbeats 2000000 in
theorem valsN_stops (Bm : Nat) (w : World) (hc : w.cell? ⟨Bm, 0, none⟩ = some (.map none)) :
    SeqStopsK Fence.wide 2 Try.prog 94 #[.pointer (some ⟨Bm, 0, none⟩)] (fun e : En => #[e.val]) KeepsWalks (AllE []) (fun _ => True) 0 w := by
  intro lp J Jx W hW hJ hJx hY h0
  have hm : W.cell? ⟨Bm, 0, none⟩ = some (.map none) := (tch_new hW).cell hc (fun h => h)
  clear hW hc
  refine callsIn_of_wp Try.func94 rfl trivial ?_ rfl
  have hrg := run_range_nilMap (P := Try.prog) W tyM tyF tyE Try.underlying106
  have hnx : ∀ ty, (Instr.next (.pointer (some ⟨W.heap.size, 0, none⟩)) false ty).run Try.prog (W.alloc (.mapIter none 0 #[] 0)) = _ := fun ty => run_next_nilMap _ ty 0 0 #[]
  gi_wp2
  refine wpIn_loop_rounds 1 ?_
  rw [roundsIn_succ]
  gi_wp2
  go_end0
  exact ⟨⟨_, rfl⟩, .inl ⟨[], ⟨List.nodup_nil, fun e => Iff.rfl⟩, hJ [] W _ none h0 (World.grownBy_alloc W _ none) (fun r e => by cases e)⟩⟩
theorem own_cells {W : World} {base : Nat} {e : TypeId} {size : Nat} {v : Value} {k : Nat} {xs : List Value} (h : W.ownsRow base e size v k xs) : ∀ (j : Nat) (o : Obj), v.ownBlock = some j → W.heap[j]? = some o → o.isCells = true := by
  intro j o hj ho
  rcases h.2 with ⟨rfl, _⟩ | ⟨g, cap, cur, rfl, _, hgb, _⟩
  · simp [Value.ownBlock] at hj
  · have : g = j := by simpa [Value.ownBlock] using hj
    subst this
    rw [hgb] at ho
    cases ho
    rfl
theorem bxE_own {β : Type} (B : Nat) (f : β → En) : _root_.Go.Own (fun s W => BxE W B (f s)) := fun s X Y row hs hg hrow => by
  have h1 : X.heap[B]? = some (f s).obj := hs
  refine (hg.block B (lt_of_block h1) (fun e => ?_)).trans h1
  obtain ⟨o, ho, hc⟩ := hrow B e.symm
  rw [h1] at ho
  cases ho
  cases hc
set_option maxRecDepth 100000 in
set_option maxHeartbeats 4000000 in
theorem apseq_c (Bm : Nat) (l : List En) (w : World) (hl : l.length ≤ 1048576)
    (hseq : ∀ W0, Below w.heap.size w W0 → SeqStopsK Fence.wide 2 Try.prog 94 #[.pointer (some ⟨Bm, 0, none⟩)] (fun e : En => #[e.val]) KeepsWalks (AllE l) (fun _ => True) l.length W0) :
    Calls Try.prog 93 #[.slice none 0 0, .func (.func 94) #[] #[.pointer (some ⟨Bm, 0, none⟩)]] w fun e w' =>
      ∃ v xs, e = .returned v ∧ AllE l xs ∧ w'.ownsRow w.heap.size tyE 10 v xs.length (cellsE xs) ∧ Below w.heap.size w w' := by
  obtain ⟨j0, hj0, hy0, hy1, hy2⟩ := info_parts infoE
  refine (callsIn_wide (n := 3)).1 ?_
  refine callsIn_of_wp_marks Try.func93 rfl trivial ?_ rfl
  gi_wp2
  obtain ⟨W0, hW0⟩ : ∃ v, v = w.alloc (.cells #[.slice none 0 0] 32) := ⟨_, rfl⟩
  have hb0 : Below w.heap.size w W0 := by rw [hW0]; exact bl_al (Below.refl _ _) _
  have hx0 : Boxed W0 w.heap.size 32 (.slice none 0 0) := by rw [hW0]; exact (MapKept.heap_alloc w _).1
  have hs0 : W0.heap.size = w.heap.size + 1 := by rw [hW0]; simp
  rw [← hW0]
  clear hW0
  refine wpIn_rangeFunc_ownH rfl (by omega) (gf := 94) (lb := #[.pointer (some ⟨Bm, 0, none⟩)]) rfl trivial (enters_of Try.func94 (by kernel_rfl) rfl)
    (hseq W0 hb0) walksK_t walksK_b (Below.refl _ _) (fun _ => rfl)
    (fun pre W => (∃ v, Boxed W w.heap.size 32 v ∧ W.ownsRow w.heap.size tyE 10 v pre.length (cellsE pre) ∧ v.ownBlock ≠ some w.heap.size) ∧ Below w.heap.size w W)
    (fun _ _ _ => False)
    (OwnFrom.and (_root_.Go.Own.from (holdsRow_own w.heap.size w.heap.size 32 tyE 10 (fun pre => pre.length) (fun pre => cellsE pre) (fun _ v => v.ownBlock ≠ some w.heap.size)) _) (ownFrom_below (Nat.le_refl _) (by omega)))
    (fun _ _ _ _ _ hs _ _ => hs)
    ⟨⟨_, hx0, ⟨rfl, .inl ⟨rfl, rfl⟩⟩, by intro e; cases e⟩, hb0⟩
    (fun x a' W => ∃ Bx, w.heap.size < Bx ∧ BxE W Bx x ∧ a' = { tmps := #[.slice none 0 0, .func (.func 94) #[] #[.pointer (some ⟨Bm, 0, none⟩)], .pointer (some ⟨w.heap.size, 0, none⟩), undef, .slice none 0 0, .pointer (some ⟨Bx, 0, none⟩), .func (.func 94) #[] #[.pointer (some ⟨Bm, 0, none⟩)], x.val, undef, undef, undef, undef, undef], defers := [] })
    (fun x a' _ X Y row hs hg hr => by obtain ⟨Bx, e1, e2, e3⟩ := hs; exact ⟨Bx, e1, bxE_own Bx (fun (_ : Unit) => x) () X Y row e2 hg (fun r e => (hr r e).2), e3⟩)
    ?assign ?body ?done ?stop
  case assign =>
    rintro lp pre x W K ⟨⟨v, hv, hrow, hap⟩, hB⟩ hK
    gi_wp2
    exact hK _ _ ((KeepsOthers.alloc _ _).from _) (KeepsWalks.alloc _ _) ⟨⟨v, hv.alloc _, owns_bel hrow (bl_al (Below.refl _ _) _), hap⟩, hB.alloc hB.size _⟩ ⟨W.heap.size, hv.lt, BxE.new W x, rfl⟩
  case body =>
    rintro lp pre x a' W hlp ⟨r, hr⟩ ⟨⟨v, hv, hrow, hap⟩, hB⟩ ⟨Bx, hBx, bX, rfl⟩ hlt
    obtain ⟨av, cv, rfl⟩ := own_form hrow
    have c0 := hv.cell
    obtain ⟨e0, e1, e2, e3, e4, e5, e6, e7, e8, e9⟩ := bX.cs
    have hWl : W.heap.size ≤ (W.alloc (.cells (csE x).toArray tyE)).heap.size := by simp
    have HNW := Lib.hid (en_new W x)
    have hwW : w.heap.size ≤ W.heap.size := hB.size
    have hown1 := hrow.alloc (.cells (csE x).toArray tyE)
    gi_wp2_with (first
      | (gi_at_builtin; refine wpListIn_append_own_at _ rfl _ _ 32 rfl w.heap.size tyE j0 (.agg #[.int .i64 0, .int .u32 0, .int .i64 0, .int .u32 0, .int .i64 0, .int .u32 0, .int .i64 0, .bool false, .bool false, .int .i64 0]) 10 72 Try.underlying32 hj0 hy0 hy1 hy2 rfl (by decide) _ _ _ rfl hown1 ⟨W.heap.size, 0, none⟩ 1 1 (csE x) rfl rfl HNW.out (csE_one1 _) (by unfold maxLen; omega) (by omega) (by simp; omega) ?_; intro v6 w8 ho6 hg6 hnil6 hl6; obtain ⟨a6, c6, rfl⟩ := own_form ho6
         have t8 : Tch (fun k => some k = (Value.slice av pre.length cv).ownBlock) W w8 := ((tch_new (bl_al (Below.refl W.heap.size W) _)).mono (fun _ h => h.elim)).trans (tch_grown hg6)
         have hv8 : Boxed w8 w.heap.size 32 (.slice av pre.length cv) := t8.at hv (fun e => hap e.symm)
         have c8 := hv8.cell
         have f8 := hv8.frozen
         go_frame)
      | gi_in)
    have hap6 : (Value.slice a6 (pre.length + 1) c6).ownBlock ≠ some w.heap.size := by
      rcases hl6 with e | e
      · rw [e]; exact hap
      · rw [e]; intro e2; injection e2 with e3; have := hv.lt; simp at e3; omega
    have hts := tch_cell w8 w.heap.size 0 (.slice a6 (pre.length + 1) c6)
    have hko : KeepsOthers W (w8.setCell ⟨w.heap.size, 0, none⟩ (.slice a6 (pre.length + 1) c6)) := ((KeepsOthers.alloc W _).trans (KeepsOthers.of_grownBy hg6 (own_cells hown1))).trans (KeepsOthers.setCell _ _ _)
    have hb8 : Below w.heap.size w w8 := hB.trans (t8.below (fun k hk => (hrow.lt k hk.symm).1) hB.size)
    refine ⟨hko.from _, hko.walks, ⟨⟨_, hv8.set _, ?_, hap6⟩, hb8.trans (hts.below (fun k hk => by rw [hk]; exact Nat.le_refl _) hb8.size)⟩⟩
    rw [List.length_append, cellsE_app, cellsE_one]
    exact hts.own ho6 (fun g hg e => hap6 (by rw [hg, e]))
  case done =>
    rintro D xs W hD hS ⟨⟨v, hv, hrow, hap⟩, hB⟩ hK
    obtain ⟨av, cv, rfl⟩ := own_form hrow
    have c0 := hv.cell
    gi_wp2
    refine ⟨by simp, .inl ⟨_, _, rfl, run_takeDeferred hK, ?_⟩⟩
    refine ⟨_, results_tmp rfl _ _ _, _, xs, rfl, hS, ?_, ?_⟩
    · refine hrow.kept (grownBy_putObj' W D _) (.inr (fun e => ?_))
      have := own_cells hrow D _ e hK
      cases this
    · exact hB.trans (belowK_b (w := w) (Nat.le_refl _) W D _ _ (by omega) hK rfl rfl)
  case stop =>
    rintro D c pre W _ _ h _
    exact h.elim
theorem coll_c (Bm : Nat) (l : List En) (w : World) (hl : l.length ≤ 1048576)
    (hseq : ∀ W0, Below w.heap.size w W0 → SeqStopsK Fence.wide 2 Try.prog 94 #[.pointer (some ⟨Bm, 0, none⟩)] (fun e : En => #[e.val]) KeepsWalks (AllE l) (fun _ => True) l.length W0) :
    Calls Try.prog 66 #[.func (.func 94) #[] #[.pointer (some ⟨Bm, 0, none⟩)]] w fun e w' =>
      ∃ v xs, e = .returned v ∧ AllE l xs ∧ w'.ownsRow w.heap.size tyE 10 v xs.length (cellsE xs) ∧ Below w.heap.size w w' := by
  have CA := Lib.hid (apseq_c Bm l w hl hseq)
  go_enter Try.func66, Try.ntmps66
  go_wp2_with fail
  refine CA.out.mono ?_
  rintro e w' ⟨v, xs, rfl, h1, h2, h3⟩
  go_wp2
  go_ret
  exact ⟨v, xs, rfl, h1, h2, h3⟩
theorem vals_c (mb : Option Nat) (w : World) : Calls Try.prog 67 #[.map mb] w fun e w' => e = .returned (.func (.func 94) #[] #[.pointer (some ⟨w.heap.size, 0, none⟩)]) ∧ w' = w.alloc (.cells #[.map mb] tyM) := by
  go_enter Try.func67, Try.ntmps67
  go_wp2
  go_ret
  exact ⟨rfl, rfl⟩
end Go.Proofs.Ytpbgccidhpfmgaa
namespace Go.Proofs.Ytpbgccidhpfmgaa
open Go Go.RowKit Go.Maps
set_option linter.unusedVariables false
set_option linter.unusedSimpArgs false

theorem own_down {W : World} {base base' : Nat} {e : TypeId} {size : Nat} {v : Value} {k : Nat} {xs : List Value} (h : W.ownsRow base e size v k xs) (hb : base' ≤ base) : W.ownsRow base' e size v k xs := by
  refine ⟨h.1, ?_⟩
  rcases h.2 with hn | ⟨g, cap, cur, hv, hbg, rest⟩
  · exact .inl hn
  · exact .inr ⟨g, cap, cur, hv, Nat.le_trans hb hbg, rest⟩
theorem AllE.sorted {l xs S : List En} (h : AllE l xs) (hs : SrtE l) (hp : S.Perm xs) (hS : S.Pairwise (fun a b => lessE b a = false)) : S = l := by
  have hn : S.Nodup := hp.nodup_iff.2 h.1
  have hm : ∀ e, e ∈ S ↔ e ∈ l := fun e => by rw [hp.mem_iff, h.2 e]
  refine srt_uniq (fun e : En => e.f) ?_ hs hm
  refine (hS.and hn).imp_of_mem (fun {a b} ha hb hab => ?_)
  rcases ltF_total (of_decide_eq_false hab.1) with e | e
  · exact absurd (srt_one hs ((hm b).1 hb) ((hm a).1 ha) e).symm hab.2
  · exact e
theorem AllE.len {l xs : List En} (h : AllE l xs) : xs.length ≤ l.length := nodup_len h.1 (fun e he => (h.2 e).1 he)
set_option maxRecDepth 100000 in
set_option maxHeartbeats 4000000 in
theorem tall_t (B p : Nat) (F : Nat → Prop) (qt qu : Int) (l : List En) (w : World) (h : TSt w B F p qt qu l) (hB : B ≤ w.heap.size) (hn : l.length ≤ 1048576) :
    Calls Try.prog 29 #[.pointer (some ⟨p, 0, none⟩)] w (TAll TSt w B F p qt qu l) := by
  obtain ⟨b, hF, hne, hc, hm⟩ := h.map
  have c2 := hc.cs.2.2.1
  have hO := orE_c p w
  have CV := vals_c (some b) w
  obtain ⟨W1, hW1⟩ : ∃ v, v = w.alloc (.cells #[.map (some b)] tyM) := ⟨_, rfl⟩
  have hb1 : Below w.heap.size w W1 := by rw [hW1]; exact bl_al (Below.refl _ _) _
  have hx1 : BoxV tyM W1 w.heap.size (.map (some b)) := by rw [hW1]; exact (MapKept.heap_alloc w _).1
  have hm1 := hm.tch (tch_new hb1) (fun h => h)
  rw [← hW1] at CV
  have CC := Lib.hid (coll_c w.heap.size l W1 hn (fun W0 hW => vals_stops w.heap.size b l W0 (Nat.lt_of_lt_of_le hx1.lt hW.size) h.srt h.fit ((tch_new hW).cell hx1.c (fun h => h)) (hm1.tch (tch_new hW) (fun h => h))))
  have HT := Lib.hid h
  have HB1 := Lib.hid hb1
  have HW1 := Lib.hid hW1
  clear h hF hne hc hm hx1 hm1 hb1 hW1
  go_enter Try.func29, Try.ntmps29
  go_wp2_with fail
  refine hO.mono ?_
  rintro e w1 ⟨rfl, rfl⟩
  clear hO
  go_wp2_with fail
  refine CV.mono ?_
  rintro e w1' ⟨rfl, rfl⟩
  clear CV
  go_wp2_with fail
  refine CC.out.mono ?_
  rintro e w2 ⟨v, xs, rfl, hA, hrow, hb2⟩
  obtain ⟨av, cv, rfl⟩ := own_form hrow
  have hrow' := own_down hrow HB1.out.size
  have hlen := hA.len
  obtain ⟨q, hq⟩ : ∃ q, q = w2.heap.size := ⟨_, rfl⟩
  obtain ⟨W3, hW3⟩ : ∃ u, u = w2.alloc (.cells #[.slice av xs.length cv] 32) := ⟨_, rfl⟩
  have hbx : BoxV 32 W3 q (.slice av xs.length cv) := by rw [hW3, hq]; exact (MapKept.heap_alloc w2 _).1
  have hb3 : Below w2.heap.size w2 W3 := by rw [hW3]; exact bl_al (Below.refl _ _) _
  have hrow3 := owns_bel hrow' hb3
  have hne : (Value.slice av xs.length cv).ownBlock ≠ some q := fun e => by have := (hrow.lt q e).2; omega
  have hbw3 : Below w.heap.size w W3 := bl_tr (HB1.out.trans (hb2.mono HB1.out.size)) hb3
  have CS := Lib.hid (sortE_c w.heap.size xs.length q (.slice av xs.length cv) xs W3 hrow3 (by omega) hbx.c hne)
  have HP := Lib.hid (And.intro hA (And.intro hbx (And.intro hrow3 (And.intro hne hbw3))))
  have HQ := Lib.hid (And.intro hq hW3)
  have b0 := hbx.c
  clear CC hrow hrow' hb2 hq hW3 hbx hb3 hrow3 hne hbw3 hA c2
  go_upto_region 2 with fail
  rw [← HQ.out.1, ← HQ.out.2]
  go_wp2_with fail
  refine CS.out.mono ?_
  rintro e w5 ⟨rfl, S, hp, hS, how, htc⟩
  obtain ⟨hA, hbx, hrow3, hne, hbw3⟩ := HP.out
  have hSl : S = l := hA.sorted HT.out.srt hp hS
  have hxl : xs.length = l.length := by rw [← hSl]; exact hp.length_eq.symm
  have b5 := (hbx.tch htc hne).c
  have hb5 : Below w.heap.size w w5 := hbw3.trans (htc.below (fun k hk => (hrow3.lt k hk).1) hbw3.size)
  have HG : Hid (TAll TSt w B F p qt qu l (.returned (.slice av xs.length cv)) w5) := Lib.hid (by
    refine ⟨F, av, cv, by rw [hxl], ?_, fun k hk hf => ?_, HT.out.keep (tch_new hb5) (fun _ _ h => h), fun k hk => .inl hk, (tch_new hb5).mono (fun _ h => h.elim)⟩
    · rw [hxl, hSl] at how
      exact how
    · rw [← hxl] at hk
      have := (hrow3.lt k hk).1
      have := (HT.out.blocks k hf).2
      omega)
  clear hA hbx hrow3 hne hbw3 hSl hxl hb5 hp hS how htc CS b0
  go_wp2
  go_ret
  exact HG.out
set_option maxRecDepth 100000 in
set_option maxHeartbeats 4000000 in
theorem tallN_t (w : World) : Calls Try.prog 29 #[.pointer none] w fun e w' => ∃ a c, e = .returned (.slice a 0 c) ∧ Below w.heap.size w w' := by
  have hO := orE_n w
  obtain ⟨V, hV⟩ : ∃ v, v = w.alloc tbl0 := ⟨_, rfl⟩
  obtain ⟨p, hp⟩ : ∃ p, p = w.heap.size := ⟨_, rfl⟩
  have hc0 : ∀ i, (w.alloc tbl0).cell? ⟨w.heap.size, i, none⟩ = (#[.int .i64 0, .int .i64 0, .map none, .int .i64 0] : Array Value)[i]? := fun i => cell_of_row _ _ i _ _ _ (MapKept.heap_alloc w tbl0).1
  have c2 : V.cell? ⟨p, 2, none⟩ = some (.map none) := by rw [hV, hp]; exact hc0 2
  have hbV : Below w.heap.size w V := by rw [hV]; exact bl_al (Below.refl _ _) _
  have CV := vals_c none V
  obtain ⟨W1, hW1⟩ : ∃ v, v = V.alloc (.cells #[.map none] tyM) := ⟨_, rfl⟩
  have hb1 : Below w.heap.size w W1 := by rw [hW1]; exact bl_al hbV _
  have hx1 : BoxV tyM W1 V.heap.size (.map none) := by rw [hW1]; exact (MapKept.heap_alloc V _).1
  rw [← hW1] at CV
  have CC := Lib.hid (coll_c V.heap.size [] W1 (by simp) (fun W0 hW => valsN_stops V.heap.size W0 ((tch_new hW).cell hx1.c (fun h => h))))
  have HB1 := Lib.hid hb1
  have HW1 := Lib.hid (And.intro hW1 (And.intro hV hp))
  rw [← hV, ← hp] at hO
  clear hb1 hW1 hV hp hc0 hbV hx1
  go_enter Try.func29, Try.ntmps29
  go_wp2_with fail
  refine hO.mono ?_
  rintro e w1 ⟨rfl, rfl⟩
  clear hO
  go_wp2_with fail
  refine CV.mono ?_
  rintro e w1' ⟨rfl, rfl⟩
  clear CV
  go_wp2_with fail
  refine CC.out.mono ?_
  rintro e w2 ⟨v, xs, rfl, hA, hrow, hb2⟩
  obtain rfl : xs = [] := List.eq_nil_iff_forall_not_mem.2 (fun e he => by have := (hA.2 e).1 he; simp at this)
  obtain ⟨av, cv, rfl⟩ := own_form hrow
  obtain ⟨q, hq⟩ : ∃ q, q = w2.heap.size := ⟨_, rfl⟩
  obtain ⟨W3, hW3⟩ : ∃ u, u = w2.alloc (.cells #[.slice av 0 cv] 32) := ⟨_, rfl⟩
  have hbx : BoxV 32 W3 q (.slice av 0 cv) := by rw [hW3, hq]; exact (MapKept.heap_alloc w2 _).1
  have hb3 : Below w2.heap.size w2 W3 := by rw [hW3]; exact bl_al (Below.refl _ _) _
  have hrow3 := owns_bel (own_down hrow HB1.out.size) hb3
  have hne : (Value.slice av 0 cv).ownBlock ≠ some q := fun e => by have := (hrow.lt q e).2; omega
  have hbw3 : Below w.heap.size w W3 := bl_tr (HB1.out.trans (hb2.mono HB1.out.size)) hb3
  have CS := Lib.hid (sortE_c w.heap.size 0 q (.slice av 0 cv) [] W3 hrow3 (by omega) hbx.c hne)
  have HP := Lib.hid (And.intro hbx (And.intro hrow3 (And.intro hne hbw3)))
  have HQ := Lib.hid (And.intro hq hW3)
  have b0 := hbx.c
  clear CC hrow hb2 hq hW3 hbx hb3 hrow3 hne hbw3 hA c2
  simp only [List.length_nil]
  go_upto_region 2 with fail
  rw [← HQ.out.1, ← HQ.out.2]
  go_wp2_with fail
  refine CS.out.mono ?_
  rintro e w5 ⟨rfl, S, hp, hS, how, htc⟩
  obtain ⟨hbx, hrow3, hne, hbw3⟩ := HP.out
  have b5 := (hbx.tch htc hne).c
  have HB5 := Lib.hid (show Below w.heap.size w w5 from hbw3.trans (htc.below (fun k hk => (hrow3.lt k hk).1) hbw3.size))
  clear hbx hrow3 hne hbw3 hp hS how htc CS b0
  go_wp2
  go_ret
  exact ⟨av, cv, rfl, HB5.out⟩
end Go.Proofs.Ytpbgccidhpfmgaa
