/- Contract of sort.Slice over a row of structs where 'less' may make blocks of its own: the row is sorted. Conditions: as stated. -/
import Derived.Test.YtpbgccidhpfmgaaSgZ
import Derived.Shelf.GgSortFunc.Tiny
import Derived.Shelf.GgSortFunc.SmallK
namespace Go.Proofs.Ytpbgccidhpfmgaa
open Go Go.RowKit Go.Sort Go.Lib
set_option linter.unusedVariables false
set_option linter.unusedSimpArgs false

variable {α : Type} [Inhabited α] {cs : α → List Value} {k : Nat}
theorem cellsG_at (hk : ∀ x, (cs x).length = k) : ∀ {l : List α} {j i : Nat}, j < l.length → i < k → (l.flatMap cs)[j * k + i]? = (cs (l.getD j default))[i]?
  | [], j, i, hj, _ => by simp at hj
  | e :: l, 0, i, _, hi => by
    rw [List.flatMap_cons, Nat.zero_mul, Nat.zero_add, List.getD_cons_zero]
    exact List.getElem?_append_left (by rw [hk]; exact hi)
  | e :: l, j + 1, i, hj, hi => by
    have h := cellsG_at hk (l := l) (j := j) (i := i) (by simpa using hj) hi
    rw [List.flatMap_cons, List.getD_cons_succ, List.getElem?_append_right (by rw [hk, Nat.succ_mul]; omega), ← h]
    congr 1
    rw [hk, Nat.succ_mul]
    omega
omit [Inhabited α] in
theorem cellsG_len (hk : ∀ x, (cs x).length = k) (l : List α) : (l.flatMap cs).length = l.length * k := by
  induction l with
  | nil => simp
  | cons e l ih => rw [List.flatMap_cons, List.length_append, ih, hk, List.length_cons, Nat.succ_mul]; omega
theorem get_getG (d : Array α) (j : Nat) (h : j < d.size) : d[j]! = d.toList.getD j default := by
  rw [getElem!_pos d j h, List.getD_eq_getElem?_getD, List.getElem?_eq_getElem (by simpa using h)]
  simp
theorem flatG (hk : ∀ x, (cs x).length = k) (hk0 : 0 < k) (d : Array α) {t : Nat} (ht : t < d.size * k) : (d.toList.flatMap cs)[t]? = some (flatK cs k d)[t]! := by
  have hj : t / k < d.size := (Nat.div_lt_iff_lt_mul hk0).2 ht
  have hi : t % k < k := Nat.mod_lt _ hk0
  have h := cellsG_at hk (l := d.toList) (j := t / k) (i := t % k) (by simpa using hj) hi
  rw [show t / k * k + t % k = t by rw [Nat.mul_comm]; exact Nat.div_add_mod t k] at h
  rw [h, get_flatK cs k d t ht, get_getG d _ hj, getElem!_pos _ (t % k) (by rw [hk]; exact hi), List.getElem?_eq_getElem]
theorem own_holds (hk : ∀ x, (cs x).length = k) (hk0 : 0 < k) {w : World} {B g n c : Nat} {ty : TypeId} {l : List α} (h : w.ownsRow B ty k (.slice (some ⟨g, 0, none⟩) n c) n (l.flatMap cs)) : HoldsK cs k w g 0 l.toArray := by
  have hl := h.1
  rw [cellsG_len hk] at hl
  rcases h.2 with ⟨e, _⟩ | ⟨g', cap, cur, e, hB, hg, h1, h2, h3, h4⟩
  · cases e
  · simp only [Value.slice.injEq, Option.some.injEq, Addr.mk.injEq] at e
    obtain ⟨⟨rfl, _⟩, _, rfl⟩ := e
    intro t ht
    have ht2 : t < l.toArray.size * k := by simpa using ht
    refine ⟨?_, frozen_of_row w g _ _ _ hg⟩
    have hf := flatG hk hk0 l.toArray ht2
    rw [show l.toArray.toList = l from rfl, ← h4, List.getElem?_take, if_pos (by simp at ht2; omega), Array.getElem?_toList] at hf
    rw [Nat.zero_add, cell_of_row w g t _ _ _ hg, hf]
    rfl
theorem own_swk (hk : ∀ x, (cs x).length = k) (hk0 : 0 < k) {w w' : World} {B g n c : Nat} {ty : TypeId} {l : List α} {d : Array α} (h : w.ownsRow B ty k (.slice (some ⟨g, 0, none⟩) n c) n (l.flatMap cs)) (hs : SWK cs k w g 0 d w') (hd : d.size = n) :
    w'.ownsRow B ty k (.slice (some ⟨g, 0, none⟩) n c) n (d.toList.flatMap cs) := by
  refine ⟨by rw [cellsG_len hk]; simp [hd], ?_⟩
  rcases h.2 with ⟨e, _⟩ | ⟨g', cap, cur, e, hB, hg, h1, h2, h3, h4⟩
  · cases e
  · simp only [Value.slice.injEq, Option.some.injEq, Addr.mk.injEq] at e
    obtain ⟨⟨rfl, _⟩, _, rfl⟩ := e
    obtain ⟨m, os, rfl⟩ := hs
    have hlt : g < w.heap.size := lt_of_block hg
    refine .inr ⟨g, c, putCells id 0 (flatK cs k d) cur, rfl, hB, ?_, h1, h2, by simp [putCells, h3], ?_⟩
    · unfold sortWorldK
      rw [heap_grow_old _ _ (by rw [size_putRowK]; exact hlt)]
      show (Array.modify w.heap g (onCells (putCells id 0 (flatK cs k d))))[g]? = _
      rw [Array.getElem?_modify, if_pos rfl, hg]
      rfl
    · apply List.ext_getElem?
      intro t
      rw [List.getElem?_take]
      by_cases ht : t < n * k
      · rw [if_pos ht, flatG hk hk0 d (by rw [hd]; exact ht), Array.getElem?_toList]
        have hc : t < cur.size := by rw [h3]; exact Nat.lt_of_lt_of_le ht (Nat.mul_le_mul_right _ h1)
        simp [putCells, Array.getElem?_mapIdx, hc, hd, ht]
      · rw [if_neg ht, List.getElem?_eq_none (by rw [cellsG_len hk]; simp [hd]; omega)]
/-- What a sort leaves of a row of the call's own. -/
def Srt (cs : α → List Value) (k : Nat) (lt : α → α → Bool) (ty : TypeId) (B : Nat) (v : Value) (n : Nat) (l : List α) (w w' : World) : Prop :=
  ∃ S : List α, S.Perm l ∧ S.Pairwise (fun a b => lt b a = false) ∧ w'.ownsRow B ty k v n (S.flatMap cs) ∧ Tch (fun b => v.ownBlock = some b) w w'
theorem slice_g (hk : ∀ x, (cs x).length = k) (hk0 : 0 < k) (h1 : ∀ x, ∀ v ∈ cs x, v.oneCell' = true) (lt : α → α → Bool) (hO : SWO lt) (t e : TypeId) (i ie : TypeInfo) (hi : Try.prog.info? t = some i) (hd : i.desc = .slice e) (hpk : Try.prog.packed t = false) (hie : Try.prog.info? e = some ie) (ke : Nat) (hke : ∀ w, (Extern.Rtype.kind e).run Try.prog w = .ok ke w)
    (hs1 : ie.size = k) (hagg : ∀ w, (isAgg e).run Try.prog w = .ok true w) (hsw : ∀ n, 2 ≤ n → Lib.swapperK n ie ke = 9) (g : Nat) (lb : Array Value) (eg : ∀ args w, (callFunc g args).run Try.prog w = .ok (.enter g args) w)
    (B n : Nat) (v : Value) (l : List α) (w : World) (h : w.ownsRow B e k v n (l.flatMap cs)) (hn : n ≤ 1048576)
    (hless : ∀ (blk c : Nat) (W : World) (dk : Array α), v = .slice (some ⟨blk, 0, none⟩) n c → Tch (· = blk) w W → HoldsK cs k W blk 0 dk → dk.size = n → ∀ i j : Nat, i < n → j < n →
      Calls Try.prog g (#[.int .i64 i, .int .i64 j] ++ lb) W fun e w' => e = .returned (.bool (lt dk[i]! dk[j]!)) ∧ Grw W w') :
    Calls Try.prog 63 #[.iface t v, .func (.func g) #[] lb] w fun ez w' => ez = .returned (.tuple #[]) ∧ Srt cs k lt e B v n l w w' := by
  have hl : l.length = n := by
    have := h.1
    rw [cellsG_len hk] at this
    exact Nat.eq_of_mul_eq_mul_right hk0 this
  obtain ⟨a, c, rfl⟩ : ∃ a c, v = .slice a n c := by
    rcases h.2 with ⟨rfl, rfl⟩ | ⟨g', cap, cur, rfl, _⟩
    · exact ⟨none, 0, rfl⟩
    · exact ⟨_, _, rfl⟩
  by_cases hn1 : n ≤ 1
  · have hf : ∃ f, Try.prog.funcs.findIdx? (·.name == "internal/reflectlite" ++ ".Swapper$" ++ toString (Lib.swapperK n ie ke)) = some f := by
      rcases Nat.lt_or_ge n 1 with hz | hz
      · obtain rfl : n = 0 := by omega
        exact ⟨102, by rw [show Lib.swapperK 0 ie ke = 1 from rfl]; kernel_rfl⟩
      · obtain rfl : n = 1 := by omega
        exact ⟨103, by rw [show Lib.swapperK 1 ie ke = 2 from rfl]; kernel_rfl⟩
    obtain ⟨f, hf⟩ := hf
    refine (Any.sort_Slice_tiny (P := Try.prog) (ρ := Try.slc_ren) { Try.slc with } t e i ie hi hd hpk hie ke hke a n c hn1 f hf (.func g) #[] lb w).mono ?_
    rintro e' w' ⟨rfl, os, rfl⟩
    have hg : Grw w (grow w os) := ⟨0, os, rfl⟩
    refine ⟨rfl, l, .refl _, ?_, owns_bel h hg.below, tch_grw _ hg⟩
    match l, hl with
    | [], _ => exact .nil
    | [x], _ => exact List.pairwise_singleton _ _
    | _ :: _ :: _, hl => simp at hl; omega
  · have h2 : 2 ≤ n := by omega
    obtain ⟨blk, rfl⟩ : ∃ blk, a = some ⟨blk, 0, none⟩ := by
      rcases h.2 with ⟨_, h0⟩ | ⟨g', cap, cur, e', _⟩
      · omega
      · simp only [Value.slice.injEq] at e'
        exact ⟨g', e'.1⟩
    have hH := own_holds hk hk0 h
    have hblk : blk < w.heap.size := (h.lt blk rfl).2
    have hds : l.toArray.size = n := by simpa using hl
    have hf : Try.prog.funcs.findIdx? (·.name == "internal/reflectlite" ++ ".Swapper$" ++ toString (Lib.swapperK n ie ke)) = some 110 := by rw [hsw n h2]; kernel_rfl
    obtain ⟨w0, hw0⟩ : ∃ w0, w0 = sliceWorld Try.prog Try.slc_ren t (some ⟨blk, 0, none⟩) n c w := ⟨_, rfl⟩
    have hg0 : Grw w w0 := by rw [hw0]; unfold sliceWorld; exact ((Grw.refl w).alloc _).alloc _
    have hsw0 : SWK cs k w blk 0 l.toArray w0 := swk_grw (SWK.start hH) hg0
    have hH0 := hsw0.holds hblk hH rfl
    have hb0 := hsw0.lt hblk
    have hx : ∀ args W, (callFunc 110 args).run Try.prog W = ((Extern.ReflectliteSwapper.swap false args).run Try.prog W).andThen fun v w' => .ok (.value v) w' := fun args W => run_callFunc_extern Try.func110 (by kernel_rfl) (by kernel_rfl) (by kernel_rfl) (e := Extern.ReflectliteSwapper.swap false) (by kernel_rfl) args W
    have S : Sgt cs k lt g lb 110 #[.slice (some ⟨blk, 0, none⟩) n c, typeHandle Try.prog e] blk n w0 l.toArray :=
      ⟨hk, hH0, hb0, hds, by omega, eg, fun m os dk hdk i j hi hj => hless blk c _ dk rfl ((tch_grw _ hg0).trans (tch_sw cs k w0 blk m dk os)) (holdsK_sortWorldK cs k w0 blk 0 m l.toArray dk os hb0 hH0 (hdk.trans hds.symm)) hdk i j hi hj,
        swapSwapsK_of_literal false _ hx e ie hie cs k hk hs1 hagg h1 blk 0 n c⟩
    have hlim : Lib.bitLen n < 4611686018427387904 := Nat.lt_of_le_of_lt (Lib.bitLen_le n 62 (by omega) (by omega)) (by omega)
    have hp := pdq_g S hO (n + 1) 0 n (Lib.bitLen n) l.toArray w0 (by omega) (SWK.start hH0) hds (Nat.zero_le _) (Nat.le_refl _) hlim (Or.inl rfl)
    have hB9 : sliceBound Try.prog e ie ke (some ⟨blk, 0, none⟩) n c = #[.slice (some ⟨blk, 0, none⟩) n c, typeHandle Try.prog e] := by
      unfold sliceBound
      rw [hsw n h2]
      rfl
    have hp2 := pdq_sorts lt hO l.toArray 0 n (Lib.bitLen n) true true (Nat.zero_le _) (by omega) (Or.inl rfl)
    refine (Any.sort_Slice_of_pdq (P := Try.prog) (ρ := Try.slc_ren) { Try.slc with } t e i ie hi hd hpk hie ke hke (some ⟨blk, 0, none⟩) n c (by omega) _ hf (.func g) #[] lb w (fun w' => Sgo cs k blk n w0 w0 (pdq lt l.toArray 0 n (Lib.bitLen n) true true) w') (by rw [hB9, ← hw0]; exact hp)).mono ?_
    rintro e' w' ⟨rfl, hsk, hsl, htc⟩
    obtain ⟨D, hD⟩ : ∃ D, D = pdq lt l.toArray 0 n (Lib.bitLen n) true true := ⟨_, rfl⟩
    rw [← hD] at hsk hsl hp2
    have hswk : SWK cs k w blk 0 D w' := by
      obtain ⟨m, os, rfl⟩ := hsk
      exact hsw0.on hblk m D os (hsl.trans hds.symm)
    refine ⟨rfl, D.toList, ?_, ?_, own_swk hk hk0 h hswk hsl, ((tch_grw _ hg0).trans htc).mono (fun b hb => by rw [hb]; rfl)⟩
    · have hpm := hp2.1.2.2
      rw [← hsl, Array.extract_size, hsl, ← hds, Array.extract_size] at hpm
      exact hpm
    · refine List.pairwise_iff_getElem.2 (fun i j hi hj hij => ?_)
      have := hp2.2 i j (Nat.zero_le _) hij (by simpa [hsl] using hj)
      simpa [getElem!_pos, show i < D.size by simpa using hi, show j < D.size by simpa using hj] using this
end Go.Proofs.Ytpbgccidhpfmgaa
