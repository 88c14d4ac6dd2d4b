/- A set of names as a map; CheckLog. Conditions: the row came in. -/
import Derived.Test.YtbkpkakjfhkfaaaVbC
import Derived.Maps.OwnSet
import Derived.Maps.RangeWalk
import Derived.DeepKeys4
namespace Go.Proofs.Ytbkpkakjfhkfaaa
open Go Go.RowKit Go.Maps
set_option linter.unusedVariables false
set_option linter.unusedSimpArgs false

abbrev DU := DataW Unit
abbrev tyU : TypeId := 128
abbrev tyK3 : TypeId := 131
abbrev tyO : TypeId := 129
def nmV (x : Nm) : Value := .agg #[.int .i64 x.1, .int .i64 x.2.1, .int .i64 x.2.2]
def TyNm (x : Nm) : Prop := i64c x.1 ∧ i64c x.2.1 ∧ i64c x.2.2
theorem laidN : laidOutB Try.prog = true := by kernel_rfl
theorem rowN : (tyK3 : TypeId) < Try.prog.types.size := of_decide_eq_true (by kernel_rfl)
theorem wideN : (match Try.prog.underlying tyK3 with | some (.array _ _) | some (.struct _) => true | _ => false) = true := by rw [Try.underlying131]
set_option maxRecDepth 100000 in
theorem lawN : Keyed Try.prog tyK3 := Keyed.of_law (deep_law_laid laidN (m := 3) (by omega) rowN (by kernel_rfl) wideN)
theorem zeroU (w : World) : (zeroValue tyO).run Try.prog w = .ok (.agg #[]) w := by kernel_rfl
def KeyN (x : Nm) (kl : Lit) : Prop := keyOf Try.prog tyK3 (nmV x) = some kl
theorem nmV_inj {f g : Nm} (h : nmV f = nmV g) : f = g := by
  obtain ⟨a, b, c⟩ := f; obtain ⟨d, e, k⟩ := g
  simp only [nmV, Value.agg.injEq, Array.mk.injEq, List.cons.injEq, Value.int.injEq] at h
  obtain ⟨⟨_, rfl⟩, ⟨_, rfl⟩, ⟨_, rfl⟩, _⟩ := h
  rfl
theorem KeyN.inj {f g : Nm} {kl : Lit} (h : KeyN f kl) (h2 : KeyN g kl) : f = g := nmV_inj (lawN.inj h h2)
theorem KeyN.ne {f g : Nm} {kl kg : Lit} (h : KeyN f kl) (h2 : KeyN g kg) (hn : g ≠ f) : kg ≠ kl := fun e => hn (h2.inj (e ▸ h))
theorem KeyN.one {f : Nm} {kl kg : Lit} (h : KeyN f kl) (h2 : KeyN f kg) : kl = kg := by unfold KeyN at *; rw [h] at h2; exact Option.some.inj h2
theorem wfI {n : Int} (h : i64c n) : (Lit.int .i64 n).wf = true := WalkArith.wf_i64 (by unfold i64c at h; omega)
theorem keyT3 : Try.prog.keyType tyK3 = true := by kernel_rfl
theorem formN (x : Nm) : (nmV x).formed Try.prog tyK3 = true := by
  have : Try.prog.cellsOf tyK3 = 3 := by kernel_rfl
  simp [Value.formed, nmV, Try.underlying131, this]
set_option maxRecDepth 100000 in
theorem keyN {x : Nm} (h : TyNm x) : ∃ kl, KeyN x kl := by
  have h0 := wfI h.1
  have h1 := wfI h.2.1
  have h2 := wfI h.2.2
  have c3 : Try.prog.cellsOf tyK3 = 3 := by kernel_rfl
  have ci : Try.prog.cellsOf 3 = 1 := by kernel_rfl
  obtain ⟨m, hm⟩ : ∃ m, Try.prog.types.size + 1 = m + 1 + 1 := by
    have h9 : 0 < Try.prog.types.size := Nat.lt_of_le_of_lt (Nat.zero_le _) rowN
    generalize Try.prog.types.size = n at h9
    exact ⟨n - 1, by omega⟩
  unfold KeyN keyOf
  simp only [Try.underlying131]
  rw [if_pos (by rw [keyT3, formN]; rfl), hm]
  unfold Program.keyLits
  simp only [Try.underlying131, Value.cells, nmV]
  rw [if_pos ⟨by rw [c3]; rfl, by simp⟩]
  simp [Program.keyLits, Try.underlying3, ci, h0, h1, h2]
def rdU (v : Value) : Option (DU × List MemPlace) := match v with
  | .agg a => if a.size = 0 then some (.held (), []) else none
  | _ => none
theorem rdU_val : rdU (.agg #[]) = some (.held (), []) := rfl
/-- A map reads as a set. -/
structure MRn (D : DU) (s : List Nm) : Prop where
  has : ∀ x kl, KeyN x kl → Maps.has D kl = decide (x ∈ s)
  size : Maps.size D = s.length
theorem MRn.nil : MRn (.map []) [] := ⟨fun _ _ _ => rfl, rfl⟩
def addN (x : Nm) (s : List Nm) : List Nm := if x ∈ s then s else s ++ [x]
theorem mem_addN {x y : Nm} {s : List Nm} : y ∈ addN x s ↔ y = x ∨ y ∈ s := by
  unfold addN
  split
  · rename_i h
    exact ⟨fun h2 => .inr h2, fun h2 => h2.elim (fun e => e ▸ h) (fun h => h)⟩
  · rw [List.mem_append, List.mem_singleton]
    exact ⟨fun h => h.elim (fun h => .inr h) (fun h => .inl h), fun h => h.elim (fun h => .inr h) (fun h => .inl h)⟩
theorem MRn.put {D : DU} {s : List Nm} (h : MRn D s) (hT : Tidy D) {x : Nm} {kl : Lit} (hk : KeyN x kl) : MRn (D.put kl (.held ())) (addN x s) := by
  have ik : Go.WideAt.IsKeyLit kl := lawN.key hk
  refine ⟨fun g kg hg => ?_, ?_⟩
  · by_cases e : g = x
    · subst e
      rw [hg.one hk, has_put_same hT.isMap ik]
      exact (decide_eq_true (mem_addN.2 (.inl rfl))).symm
    · rw [has_put_other (hk.ne hg e), h.has g kg hg]
      exact decide_eq_decide.2 ⟨fun h2 => mem_addN.2 (.inr h2), fun h2 => (mem_addN.1 h2).resolve_left e⟩
  · rw [size_put hT, h.has _ _ hk, h.size]
    unfold addN
    by_cases e : x ∈ s
    · rw [if_pos e, decide_eq_true e]; rfl
    · rw [if_neg e, decide_eq_false e, List.length_append]; rfl
def MapN (w : World) (b : Nat) (s : List Nm) : Prop := ∃ D : DU, w.ownsMap Try.prog tyK3 rdU b s.length D ∧ MRn D s
theorem own_tightN {P : Program} {k : TypeId} {R : Value → Option (DU × List MemPlace)} {w : World} {b n : Nat} {D : DU} (h : w.ownsMap P k R b n D) : w.ownsMap P k R b (Maps.size D) D := by
  obtain ⟨es, clock, hb, F, hs, rfl⟩ := h
  exact ⟨es, clock, hb, F, by simp [Maps.size, length_sorted], rfl⟩
theorem MapN.of {w : World} {b n : Nat} {D : DU} {s : List Nm} (h : w.ownsMap Try.prog tyK3 rdU b n D) (hm : MRn D s) : MapN w b s := ⟨D, by rw [← hm.size]; exact own_tightN h, hm⟩
theorem MapN.block {w w' : World} {b : Nat} {s : List Nm} (h : MapN w b s) (hb : w'.heap[b]? = w.heap[b]?) : MapN w' b s := by
  obtain ⟨D, ⟨es, clock, h1, h2⟩, hm⟩ := h
  exact ⟨D, ⟨es, clock, hb.trans h1, h2⟩, hm⟩
theorem MapN.lt {w : World} {b : Nat} {s : List Nm} (h : MapN w b s) : b < w.heap.size := by
  obtain ⟨D, hd, _⟩ := h
  exact hd.lt
theorem MapN.new (w : World) : MapN (w.alloc (.map #[] 0)) w.heap.size [] := ⟨_, World.ownsMap_made w _ _ _, MRn.nil⟩
theorem MapN.tch {T : Nat → Prop} {w w' : World} {b : Nat} {s : List Nm} (h : MapN w b s) (ht : Tch T w w') (hn : ¬ T b) : MapN w' b s := h.block (ht.block b h.lt hn)
theorem MapN.len {w : World} {b : Nat} {s : List Nm} (h : MapN w b s) (ty : TypeId) : (Builtin.len_ #[tyU] ty #[.map (some b)]).run Try.prog w = .ok (.int .i64 (s.length : Nat)) w := by
  obtain ⟨D, hown, hm⟩ := h
  rw [hown.len (t := tyU) Try.underlying128 ty, hm.size]
theorem tch_turnedN {w w' : World} {b : Nat} (h : w.mapTurned w' b) : Tch (· = b) w w' := by
  have := tch_grown h.grown
  exact this.mono (fun k hk => by simpa using hk)
theorem MapN.store {w : World} {b : Nat} {s : List Nm} (h : MapN w b s) (hn : s.length ≤ 1048576) {x : Nm} (hx : TyNm x) :
    ∃ w', (Instr.mapUpdate tyU (.map (some b)) (nmV x) (.agg #[])).run Try.prog w = .ok () w' ∧ MapN w' b (addN x s) ∧ Tch (· = b) w w' ∧ w'.heap.size = w.heap.size := by
  obtain ⟨D, hown, hmr⟩ := h
  obtain ⟨kl, hk⟩ := keyN hx
  obtain ⟨w', hr, h1, h2⟩ := hown.store (t := tyU) lawN Try.underlying128 (by unfold maxLen; omega) hk rdU_val
  refine ⟨w', hr, MapN.of h1 (hmr.put (hown.tidy lawN) hk), tch_turnedN h2, ?_⟩
  obtain ⟨es, clock, es', clock', hb, rfl⟩ := h2
  simp [Go.ChangeMaps.setBlock]
/-! ### The names that were seen -/
def seenN (l : List Nm) : List Nm := l.foldl (fun s x => addN x s) []
theorem seen_more (l : List Nm) (x : Nm) : seenN (l ++ [x]) = addN x (seenN l) := by unfold seenN; rw [List.foldl_append]; rfl
theorem list_rev {α : Type} {P : List α → Prop} (h0 : P []) (h1 : ∀ l x, P l → P (l ++ [x])) : ∀ l, P l := by
  intro l
  rw [← List.reverse_reverse l]
  induction l.reverse with
  | nil => exact h0
  | cons x t ih => rw [List.reverse_cons]; exact h1 _ _ ih
theorem seen_mem (l : List Nm) : ∀ y, y ∈ seenN l ↔ y ∈ l := by
  refine list_rev (P := fun l => ∀ y, y ∈ seenN l ↔ y ∈ l) (fun y => Iff.rfl) (fun l x ih y => ?_) l
  rw [seen_more, mem_addN, ih, List.mem_append, List.mem_singleton]
  exact ⟨fun h => h.elim (fun h => .inr h) (fun h => .inl h), fun h => h.elim (fun h => .inr h) (fun h => .inl h)⟩
theorem seen_len (l : List Nm) : (seenN l).length ≤ l.length ∧ ((seenN l).length = l.length ↔ l.Nodup) := by
  refine list_rev (P := fun l => (seenN l).length ≤ l.length ∧ ((seenN l).length = l.length ↔ l.Nodup)) ⟨Nat.le_refl _, by simp [seenN]⟩ (fun l x ih => ?_) l
  obtain ⟨i1, i2⟩ := ih
  rw [seen_more]
  have hm := seen_mem l x
  unfold addN
  rw [List.length_append, List.length_singleton, List.nodup_append]
  by_cases e : x ∈ seenN l
  · rw [if_pos e]
    refine ⟨by omega, ⟨fun h => by omega, fun h => ?_⟩⟩
    exact absurd rfl (h.2.2 x (hm.1 e) x (by simp))
  · rw [if_neg e, List.length_append, List.length_singleton]
    refine ⟨by omega, ⟨fun h => ⟨i2.1 (by omega), by simp, fun a ha b hb => ?_⟩, fun h => by rw [i2.2 h.1]⟩⟩
    rw [List.mem_singleton] at hb
    subst hb
    intro e2
    subst e2
    exact e (hm.2 ha)
theorem nine_neq (w : World) : (binOp .neq 28 (errnoF 9) .nilIface).run Try.prog w = .ok (.bool true) w := by kernel_rfl
theorem nm_ty {x : Cm} (h : TyC x) : TyNm x.nm := ⟨h.node, h.boot, h.seq⟩
theorem nil_nilIface : (errF 0 = .nilIface) ∧ (errF 9 = errnoF 9) := ⟨rfl, rfl⟩
set_option maxRecDepth 100000 in
set_option maxHeartbeats 4000000 in
theorem checkLog_c (ls : List Cm) (vs : List Value) (a : Option Addr) (n c : Nat) (w : World) (hI : InC w a n c ls vs) (hn : n ≤ 4611686018427387904) :
    Calls Try.prog 20 #[.slice a n c] w fun e w' => e = .returned (errF (if GoodL ls then 0 else 9)) ∧ Below w.heap.size w w' := by
  obtain ⟨z, hz⟩ : ∃ z : Int, z = if GoodL ls then 0 else 9 := ⟨_, rfl⟩
  rw [← hz]
  have hlen := hI.len
  have hroom := hI.room
  have HI := Lib.hid hI
  have HZ := Lib.hid hz
  by_cases h256 : 256 < n
  · have HE : Hid (z = 9) := Lib.hid (by rw [hz, if_neg (fun h : GoodL ls => by have := h.1; omega)])
    have g : (256 : Int) < (n : Int) := by omega
    clear hI hz
    go_enter Try.func20, Try.ntmps20
    go_wp2
    go_ret
    exact ⟨by rw [HE.out]; rfl, Below.refl _ _⟩
  have g : ¬ (256 : Int) < (n : Int) := by omega
  obtain ⟨W, hW⟩ : ∃ W, W = w.alloc (.map #[] 0) := ⟨_, rfl⟩
  have hM := MapN.new w
  rw [← hW] at hM
  have hb0 : Below w.heap.size w W := by rw [hW]; exact bl_al (Below.refl _ _) _
  obtain ⟨p, hp⟩ : ∃ p, p = w.heap.size := ⟨_, rfl⟩
  rw [← hp] at hM
  have HP : Hid (w.heap.size ≤ p ∧ p < W.heap.size ∧ w.heap.size ≤ W.heap.size) := Lib.hid ⟨by omega, hM.lt, by rw [hW]; simp⟩
  have HW := Lib.hid (And.intro hW hp)
  have HT : Hid (ls.take n = ls) := Lib.hid (List.take_of_length_le (by omega))
  have HM0 : Hid (MapN W p (seenN ((ls.take 0).map Cm.nm))) := Lib.hid hM
  have HB0 := Lib.hid hb0
  have HG0 : Hid (∀ x ∈ ls.take 0, GoodC x) := Lib.hid (fun x hx => by simp at hx)
  clear hI hz hW hp hM hb0
  have mk : (Instr.makeMap tyU none).run Try.prog w = .ok (.map (some w.heap.size)) (w.alloc (.map #[] 0)) := by kernel_rfl
  go_enter Try.func20, Try.ntmps20
  go_upto_region 4 with fail
  clear mk
  rw [show w.alloc (.map #[] 0) = W from HW.out.1.symm, ← HW.out.2]
  go_wp2
  go_loopw [5, 6, 14] (fun _ _ iv wr => ∃ i : Nat, i ≤ n ∧ iv = .int .i64 i ∧ Hid (MapN wr p (seenN ((ls.take i).map Cm.nm))) ∧ Hid (Below w.heap.size w wr) ∧ Hid (∀ x ∈ ls.take i, GoodC x)) (fun _ _ iv _ => n - (intOf iv).toNat)
  case atStart => exact ⟨0, by omega, rfl, HM0, HB0, HG0⟩
  case round =>
    obtain ⟨i, hi, rfl, HM, HB, HG⟩ := hrel
    obtain ⟨w2, rfl⟩ : ∃ v, v = wr := ⟨_, rfl⟩
    clear HM0 HB0 HG0
    by_cases hlt : i < n
    · have ii : (i : Int) < (n : Int) := by omega
      have i0 : (0 : Int) ≤ (i : Int) := by omega
      have ic : (i : Int) ≤ (c : Int) := by omega
      have hI2 := HI.out.below HB.out
      obtain ⟨b1, o1, rfl⟩ := HI.out.block (by omega)
      obtain ⟨k0, k1, k2, k3, k4, k5, k6, k7, k8, k9, k10, k11⟩ := hI2.cell hlt
      obtain ⟨a2, n2, c2, hv, hE⟩ := hI2.ends i hlt
      have ht := HI.out.ty hlt
      rw [hv] at k8
      have hmem := memC (ls := ls) (i := i) (by omega)
      have HTK : Hid (ls.take (i + 1) = ls.take i ++ [ls.getD i cm0]) := Lib.hid (take_moreC ls (i := i) (by omega))
      obtain ⟨x, hx⟩ : ∃ x, x = ls.getD i cm0 := ⟨_, rfl⟩
      rw [← hx] at k0 k1 k2 k3 k4 k5 k6 k7 k9 k10 k11 hE ht hmem HTK
      have HMEM := Lib.hid hmem
      have hn2 : n2 ≤ 4611686018427387904 := by rw [← hE.len]; exact ht.few
      obtain ⟨w3, hw3⟩ : ∃ w3, w3 = w2.alloc (x.obj (.slice a2 n2 c2)) := ⟨_, rfl⟩
      have hA := cAt_new w2 x (.slice a2 n2 c2)
      have hb3 : Below w2.heap.size w2 w3 := by rw [hw3]; exact bl_al (Below.refl _ _) _
      have hM3 := HM.out.tch (tch_new hb3) (fun h => h)
      obtain ⟨p3, hp3⟩ : ∃ p3, p3 = w2.heap.size := ⟨_, rfl⟩
      rw [← hp3, ← hw3] at hA
      have HPP : Hid (p ≠ p3) := Lib.hid (by have := HM.out.lt; omega)
      have HM3 := Lib.hid hM3
      have HW3 := Lib.hid (And.intro hw3 hp3)
      have HB3 := Lib.hid (bl_tr HB.out hb3)
      have HE3 := Lib.hid (hE.below hb3)
      have HA3 := Lib.hid hA
      have HTY := Lib.hid ht
      obtain ⟨d0, d1, d2, d3, d4, d5, d6, d7, d8, d9, d10, d11⟩ := hA.lit
      clear hx ht hE hv hI2 hmem hw3 hb3 hM3 hp3 hA
      go_upto_region 7 with fail
      rw [show w2.alloc (.cells #[.int .i64 x.node, .int .i64 x.boot, .int .i64 x.seq, .int .i64 x.time, .int .i64 x.kind, .int .u32 x.vip, .int .i64 x.proto, .int .i64 x.port, .slice a2 n2 c2, .int .u32 x.dip, .int .u32 x.cvip, .bool x.up] tyC) = w3 from HW3.out.1.symm, ← HW3.out.2]
      clear k0 k1 k2 k3 k4 k5 k6 k7 k8 k9 k10 k11
      go_wp2_with fail
      refine (check_c x a2 n2 c2 w3 HE3.out HTY.out hn2).mono ?_
      rintro e w4 ⟨rfl, hb⟩
      have HB4 := Lib.hid (bl_tr HB3.out hb)
      have HM4 := Lib.hid (HM3.out.tch (tch_new hb) (fun h => h))
      have HA4 := Lib.hid (HA3.out.below hb)
      clear hb d0 d1 d2 d3 d4 d5 d6 d7 d8 d9 d10 d11
      by_cases hg : GoodC x
      · have HG2 : Hid (∀ y ∈ ls.take (i + 1), GoodC y) := Lib.hid (fun y hy => by
          rw [HTK.out, List.mem_append, List.mem_singleton] at hy
          rcases hy with hy | hy
          · exact HG.out y hy
          · rw [hy]; exact hg)
        rw [if_pos hg, nil_nilIface.1]
        have q0 := nilNe
        obtain ⟨w5, hr, hM5, hT5, hs5⟩ := HM4.out.store (x := x.nm) (by
          have h1 := (seen_len ((ls.take i).map Cm.nm)).1
          rw [List.length_map, List.length_take] at h1
          omega) (nm_ty HTY.out)
        have hr' : (Instr.mapUpdate tyU (.map (some p)) (.agg #[.int .i64 x.node, .int .i64 x.boot, .int .i64 x.seq]) (.agg #[])).run Try.prog w4 = .ok () w5 := hr
        have HM5 : Hid (MapN w5 p (seenN ((ls.take (i + 1)).map Cm.nm))) := Lib.hid (by
          rw [HTK.out, List.map_append, List.map_singleton, seen_more]
          exact hM5)
        have HB5 : Hid (Below w.heap.size w w5) := Lib.hid (HB4.out.trans (hT5.below (fun k hk => by rw [hk]; exact HP.out.1) (by have := HB4.out.size; omega)))
        obtain ⟨d0, d1, d2, d3, d4, d5, d6, d7, d8, d9, d10, d11⟩ := HA4.out.lit
        clear hr hM5 hT5 hs5 hg
        go_wp2
        go_roundw
        case rel => exact ⟨i + 1, by omega, by go_num, HM5, HB5, HG2⟩
        case measure => simp [intOf]; omega
      · have HE : Hid (z = 9) := Lib.hid (by rw [HZ.out, if_neg (fun h : GoodL ls => hg (h.2.1 _ HMEM.out))])
        rw [if_neg hg, nil_nilIface.2]
        have q9 := nine_neq
        clear hg
        go_wp2
        go_ret
        exact ⟨by rw [HE.out]; rfl, HB4.out⟩
    · have ii : ¬ (i : Int) < (n : Int) := by omega
      obtain rfl : i = n := by omega
      have hL := HM.out.len
      have h1 := seen_len ((ls.take i).map Cm.nm)
      rw [HT.out] at h1 hL
      rw [List.length_map, hlen] at h1
      have HGA : Hid (∀ x ∈ ls, GoodC x) := Lib.hid (by have := HG.out; rwa [HT.out] at this)
      obtain ⟨m, hm⟩ : ∃ m, m = (seenN (ls.map Cm.nm)).length := ⟨_, rfl⟩
      rw [← hm] at hL h1
      by_cases hd : m < i
      · have HE : Hid (z = 9) := Lib.hid (by rw [HZ.out, if_neg (fun h : GoodL ls => by have := h1.2.2 h.2.2; omega)])
        have gg : (m : Int) < (i : Int) := by omega
        clear h1 hm
        go_wp2
        go_ret
        exact ⟨by rw [HE.out]; rfl, HB.out⟩
      · have HE : Hid (z = 0) := Lib.hid (by rw [HZ.out, if_pos (show GoodL ls from ⟨by omega, HGA.out, h1.2.1 (by omega)⟩)])
        have gg : ¬ (m : Int) < (i : Int) := by omega
        clear h1 hm
        go_wp2
        go_ret
        exact ⟨by rw [HE.out]; rfl, HB.out⟩
end Go.Proofs.Ytbkpkakjfhkfaaa
