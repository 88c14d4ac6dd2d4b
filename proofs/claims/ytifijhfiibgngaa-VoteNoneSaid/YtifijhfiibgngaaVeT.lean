/- takeOut: what stands under the pairs' keys is taken out of the store, and told. Conditions: those stated. -/
import Derived.Test.YtifijhfiibgngaaVeP
namespace Go.Proofs.Ytifijhfiibgngaa
open Go Go.RowKit
set_option linter.unusedVariables false
set_option linter.unusedSimpArgs false

theorem pr_new (w : World) (e : Pr) (v : Value) : ∀ j u, (e.cs v)[j]? = some u → (w.alloc (.cells #[sv e.k, v] tyPr)).cell? ((⟨w.heap.size, 0, none⟩ : Addr).add j) = some u := by
  intro j u hu
  rw [Go.WideShapes.add_plain, World.cell?_alloc_mark, Nat.zero_add]
  have : (#[sv e.k, v] : Array Value) = (e.cs v).toArray := rfl
  rw [this, List.getElem?_toArray]
  exact hu
/-- Older pairs in a row of the call's own. -/
structure OlP (w : World) (B : Nat) (K : Nat → Prop) (ao : Option Addr) (c : Nat) (ps : List Pr) (vs : List Value) : Prop where
  own : w.ownsRow B tyPr 2 (.slice ao ps.length c) ps.length (cellsPr ps vs)
  vlen : vs.length = ps.length
  blk : ∀ g, (Value.slice ao ps.length c).ownBlock = some g → K g
  rows : ∀ j, j < ps.length → ∃ a2 c2, vs.getD j undef = .slice a2 (ps.getD j pr0).b.length c2 ∧ w.ownsRow B 5 1 (.slice a2 (ps.getD j pr0).b.length c2) (ps.getD j pr0).b.length (u8s (ps.getD j pr0).b) ∧ ∀ g, (Value.slice a2 (ps.getD j pr0).b.length c2).ownBlock = some g → K g
theorem olP_nil (w : World) (B : Nat) (K : Nat → Prop) : OlP w B K none 0 [] [] := ⟨⟨rfl, .inl ⟨rfl, rfl⟩⟩, rfl, (fun g hg => by cases hg), fun j hj => absurd hj (Nat.not_lt_zero j)⟩
theorem OlP.kpt {w w' : World} {B c : Nat} {K : Nat → Prop} {ao : Option Addr} {ps : List Pr} {vs : List Value} (h : OlP w B K ao c ps vs) (hk : Kpt K w w') : OlP w' B K ao c ps vs := by
  have go : ∀ {e : TypeId} {size n : Nat} {v : Value} {xs : List Value}, w.ownsRow B e size v n xs → (∀ g, v.ownBlock = some g → K g) → w'.ownsRow B e size v n xs := by
    intro e size n v xs ho hb
    refine ⟨ho.1, ?_⟩
    rcases ho.2 with h0 | ⟨g, cap, cur, hv, h1, h2, h3⟩
    · exact .inl h0
    · exact .inr ⟨g, cap, cur, hv, h1, (hk g (hb g (by rw [hv]; rfl))).trans h2, h3⟩
  exact ⟨go h.own h.blk, h.vlen, h.blk, fun j hj => by
    obtain ⟨a2, c2, e, ho, hb⟩ := h.rows j hj
    exact ⟨a2, c2, e, go ho hb, hb⟩⟩
theorem OlP.more {w : World} {B c : Nat} {K K2 : Nat → Prop} {ao : Option Addr} {ps : List Pr} {vs : List Value} (h : OlP w B K ao c ps vs) (hk : ∀ k, K k → K2 k) : OlP w B K2 ao c ps vs :=
  ⟨h.own, h.vlen, fun g hg => hk g (h.blk g hg), fun j hj => by
    obtain ⟨a2, c2, e, ho, hb⟩ := h.rows j hj
    exact ⟨a2, c2, e, ho, fun g hg => hk g (hb g hg)⟩⟩
theorem OlP.in {w : World} {B c : Nat} {K : Nat → Prop} {ao : Option Addr} {ps : List Pr} {vs : List Value} (h : OlP w B K ao c ps vs) (hf : ∀ e ∈ ps, fit e.b) : PsIn w K ao ps.length c ps vs := by
  have hl : (cellsPr ps vs).length = ps.length * 2 := cellsPr_len h.vlen
  have hrow : ∀ j, j < ps.length → ∃ a2 k cc, vs.getD j undef = .slice a2 k cc ∧ In w a2 k cc (ps.getD j pr0).b ∧ ∀ ad, a2 = some ad → 0 < k → K ad.block := fun j hj => by
    obtain ⟨a2, c2, e, ho, hb⟩ := h.rows j hj
    have hin := own_in ho rfl (hf _ (memPr hj))
    refine ⟨a2, _, c2, e, hin, fun ad e2 h2 => ?_⟩
    obtain ⟨g, cap, hv, _⟩ := own_shape ho h2
    cases hv
    cases e2
    exact hb g rfl
  rcases h.own.2 with ⟨e, h0⟩ | ⟨g, cap, cur, e, _, hg, h1, h2, h3, h4⟩
  · have : ps = [] := List.eq_nil_of_length_eq_zero h0
    subst this
    simp only [Value.slice.injEq] at e
    obtain ⟨rfl, _, rfl⟩ := e
    exact ⟨rfl, h.vlen, Nat.le_refl _, .inl rfl, fun j hj => absurd hj (Nat.not_lt_zero j)⟩
  · simp only [Value.slice.injEq] at e
    obtain ⟨rfl, _, rfl⟩ := e
    refine ⟨rfl, h.vlen, h1, .inr ⟨g, 0, rfl, h.blk g rfl, fun t u hu => ?_⟩, hrow⟩
    rw [Nat.zero_add, cell_of_row w g t _ _ _ hg, ← Array.getElem?_toList]
    rw [← h4, List.getElem?_take] at hu
    split at hu
    · exact hu
    · cases hu
/-- The voter's cell of its store. -/
def StC (w : World) (p s : Nat) : Prop := w.cell? ⟨p, 5, none⟩ = some (.pointer (some ⟨s, 0, none⟩))
structure TkO (w0 w : World) (s : Nat) (size : Int) (l m : List Pr) (K : Nat → Prop) (old : List Pr) (rv : Value) (n : Nat) (w' : World) : Prop where
  out : ∃ K2 ao c vs, rv = .slice ao n c ∧ n = old.length ∧ (∀ k, K k → K2 k) ∧ SOn w0 w' s size l m K2 ∧ OlP w' w.heap.size K2 ao c old vs
  kpt : Kpt K w w'
  size : w.heap.size ≤ w'.heap.size
theorem six_eql (w : World) : (binOp .eql 28 (errnoF 6) .nilIface).run Try.prog w = .ok (.bool false) w := by kernel_rfl
theorem dropN_ok {w0 w : World} {p : Nat} {size : Int} {l m : List Pr} {K : Nat → Prop} (h : SOn w0 w p size l m K) (k : Ky) (hk : k.length ≤ maxLen) (w1 : World) (hw : w1 = w.alloc (.cells #[sv k] 9)) : Calls Try.prog 103 #[.pointer (some ⟨p, 0, none⟩), .slice (some ⟨w.heap.size, 0, none⟩) 1 1] w1 fun e w' => (∃ d : Int, e = .returned (.int .i64 d)) ∧ SOn w0 w' p size (cutP k l) m K ∧ Kpt K w w' := by
  subst hw
  have hb := bl_al (Below.refl w.heap.size w) (.cells #[sv k] 9)
  have h2 := h.grow hb
  have hK : KsIn (w.alloc (.cells #[sv k] 9)) w.heap.size 1 [k] := ⟨rfl, fun j hj => by
    obtain rfl : j = 0 := by omega
    rw [World.cell?_alloc_mark]
    rfl, fun x hx => by rw [List.mem_singleton] at hx; rw [hx]; exact hk⟩
  refine (h2.drop w.heap.size 1 [k] hK (by omega) (.inr ⟨Nat.le_refl _, by simp⟩)).mono ?_
  rintro e w' ⟨rfl, h3, h4⟩
  exact ⟨⟨_, rfl⟩, h3.less (fun k hk => .inl hk), (h.new hb).2.trans (h4.less (fun k hk => .inl hk))⟩
set_option maxRecDepth 100000 in
set_option maxHeartbeats 8000000 in
theorem takeOut_c (w0 w : World) (p s : Nat) (size : Int) (l m : List Pr) (K : Nat → Prop) (h : SOn w0 w s size l m K) (hp : StC w p s) (hKp : K p) (a : Option Addr) (n c : Nat) (ps : List Pr) (vs : List Value) (hP : PsIn w K a n c ps vs) (hn : n ≤ 4) (hk : ∀ e ∈ ps, e.k.length ≤ 64) :
    Calls Try.prog 88 #[.pointer (some ⟨p, 0, none⟩), .slice a n c] w fun e w' => ∃ rv n', e = .returned rv ∧ TkO w0 w s size (dropP (keysP ps) l) m K (olderP ps l) rv n' w' := by
  obtain ⟨i0, hi0, hz0, hz1, hz2⟩ := info_parts infoPr
  have hlen := hP.len
  have hroom := hP.room
  have HP := Lib.hid hP
  have HKP := Lib.hid hKp
  have HSC := Lib.hid hp
  have HKL := Lib.hid hk
  have HBW := Lib.hid h.bel.size
  have HKW : Hid (∀ k, K k → k < w.heap.size) := Lib.hid h.lt
  have HPW : Hid (p < w.heap.size) := Lib.hid (block_lt_of_cell (show w.cell? ⟨p, 5, none⟩ = _ from hp))
  have HL0 : Hid (TkO w0 w s size (dropP (keysP (ps.take 0)) l) m K (olderP (ps.take 0) l) (.slice none 0 0) 0 w) := Lib.hid ⟨⟨K, none, 0, [], rfl, rfl, fun _ h => h, h, olP_nil _ _ _⟩, fun _ _ => rfl, Nat.le_refl _⟩
  clear h hp hKp hP hk
  go_enter Try.func88, Try.ntmps88
  go_wp2
  go_loopw [5, 7, 8, 9, 12] (fun rv _ _ _ iv wr => ∃ (i n' : Nat), i ≤ n ∧ iv = .int .i64 i ∧ Hid (TkO w0 w s size (dropP (keysP (ps.take i)) l) m K (olderP (ps.take i) l) rv n' wr)) (fun _ _ _ _ iv _ => n - (intOf iv).toNat)
  case atStart => exact ⟨0, 0, by omega, rfl, HL0⟩
  case round =>
    obtain ⟨i, n', hi, rfl, HL⟩ := hrel
    obtain ⟨w3, rfl⟩ : ∃ v, v = wr := ⟨_, rfl⟩
    clear HL0
    by_cases hlt : i < n
    · have ii : (i : Int) < (n : Int) := by omega
      have i0' : (0 : Int) ≤ (i : Int) := by omega
      have ic : (i : Int) ≤ (c : Int) := by omega
      obtain ⟨⟨K2, ao, cc, us, erv, hn', hK2, hS, hO⟩, hkp, hsz⟩ := HL.out
      subst erv
      have hP3 := HP.out.kpt hkp
      obtain ⟨b1, o1, rfl, hKb⟩ := HP.out.block (by omega)
      obtain ⟨c0, c1⟩ := hP3.cell hlt
      obtain ⟨a2, n2, c2, hv, hI2, hI2K⟩ := hP3.rows i hlt
      rw [hv] at c1
      have hmem := memPr (ps := ps) (i := i) (by omega)
      have hk64 := HKL.out _ hmem
      have HTK : Hid (ps.take (i + 1) = ps.take i ++ [ps.getD i pr0]) := Lib.hid (take_morePr ps (i := i) (by omega))
      obtain ⟨x, hx⟩ : ∃ x, x = ps.getD i pr0 := ⟨_, rfl⟩
      rw [← hx] at c0 hk64 HTK
      obtain ⟨li, hli⟩ : ∃ li, li = dropP (keysP (ps.take i)) l := ⟨_, rfl⟩
      obtain ⟨old, hold⟩ : ∃ old, old = olderP (ps.take i) l := ⟨_, rfl⟩
      rw [← hli] at hS
      rw [← hold] at hO
      have HNX : Hid (dropP (keysP (ps.take (i + 1))) l = cutP x.k li ∧ olderP (ps.take (i + 1)) l = old ++ hitP x.k li) := Lib.hid (by rw [HTK.out, dropP_snoc, olderP_snoc, ← hli, ← hold]; exact ⟨rfl, rfl⟩)
      obtain ⟨k, rr⟩ := x
      have hkm : k.length ≤ maxLen := by unfold maxLen; simp only at hk64; omega
      have hold4 : n' ≤ 4 := by rw [hn']; have := older_len (ps.take i) l; rw [List.length_take] at this; omega
      have HOL : Hid (n' = old.length) := Lib.hid (by rw [hn', hold])
      clear hn'
      obtain ⟨w4, hw4⟩ : ∃ w4, w4 = w3.alloc (.cells #[sv k, .slice a2 n2 c2] tyPr) := ⟨_, rfl⟩
      have hb4 : Below w3.heap.size w3 w4 := by rw [hw4]; exact bl_al (Below.refl _ _) _
      obtain ⟨p4, hp4⟩ : ∃ p4, p4 = w3.heap.size := ⟨_, rfl⟩
      have hx4 : w4.heap[p4]? = some (.cells #[sv k, .slice a2 n2 c2] tyPr (0, 0)) := by rw [hw4, hp4]; exact heap_alloc_new w3 _
      have hs4 : w4.heap.size = p4 + 1 := by rw [hw4, hp4]; simp
      have HW4 := Lib.hid (And.intro hw4 hp4)
      have hK4 := hS.grow hb4
      obtain ⟨K4, eK4⟩ : ∃ K4 : Nat → Prop, K4 = fun k => K2 k ∨ (w3.heap.size ≤ k ∧ k < w4.heap.size) := ⟨_, rfl⟩
      rw [← eK4] at hK4
      have hK24 : ∀ k, K2 k → K4 k := fun k hk => by rw [eK4]; exact .inl hk
      have hK4p : K4 p4 := by rw [eK4]; exact .inr ⟨by omega, by omega⟩
      have hkpt4 : Kpt K2 w3 w4 := (hS.new hb4).2
      have hO4 := (hO.kpt hkpt4).more hK24
      have hc4 : StC w4 p s := by
        have := (hkp.trans (hkpt4.less hK2)).cell (show w.cell? ⟨p, 5, none⟩ = _ from HSC.out) HKP.out
        exact this
      have HS4 := Lib.hid hK4
      have HO4 := Lib.hid hO4
      have HKK := Lib.hid (fun k hk => hK24 k (hK2 k hk))
      have HKP4 := Lib.hid hK4p
      have HKT := Lib.hid (hkp.trans (hkpt4.less hK2))
      have HX4 := Lib.hid hx4
      have HC4 := Lib.hid hc4
      have d0 : w4.cell? ⟨p4, 0, none⟩ = some (sv k) := by rw [cell_of_row w4 p4 0 _ _ _ hx4]; rfl
      have d5 : w4.cell? ⟨p, 5, none⟩ = some (.pointer (some ⟨s, 0, none⟩)) := hc4
      have HLE : Hid (w.heap.size ≤ w4.heap.size ∧ w0.heap.size ≤ w4.heap.size ∧ p4 < w4.heap.size ∧ w0.heap.size ≤ w3.heap.size) := Lib.hid ⟨by have := hb4.size; omega, hK4.bel.size, by omega, hS.bel.size⟩
      have HPL : Hid (w.heap.size ≤ p4) := Lib.hid (by omega)
      have HNP : Hid (∀ g, (Value.slice ao n' cc).ownBlock = some g → g ≠ p4) := Lib.hid (fun g hg => by
        have h1 := (hO.own.lt g (by rw [← HOL.out]; exact hg)).2
        have h2 := HW4.out.2
        omega)
      clear HL hS hO hkp hP3 hv hI2 hI2K hmem hx hli hold hw4 hb4 hp4 hx4 hs4 hK4 hK24 hK4p hkpt4 hO4 hc4 eK4 hK2
      go_upto_region 5 with fail
      rw [show w3.alloc (.cells #[sv k, .slice a2 n2 c2] tyPr) = w4 from HW4.out.1.symm, ← HW4.out.2]
      clear c0 c1
      have hS0 : w4.drew.cell? ⟨p, 5, none⟩ = some (.pointer (some ⟨s, 0, none⟩)) ∧ w4.drew.cell? ⟨p4, 0, none⟩ = some (sv k) := ⟨d5, d0⟩
      have CG := Lib.hid ((HS4.out.new (Below.refl _ _).drew).1.get k hkm)
      have HFD := Lib.hid d5
      clear d0 d5
      cases hf : findP k li with
      | none =>
        rw [hf] at CG
        have CG2 : Hid (Calls Try.prog 94 #[.pointer (some ⟨s, 0, none⟩), sv k] w4.drew fun e w' => e = .returned (.tuple #[.slice none 0 0, errnoF 6]) ∧ Tch Non w4.drew w') := Lib.hid CG.out
        have HHT : Hid (hitP k li = [] ∧ cutP k li = li) := Lib.hid ⟨by unfold hitP; rw [hf], cut_miss (findP_none.1 hf)⟩
        have q6 := six_eql
        clear CG hf
        go_region_held3 (fun wx => wx.cell? ⟨p, 5, none⟩ = some (.pointer (some ⟨s, 0, none⟩)) ∧ wx.cell? ⟨p4, 0, none⟩ = some (sv k)) (first | (with_reducible exact hS0) | (with_reducible assumption) | fail)
          (first
            | (go_at_call 94; (with_reducible refine CG2.out.mono ?_); rintro e w5 ⟨rfl, hT5⟩; have hS1 := (show w5.cell? ⟨p, 5, none⟩ = some (.pointer (some ⟨s, 0, none⟩)) ∧ w5.cell? ⟨p4, 0, none⟩ = some (sv k) from ⟨cell_later (non_below hT5) hS0.1, cell_later (non_below hT5) hS0.2⟩))
            | fail)
        have hb5 := non_below hT5
        have hb45 : Below w4.heap.size w4 w5 := bl_tr (Below.refl _ _).drew hb5
        have HF : Hid (TkO w0 w s size (dropP (keysP (ps.take (i + 1))) l) m K (olderP (ps.take (i + 1)) l) (.slice ao n' cc) n' w5) := Lib.hid (by
          obtain ⟨h1, h2⟩ := HS4.out.new hb45
          rw [HNX.out.1, HNX.out.2]
          show TkO w0 w s size (cutP k li) m K (old ++ hitP k li) _ _ w5
          rw [HHT.out.1, HHT.out.2, List.append_nil]
          exact ⟨⟨K4, ao, cc, us, rfl, HOL.out, HKK.out, h1, HO4.out.kpt h2⟩, HKT.out.trans (h2.less HKK.out), by have := HLE.out; have := hb45.size; omega⟩)
        clear hT5 hb5 hb45 hS0 hS1
        go_wp2
        go_roundw
        case rel => exact ⟨i + 1, _, by omega, by go_num, HF⟩
        case measure => simp [intOf]; omega
      | some r =>
        rw [hf] at CG
        have CG2 : Hid (Calls Try.prog 94 #[.pointer (some ⟨s, 0, none⟩), sv k] w4.drew fun e w' => ∃ ao c, e = .returned (.tuple #[.slice ao r.length c, .nilIface]) ∧ w'.ownsRow w4.drew.heap.size 5 1 (.slice ao r.length c) r.length (u8s r) ∧ Tch Non w4.drew w') := Lib.hid CG.out
        have HHT : Hid (hitP k li = [⟨k, r⟩]) := Lib.hid (by unfold hitP; rw [hf])
        have q0 := nilEl
        clear CG hf
        go_region_held3 (fun wx => wx.cell? ⟨p, 5, none⟩ = some (.pointer (some ⟨s, 0, none⟩)) ∧ wx.cell? ⟨p4, 0, none⟩ = some (sv k)) (first | (with_reducible exact hS0) | (with_reducible assumption) | fail)
          (first
            | (go_at_call 94; (with_reducible refine CG2.out.mono ?_); rintro e w5 ⟨a5, c5, rfl, hown5, hT5⟩; have hS1 := (show w5.cell? ⟨p, 5, none⟩ = some (.pointer (some ⟨s, 0, none⟩)) ∧ w5.cell? ⟨p4, 0, none⟩ = some (sv k) from ⟨cell_later (non_below hT5) hS0.1, cell_later (non_below hT5) hS0.2⟩))
            | fail)
        have hb5 := non_below hT5
        have hb45 : Below w4.heap.size w4 w5 := bl_tr (Below.refl _ _).drew hb5
        obtain ⟨m5, hm5⟩ : ∃ m5, m5 = r.length := ⟨_, rfl⟩
        rw [← hm5] at hown5 ⊢
        have HM5 := Lib.hid hm5
        have hS5 := HS4.out.grow hb45
        obtain ⟨K5, eK5⟩ : ∃ K5 : Nat → Prop, K5 = fun k => K4 k ∨ (w4.heap.size ≤ k ∧ k < w5.heap.size) := ⟨_, rfl⟩
        rw [← eK5] at hS5
        have hK45 : ∀ k, K4 k → K5 k := fun k hk => by rw [eK5]; exact .inl hk
        have hk5 := (HS4.out.new hb45).2
        have hO5 := (HO4.out.kpt hk5).more hK45
        have hx5 : w5.heap[p4]? = some (.cells #[sv k, .slice a2 n2 c2] tyPr (0, 0)) := (hk5 p4 HKP4.out).trans HX4.out
        have d0 : w5.cell? ⟨p4, 0, none⟩ = some (sv k) := by rw [cell_of_row w5 p4 0 _ _ _ hx5]; rfl
        have hKR : ∀ g, (Value.slice a5 m5 c5).ownBlock = some g → K5 g := fun g hg => by
          have := hown5.lt g hg
          rw [eK5]
          exact .inr this
        have HKR := Lib.hid hKR
        have HS5 := Lib.hid hS5
        have HO5 := Lib.hid hO5
        have HX5 := Lib.hid hx5
        have HR5 := Lib.hid (own_base hown5 (show w.heap.size ≤ w4.drew.heap.size from HLE.out.1))
        have HK45 := Lib.hid hK45
        have HKT5 := Lib.hid (HKT.out.trans (hk5.less HKK.out))
        have HC5 : Hid (StC w5 p s) := Lib.hid (hk5.cell (show w4.cell? ⟨p, 5, none⟩ = _ from HC4.out) (HKK.out p HKP.out))
        have HLE5 : Hid (w.heap.size ≤ w5.heap.size ∧ w0.heap.size ≤ w5.heap.size ∧ p4 < w5.heap.size) := Lib.hid (by have := HLE.out; have := hb45.size; omega)
        clear hown5 hT5 hb5 hb45 hm5 hS5 eK5 hK45 hk5 hO5 hx5 hKR hS0 hS1
        have HOO : Hid ((w5.alloc (.cells #[sv k, .slice a5 m5 c5] tyPr)).ownsRow w.heap.size tyPr 2 (.slice ao n' cc) n' (cellsPr old us)) := Lib.hid (by have := HO5.out.own; rw [← HOL.out] at this; exact this.alloc _)
        have HNN := Lib.hid (pr_new w5 ⟨k, r⟩ (.slice a5 m5 c5))
        go_wp2_with (at_builtin; refine wpList_append_lies _ rfl (.tmp 28) (.tmp 33) 148 rfl w.heap.size tyPr i0 _ 2 40 Try.underlying148 hi0 hz0 hz1 hz2 rfl (by decide) _ n' (cellsPr old us) rfl HOO.out ⟨w5.heap.size, 0, none⟩ 1 1 (Pr.cs ⟨k, r⟩ (.slice a5 m5 c5)) rfl rfl HNN.out (by intro u hu; simp only [Pr.cs, List.mem_cons, List.not_mem_nil, or_false] at hu; rcases hu with rfl | rfl <;> rfl) (by decide) (by unfold maxLen; omega) (by omega) (by have := HLE5.out; simp; omega) _ rfl ?_)
        intro g8 c8 w8 hown8 hg8 hlie hlt8
        have hT8 : Tch (fun k => some k = (Value.slice ao n' cc).ownBlock) w5 w8 := ((tch_new (bl_al (Below.refl w5.heap.size w5) (.cells #[sv k, .slice a5 m5 c5] tyPr))).mono (fun _ h => h.elim)).trans (tch_grown hg8)
        have hob : ∀ g, (Value.slice ao n' cc).ownBlock = some g → K5 g ∧ w0.heap.size ≤ g := fun g hg => ⟨HO5.out.blk g (by rw [← HOL.out]; exact hg), Nat.le_trans HBW.out (HOO.out.lt g hg).1⟩
        have hS8 := HS5.out.wgrow hT8 (fun k hk => hob k hk.symm)
        obtain ⟨K8, eK8⟩ : ∃ K8 : Nat → Prop, K8 = fun k => K5 k ∨ (w5.heap.size ≤ k ∧ k < w8.heap.size) := ⟨_, rfl⟩
        rw [← eK8] at hS8
        have hK58 : ∀ k, K5 k → K8 k := fun k hk => by rw [eK8]; exact .inl hk
        have hg8K : K8 g8 := by
          rcases hlie with h1 | h1
          · exact hK58 _ (hob g8 h1).1
          · rw [eK8]; exact .inr ⟨by rw [h1]; simp, hlt8⟩
        have hne : tyPr ≠ 5 := by decide
        have hr8 := hT8.own HR5.out (fun g hg e => own_kinds (e := tyPr) HO5.out.own HR5.out hne g (by rw [← HOL.out]; exact e.symm) hg)
        have hO8 : OlP w8 w.heap.size K8 (some ⟨g8, 0, none⟩) c8 (old ++ [⟨k, r⟩]) (us ++ [.slice a5 m5 c5]) := by
          have hl : (old ++ [(⟨k, r⟩ : Pr)]).length = n' + 1 := by rw [List.length_append, ← HOL.out]; rfl
          refine ⟨?_, by simp [HO5.out.vlen], fun g hg => by cases hg; exact hg8K, fun j hj => ?_⟩
          · rw [hl, cellsPr_app HO5.out.vlen, cellsPr_one]
            exact hown8
          · rw [hl] at hj
            by_cases hj2 : j < old.length
            · obtain ⟨a3, c3, e, ho, hb⟩ := HO5.out.rows j hj2
              have e1 : (old ++ [(⟨k, r⟩ : Pr)]).getD j pr0 = old.getD j pr0 := by rw [List.getD_eq_getElem?_getD, List.getD_eq_getElem?_getD, List.getElem?_append_left hj2]
              have e2 : (us ++ [Value.slice a5 m5 c5]).getD j undef = us.getD j undef := by rw [List.getD_eq_getElem?_getD, List.getD_eq_getElem?_getD, List.getElem?_append_left (by rw [HO5.out.vlen]; exact hj2)]
              rw [e1, e2]
              exact ⟨a3, c3, e, hT8.own ho (fun g hg2 e3 => own_kinds HO5.out.own ho hne g (by rw [← HOL.out]; exact e3.symm) hg2), fun g hg => hK58 g (hb g hg)⟩
            · obtain rfl : j = old.length := by have := HOL.out; omega
              have e1 : (old ++ [(⟨k, r⟩ : Pr)]).getD old.length pr0 = ⟨k, r⟩ := by rw [List.getD_eq_getElem?_getD, List.getElem?_append_right (by omega)]; simp
              have e2 : (us ++ [Value.slice a5 m5 c5]).getD old.length undef = .slice a5 m5 c5 := by rw [List.getD_eq_getElem?_getD, List.getElem?_append_right (by rw [HO5.out.vlen]; omega), HO5.out.vlen]; simp
              rw [e1, e2]
              have e3 := HM5.out
              refine ⟨a5, c5, by rw [e3], ?_, fun g hg => hK58 g (HKR.out g (by rw [e3]; exact hg))⟩
              show w8.ownsRow w.heap.size 5 1 (.slice a5 r.length c5) r.length (u8s r)
              rw [← e3]
              exact hr8
        have hx8 : w8.heap[p4]? = some (.cells #[sv k, .slice a2 n2 c2] tyPr (0, 0)) := hT8.at HX5.out (fun e => HNP.out p4 e.symm rfl)
        have d0 : w8.cell? ⟨p4, 0, none⟩ = some (sv k) := by rw [cell_of_row w8 p4 0 _ _ _ hx8]; rfl
        have d5 : w8.cell? ⟨p, 5, none⟩ = some (.pointer (some ⟨s, 0, none⟩)) := hT8.cell (show w5.cell? ⟨p, 5, none⟩ = _ from HC5.out) (fun e => by
          have h1 := (HOO.out.lt p e.symm).1
          have h2 := HPW.out
          omega)
        have hkp8 : Kpt K w w8 := HKT5.out.trans (fun j hj => hT8.block j (HS5.out.lt j (HK45.out j (HKK.out j hj))) (fun e => by
          have h1 := (HOO.out.lt j e.symm).1
          have h2 := HKW.out j hj
          omega))
        have HS8 := Lib.hid hS8
        have HO8 := Lib.hid hO8
        have HK8 := Lib.hid (fun j hj => hK58 j (HK45.out j (HKK.out j hj)))
        have HKP8 := Lib.hid hkp8
        have HK8p := Lib.hid (hK58 p4 (HK45.out p4 HKP4.out))
        have HLE8 : Hid (w.heap.size ≤ w8.heap.size) := Lib.hid (by have := HLE5.out; have := hT8.size; omega)
        have HP8 : Hid (p4 < w8.heap.size) := Lib.hid (by have := HLE5.out; have := hT8.size; omega)
        clear hown8 hg8 hlie hlt8 hT8 hob hS8 eK8 hK58 hg8K hne hr8 hO8 hx8 hkp8 HOO HNN HO5 HR5 HS5
        have hS8a : w8.drew.cell? ⟨p, 5, none⟩ = some (.pointer (some ⟨s, 0, none⟩)) ∧ w8.drew.cell? ⟨p4, 0, none⟩ = some (sv k) := ⟨d5, d0⟩
        have hS8b : (w8.alloc (.cells #[sv k] 9)).drew.cell? ⟨p, 5, none⟩ = some (.pointer (some ⟨s, 0, none⟩)) ∧ (w8.alloc (.cells #[sv k] 9)).drew.cell? ⟨p4, 0, none⟩ = some (sv k) := ⟨cell_later (bl_al (Below.refl _ _) _).drew d5, cell_later (bl_al (Below.refl _ _) _).drew d0⟩
        have CD : Hid (Calls Try.prog 103 #[.pointer (some ⟨s, 0, none⟩), .slice (some ⟨w8.heap.size, 0, none⟩) 1 1] (w8.alloc (.cells #[sv k] 9)).drew fun e w' => (∃ d : Int, e = .returned (.int .i64 d)) ∧ SOn w0 w' s size (cutP k li) m K8 ∧ Kpt K8 w8.drew w') := Lib.hid (dropN_ok (HS8.out.new (Below.refl _ _).drew).1 k hkm (w8.alloc (.cells #[sv k] 9)).drew rfl)
        clear d0 d5
        go_upto_region 8 with fail
        go_region_held3 (fun wx => wx.cell? ⟨p, 5, none⟩ = some (.pointer (some ⟨s, 0, none⟩)) ∧ wx.cell? ⟨p4, 0, none⟩ = some (sv k)) (first | (with_reducible exact hS8a) | (with_reducible exact hS8b) | (with_reducible assumption) | fail)
          (first
            | (go_at_call 103; (with_reducible refine CD.out.mono ?_); rintro e w9 ⟨⟨dd, rfl⟩, hS9, hk9⟩; have hS9a := (show w9.cell? ⟨p, 5, none⟩ = some (.pointer (some ⟨s, 0, none⟩)) ∧ w9.cell? ⟨p4, 0, none⟩ = some (sv k) from ⟨hk9.cell hS8a.1 (HK8.out p HKP.out), hk9.cell hS8a.2 HK8p.out⟩))
            | fail)
        all_goals
          have HF : Hid (TkO w0 w s size (dropP (keysP (ps.take (i + 1))) l) m K (olderP (ps.take (i + 1)) l) (.slice (some ⟨g8, 0, none⟩) (n' + 1) c8) (n' + 1) w9) := Lib.hid (by
            rw [HNX.out.1, HNX.out.2]
            show TkO w0 w s size (cutP k li) m K (old ++ hitP k li) _ _ w9
            rw [HHT.out]
            have hkd : Kpt K8 w8 w9 := (HS8.out.new (Below.refl _ _).drew).2.trans hk9
            refine ⟨⟨K8, _, c8, _, rfl, by rw [List.length_append, ← HOL.out]; rfl, HK8.out, hS9, HO8.out.kpt hkd⟩, HKP8.out.trans (hkd.less HK8.out), ?_⟩
            have h1 := hS9.bel.size
            have h2 := HLE8.out
            have h3 := HK8p.out
            exact Nat.le_trans HPL.out (Nat.le_of_lt (hS9.lt p4 HK8p.out)))
          clear hS9 hk9 hS9a hS8a hS8b
          go_wp2
          go_roundw
          case rel => exact ⟨i + 1, _, by omega, by go_num, HF⟩
          case measure => simp [intOf]; omega
    · have ii : ¬ (i : Int) < (n : Int) := by omega
      obtain rfl : i = n := by omega
      have hL := HL.out
      obtain ⟨K2, ao, cc, us, erv, hrest⟩ := hL.out
      clear hrest
      subst erv
      have HF : Hid (TkO w0 w s size (dropP (keysP ps) l) m K (olderP ps l) (.slice ao n' cc) n' w3) := Lib.hid (by
        rwa [List.take_of_length_le (by omega)] at hL)
      clear HL hL
      go_wp2
      go_ret
      exact ⟨_, rfl, n', HF.out⟩
end Go.Proofs.Ytifijhfiibgngaa
