/- StableSynced's walk: it returns true. Conditions: none but the scripts' own. -/
import Derived.Test.YtpbgccidhpfmgaaScS
namespace Go.Proofs.Ytpbgccidhpfmgaa
open Go Go.RowKit Go.Maps
set_option linter.unusedVariables false
set_option linter.unusedSimpArgs false

theorem unlike_self {l : List Pr} (hs : SrtP l) : unlikeP l l = 0 := by
  have e1 : l.filter (fun e => decide (findP e.k l ≠ some e.b)) = [] := by
    rw [List.filter_eq_nil_iff]
    intro e he
    rw [findP_of_mem hs he]
    simp
  have e2 : l.filter (fun e => decide (findP e.k l = none)) = [] := by
    rw [List.filter_eq_nil_iff]
    intro e he
    rw [findP_of_mem hs he]
    simp
  unfold unlikeP unA unB
  rw [e1, e2]
  rfl
section
variable {w0 w w' : World} {p : Nat} {size : Int} {l m : List Pr} {K : Nat → Prop}
theorem SOn.drop1 (h : SOn w0 w p size l m K) (k : Ky) (hk : k.length ≤ maxLen) :
    Calls Try.prog 39 #[.pointer (some ⟨p, 0, none⟩), .slice (some ⟨w.heap.size, 0, none⟩) 1 1] (w.alloc (.cells #[sv k] tyK)) fun e w' => (∃ num, e = .returned (.int .i64 num)) ∧ SOn w0 w' p size (dropP [k] l) m K ∧ Kpt K w w' := by
  have hb : Below w.heap.size w (w.alloc (.cells #[sv k] tyK)) := bl_al (Below.refl _ _) _
  have hg := h.grow hb
  refine (hg.drop w.heap.size 1 [k] (RsKs.one hk) (by omega) (.inr ⟨Nat.le_refl _, by simp⟩)).mono ?_
  rintro e w' ⟨rfl, h1, h2⟩
  exact ⟨⟨_, rfl⟩, h1.less (fun k hk => .inl hk), fun k hk => (h2 k (.inl hk)).trans (hb.block k (h.lt k hk))⟩
end
/-- A row of pairs under kept blocks. -/
theorem own_eq {w w' : World} {B size n : Nat} {e : TypeId} {v : Value} {xs : List Value} (ho : w.ownsRow B e size v n xs) (hn : ∀ g, v.ownBlock = some g → w'.heap[g]? = w.heap[g]?) : w'.ownsRow B e size v n xs := by
  refine ⟨ho.1, ?_⟩
  rcases ho.2 with h0 | ⟨g', cap', cur, hv, h1, h2, h3⟩
  · exact .inl h0
  · exact .inr ⟨g', cap', cur, hv, h1, (hn g' (by rw [hv]; rfl)).trans h2, h3⟩
theorem PsV.kpt {w w' : World} {F : Nat → Prop} {B : Nat} {v : Value} {ps : List Pv} (h : PsV w F B v ps) (hk : Kpt F w w') : PsV w' F B v ps :=
  ⟨own_eq h.row (fun g hg => hk g (h.here g hg)), fun x hx => ⟨own_eq (h.rows x hx).1 (fun g hg => hk g ((h.rows x hx).2.2 g hg)), (h.rows x hx).2⟩, h.here⟩
theorem PsV.tight {w : World} {F : Nat → Prop} {B : Nat} {v : Value} {ps : List Pv} (h : PsV w F B v ps) : PsV w (fun k => F k ∧ k < w.heap.size) B v ps :=
  ⟨h.row, fun x hx => ⟨(h.rows x hx).1, (h.rows x hx).2.1, fun g hg => ⟨(h.rows x hx).2.2 g hg, ((h.rows x hx).1.lt g hg).2⟩⟩, fun g hg => ⟨h.here g hg, (h.row.lt g hg).2⟩⟩
/-- One pair more. -/
theorem PsV.app {w w' : World} {F : Nat → Prop} {B : Nat} {v v' : Value} {ps : List Pv} (h : PsV w F B v ps) {x : Pv} (hx : RowF w F B x.2 x.1.b) (ho : w'.ownsRow B tyP 2 v' (ps.length + 1) (cellsP ps ++ [sv x.1.k, x.2])) (hg : w.grownBy w' v.ownBlock) (hF : ∀ g, v'.ownBlock = some g → F g) : PsV w' F B v' (ps ++ [x]) := by
  have ht := tch_grown hg
  have hno : ∀ k, some k = v.ownBlock → F k → NoRow w k := fun k hk _ => h.no k hk.symm
  refine ⟨by rw [cellsP_app, List.length_append]; exact ho, fun y hy => ?_, hF⟩
  rcases List.mem_append.1 hy with hy | hy
  · exact (h.rows y hy).tch ht hno
  · rw [List.mem_singleton] at hy
    subst hy
    exact hx.tch ht hno
theorem own_kinds {w : World} {B B' n k s s' : Nat} {e e' : TypeId} {v u : Value} {xs ys : List Value} (h : w.ownsRow B e s v n xs) (h2 : w.ownsRow B' e' s' u k ys) (hne : e ≠ e') : Aprt v u := by
  intro g hg hg2
  rcases h.2 with ⟨rfl, _⟩ | ⟨g1, _, _, rfl, _, e1, _⟩
  · cases hg
  rcases h2.2 with ⟨rfl, _⟩ | ⟨g2, _, _, rfl, _, e2, _⟩
  · cases hg2
  have i1 : g1 = g := by cases hg; rfl
  have i2 : g2 = g := by cases hg2; rfl
  subst i1
  subst i2
  rw [e1] at e2
  simp at e2
  exact hne e2.2
theorem cells_pair (w : World) (u v : Value) : ∀ ad, (some ⟨w.heap.size, 0, none⟩ : Option Addr) = some ad → ∀ j x, [u, v][j]? = some x → (w.alloc (.cells #[u, v] tyP)).cell? (ad.add j) = some x := by
  intro ad h j x hx
  cases h
  rw [Go.WideShapes.add_plain]
  exact cells_new w [u, v] tyP (0, 0) j x hx
theorem take_snocP {l : List Pr} {j : Nat} (hj : j < l.length) : l.take (j + 1) = l.take j ++ [l.getD j pr0] := by
  rw [List.take_succ_eq_append_getElem hj, List.getD_eq_getElem?_getD, List.getElem?_eq_getElem hj]
  rfl
set_option maxRecDepth 100000 in
set_option maxHeartbeats 8000000 in
theorem stableSynced_t (a0 : Option Addr) (n0 c0 : Nat) (os0 : List OpS) (a1 : Option Addr) (n1 c1 : Nat) (os1 : List OpS) (z : Int) (w : World) (hI0 : SIn w a0 n0 c0 os0) (hn0 : n0 ≤ 1152921504606846976) (hI1 : SIn w a1 n1 c1 os1) (hn1 : n1 ≤ 1152921504606846976) (hz : -9223372036854775808 ≤ z ∧ z ≤ 9223372036854775807) :
    Calls Try.prog 6 #[.slice a0 n0 c0, .slice a1 n1 c1, .int .i64 z] w fun e w' => e = .returned (.bool true) ∧ Below w.heap.size w w' := by
  have CA := Lib.hid (alive_c w)
  have I0 := Lib.hid hI0
  have I1 := Lib.hid hI1
  have hr0 := hI0.room
  have hr1 := hI1.room
  have en := nilNe
  clear hI0 hI1
  go_enter Try.func6, Try.ntmps6
  go_wp2_with fail
  refine CA.out.mono ?_
  rintro e w1 ⟨rfl, hb1⟩
  have HB1 := Lib.hid hb1
  have CL := Lib.hid (longS_t a0 n0 c0 os0 w1 (I0.out.below hb1) hn0)
  clear hb1 CA
  go_wp2_with fail
  refine CL.out.mono ?_
  rintro e w2 ⟨z1, rfl, hb, hs0⟩
  have HB2 := Lib.hid (bl_tr HB1.out hb)
  have HS0 := Lib.hid hs0
  clear hb CL hs0
  cases z1 with
  | true =>
    clear hz
    go_wp2
    go_ret
    exact ⟨rfl, HB2.out⟩
  | false =>
  have hm0 := (HS0.out rfl).1
  have CL := Lib.hid (longS_t a1 n1 c1 os1 w2 (I1.out.below HB2.out) hn1)
  go_wp2_with fail
  refine CL.out.mono ?_
  rintro e w3 ⟨z2, rfl, hb, hs1⟩
  have HB3 := Lib.hid (bl_tr HB2.out hb)
  have HS1 := Lib.hid hs1
  clear hb CL hs1
  cases z2 with
  | true =>
    clear hz
    go_wp2
    go_ret
    exact ⟨rfl, HB3.out⟩
  | false =>
  have hm1 := (HS1.out rfl).1
  by_cases hz0 : z < 0
  · clear hz
    go_wp2
    go_ret
    exact ⟨rfl, HB3.out⟩
  by_cases hz1 : 1048576 < z
  · clear hz
    go_wp2
    go_ret
    exact ⟨rfl, HB3.out⟩
  have CN := Lib.hid (new_c z w3)
  have HZ : Hid (OkZ z) := Lib.hid ⟨by omega, by omega⟩
  clear hz hn0 hn1
  go_wp2_with fail
  refine CN.out.mono ?_
  rintro e w4 hW
  obtain ⟨p, rfl, hO, _⟩ := SOn.made (w0 := w) (K := fun _ => False) HZ.out HB3.out (fun _ h => h.elim) hW
  have HO4 := Lib.hid hO
  clear hW hO CN
  go_wp2
  go_loopw [10, 47] (fun _ i wr => ∃ (j : Nat) (l m : List Pr), j ≤ n0 ∧ i = .int .i64 j ∧ Hid (SOn w wr p z l m (fun _ => False))) (fun _ i _ => n0 - (intOf i).toNat)
  case atStart => exact ⟨0, [], [], by omega, rfl, HO4⟩
  case round =>
    obtain ⟨j, l, m, hj, rfl, HO⟩ := hrel
    clear HO4
    by_cases hlj : j < n0
    · have hIr := I0.out.below HO.out.bel
      obtain ⟨o, ho⟩ : ∃ o, o = os0.getD j opS := ⟨_, rfl⟩
      obtain ⟨b, off, eb, e0, e1, e2, e3, e4⟩ := hIr.at hlj ho
      subst eb
      have hO := hIr.ops j hlj
      rw [← ho] at hO
      obtain ⟨X, hX⟩ : ∃ X, X = wr.alloc o.obj := ⟨_, rfl⟩
      have hox : BxS X wr.heap.size o := by rw [hX]; exact BxS.new wr o
      have hbX : Below wr.heap.size wr X := by rw [hX]; exact bl_al (Below.refl _ _) _
      have hOX := (HO.out.grow hbX).less (K2 := fun k => k = wr.heap.size) (fun k hk => .inr ⟨by omega, by rw [hk]; exact hox.lt⟩)
      obtain ⟨q, hq⟩ : ∃ q, q = wr.heap.size := ⟨_, rfl⟩
      rw [← hq] at hox hOX
      obtain ⟨x0, x1, x2, x3, x4⟩ := hox.cs
      have CP := Lib.hid (hOX.put1 o.k hO.key (hO.row.below hbX) hO.small.1)
      have HKY := Lib.hid hO.key
      have HX := Lib.hid (show X = wr.alloc (.cells #[.int .i64 o.kind, sv o.k, .slice o.ma o.mn o.mc, .slice o.ra o.rn o.rc, .int .i64 o.cut] tyO) from hX)
      have HQ := Lib.hid hq
      have HBX := Lib.hid hox
      have ilj : (j : Int) < (n0 : Int) := by omega
      have j0 : (0 : Int) ≤ (j : Int) := by omega
      have ilc : (n0 : Int) ≤ (c0 : Int) := by omega
      clear hIr ho hX hox hbX hOX hq hO HO
      go_upto_region 11 with fail
      rw [← HX.out, ← HQ.out]
      clear HX HQ e0 e1 e2 e3 e4
      go_wp2_with fail
      refine CP.out.mono ?_
      rintro e w5 ⟨rfl, hO, hk⟩
      have hbx := HBX.out.kpt hk rfl
      obtain ⟨y0, y1, _⟩ := hbx.cs
      have HO5 := Lib.hid hO
      clear hO hk hbx CP HBX x0 x1 x2 x3 x4
      by_cases hkd : o.kind = 1
      · have hq1 : (o.kind == 1) = true := by rw [hkd]; rfl
        have CD := Lib.hid (HO5.out.drop1 o.k HKY.out)
        go_wp2_with fail
        refine CD.out.mono ?_
        rintro e w6 ⟨⟨num, rfl⟩, hO, _⟩
        have HO6 := Lib.hid (hO.less (K2 := fun _ => False) (fun _ h => h.elim))
        clear hO CD HO5 y0 y1 hkd hq1
        go_wp2
        go_roundw
        case rel => exact ⟨j + 1, _, _, by omega, by go_num, HO6⟩
        case measure => simp [intOf]; omega
      · have HO6 := Lib.hid (HO5.out.less (K2 := fun _ => False) (fun _ h => h.elim))
        clear HO5
        go_wp2
        go_roundw
        case rel => exact ⟨j + 1, _, _, by omega, by go_num, HO6⟩
        case measure => simp [intOf]; omega
    · have ilj : ¬ ((j : Int) < (n0 : Int)) := by omega
      have CS := Lib.hid HO.out.sync
      clear HO
      go_wp2_with fail
      refine CS.out.mono ?_
      rintro e w6 ⟨rfl, hO, _⟩
      have HO6 := Lib.hid hO
      have CS2 := Lib.hid hO.sync
      rw [unlike_self hO.facts.1.1] at CS2
      clear hO CS
      go_wp2_with fail
      refine CS2.out.mono ?_
      rintro e w7 ⟨rfl, hO, _⟩
      have HO7 := Lib.hid hO
      obtain ⟨b7, hb7⟩ : ∃ b, b = w7.heap.size := ⟨_, rfl⟩
      have hbA : Below w7.heap.size w7 (w7.alloc (.cells #[] tyP)) := bl_al (Below.refl _ _) _
      have own0 : (w7.alloc (.cells #[] tyP)).ownsRow b7 tyP 2 (.slice (some ⟨b7, 0, none⟩) 0 0) 0 [] := by rw [hb7]; exact World.ownsRow_made w7 #[] 0 (Nat.le_refl _) (by decide) rfl
      have HP0 : Hid (PsV (w7.alloc (.cells #[] tyP)) (fun k => b7 ≤ k) b7 (.slice (some ⟨b7, 0, none⟩) 0 0) []) := Lib.hid ⟨own0, by simp, fun g hg => by cases hg; exact Nat.le_refl _⟩
      have CK := Lib.hid ((hO.new hbA).1.keys)
      have HBA := Lib.hid hbA
      have HB7 := Lib.hid hb7
      clear hO CS2 hbA own0 hb7
      go_wp2_with fail
      rw [← HB7.out]
      refine CK.out.mono ?_
      rintro e w9 ⟨v, rfl, hrow, ht⟩
      obtain ⟨ko, kc, rfl⟩ := own_form hrow
      have HP9 := Lib.hid (HP0.out.tch ht (fun _ _ h => h) (fun _ h => h.elim))
      have HB9 := Lib.hid (bl_tr HBA.out (non_below ht))
      have HK9 : Hid (w9.ownsRow b7 tyK 1 (.slice ko l.length kc) l.length (l.map (fun e => sv e.k))) := Lib.hid (own_base hrow (by have := HBA.out.size; have := HB7.out; omega))
      have hll := HO7.out.lens.1
      clear hrow ht CK HP0 HBA HO6
      go_wp2
      go_loopw [11, 13, 14, 15, 76] (fun v _ _ _ i wr => ∃ (j : Nat) (ps : List Pv), j ≤ l.length ∧ i = .int .i64 j ∧ Hid (ps.map (·.1) = l.take j) ∧ Hid (PsV wr (fun k => b7 ≤ k) b7 v ps) ∧ Hid (Below w7.heap.size w7 wr) ∧ Hid (wr.ownsRow b7 tyK 1 (.slice ko l.length kc) l.length (l.map (fun e => sv e.k)))) (fun _ _ _ _ i _ => l.length - (intOf i).toNat)
      case atStart => exact ⟨0, [], by omega, rfl, Lib.hid rfl, HP9, HB9, HK9⟩
      case round =>
        obtain ⟨j2, ps, hj2, rfl, HM, HP, HB, HK⟩ := hrel
        clear HP9 HB9 HK9
        by_cases hlj2 : j2 < l.length
        · have hO := (HO7.out.new HB.out).1
          obtain ⟨gk, ek, hkc, hck⟩ := at_key HK.out hlj2
          subst ek
          have hmem : l.getD j2 pr0 ∈ l := by rw [List.getD_eq_getElem?_getD, List.getElem?_eq_getElem hlj2]; exact List.getElem_mem hlj2
          have hf := findP_of_mem hO.facts.1.1 hmem
          have hok := hO.facts.2.1.1 _ hmem
          have HTK := Lib.hid (take_snocP hlj2)
          obtain ⟨x, hx⟩ : ∃ x, x = l.getD j2 pr0 := ⟨_, rfl⟩
          rw [← hx] at hck hf hok HTK
          have CG := Lib.hid (hO.get x.k (by have := hok.k.2; unfold maxLen; omega))
          rw [hf] at CG
          have HFX := Lib.hid hok.b
          have HKC := Lib.hid hck
          have hpl : ps.length = j2 := by have h1 := congrArg List.length HM.out; rw [List.length_map, List.length_take] at h1; omega
          have HPL := Lib.hid hpl
          have ilj2 : (j2 : Int) < (l.length : Int) := by omega
          have j20 : (0 : Int) ≤ (j2 : Int) := by omega
          have ilk : (l.length : Int) ≤ (kc : Int) := by omega
          clear hO hmem hf hok hx hpl
          go_wp2_with fail
          refine CG.out.mono ?_
          rintro e w10 hG
          obtain ⟨b1, c1, rfl, hrow, ht⟩ := hG.yes'
          have hbt := non_below ht
          have hbs : b7 ≤ wr.heap.size := by have := HB.out.size; have := HB7.out; omega
          have hPx := HP.out.tch ht (fun _ _ h => h) (fun _ h => h.elim)
          have hal : Below w10.heap.size w10 (w10.alloc (.cells #[sv x.k, .slice b1 x.b.length c1] tyP)) := bl_al (Below.refl _ _) _
          have hPa := hPx.tch (tch_new hal) (fun _ _ h => h) (fun _ h => h.elim)
          have hRx : RowF (w10.alloc (.cells #[sv x.k, .slice b1 x.b.length c1] tyP)) (fun k => b7 ≤ k) b7 (.slice b1 x.b.length c1) x.b := ⟨own_base ((tch_new hal).own hrow (fun _ _ h => h)) hbs, HFX.out, fun g hg => Nat.le_trans hbs (hrow.lt g hg).1⟩
          have hKa := (tch_new hal).own (ht.own HK.out (fun _ _ h => h)) (fun _ _ h => h)
          obtain ⟨av, cv, hav⟩ := own_form hPa.row
          have HPA := Lib.hid hPa
          have HRX := Lib.hid hRx
          have HKA := Lib.hid hKa
          have HBX := Lib.hid (bl_tr (bl_tr HB.out hbt) hal)
          have HBS := Lib.hid (show b7 ≤ (w10.alloc (.cells #[sv x.k, .slice b1 x.b.length c1] tyP)).heap.size by have := hbt.size; have := hal.size; omega)
          obtain ⟨i0, hi0, hy0, hy1, hy2⟩ := info_parts infoP
          have HCP := Lib.hid (cells_pair w10 (sv x.k) (.slice b1 x.b.length c1))
          have hpn : ps.length ≤ 67108864 := by have := HPL.out; omega
          clear hG hrow ht hbt hPx hal hPa hRx hKa hav hck CG
          go_wp2_with (at_builtin; refine append_any rfl _ _ 70 rfl b7 tyP i0 (.agg #[.string ⟨#[]⟩, .slice none 0 0]) 2 40 Try.underlying70 hi0 hy0 hy1 hy2 rfl (by decide) _ ps.length (cellsP ps) rfl HPA.out.row (some ⟨w10.heap.size, 0, none⟩) 1 1 [sv x.k, .slice b1 x.b.length c1] rfl (fun e => by cases e) rfl HCP.out ?c1 ?c2 ?c3 HBS.out ?_)
          case c1 => intro u hu; simp at hu; rcases hu with rfl | rfl <;> rfl
          case c2 => unfold maxLen; omega
          case c3 => omega
          intro v' w11 ho hg
          have HP11 : Hid (PsV w11 (fun k => b7 ≤ k) b7 v' (ps ++ [(x, .slice b1 x.b.length c1)])) := Lib.hid (HPA.out.app HRX.out ho hg (fun g hg => (ho.lt g hg).1))
          have HM2 : Hid ((ps ++ [((x, .slice b1 x.b.length c1) : Pv)]).map (·.1) = l.take (j2 + 1)) := Lib.hid (by rw [List.map_append, HM.out, HTK.out]; rfl)
          have HB11 := Lib.hid (HBX.out.grown hg HBX.out.size (fun k hk => by have := (HPA.out.row.lt k hk).1; have := HB7.out; omega))
          have HK11 := Lib.hid ((tch_grown hg).own HKA.out (fun g h1 h2 => own_kinds HPA.out.row HKA.out (by decide) g h2.symm h1))
          clear ho hg HPA HRX HKA HBX HBS HCP HM HTK HKC
          go_wp2
          go_roundw
          case rel => exact ⟨j2 + 1, _, by omega, by go_num, HM2, HP11, HB11, HK11⟩
          case measure => simp [intOf]; omega
        · have ilj2 : ¬ ((j2 : Int) < (l.length : Int)) := by omega
          have HMM : Hid (ps.map (·.1) = l) := Lib.hid (by rw [HM.out, List.take_of_length_le (by omega)])
          have HPT := Lib.hid HP.out.tight
          have HOr := Lib.hid (HO7.out.grow HB.out)
          obtain ⟨bz, hbz⟩ : ∃ bz, bz = wr.heap.size := ⟨_, rfl⟩
          rw [← HB7.out, ← hbz] at HOr
          rw [← hbz] at HPT
          obtain ⟨av, cv, hav⟩ := own_form HPT.out.row
          subst hav
          clear hbz HM HP HK HB HO7
          go_wp2
          go_loopw [17, 95] (fun _ i wx => ∃ (j : Nat) (l2 : List Pr), j ≤ n1 ∧ i = .int .i64 j ∧ Hid (SOn w wx p z l2 l (fun k => False ∨ b7 ≤ k ∧ k < bz)) ∧ Hid (PsV wx (fun k => b7 ≤ k ∧ k < bz) b7 (.slice av ps.length cv) ps)) (fun _ i _ => n1 - (intOf i).toNat)
          case atStart => exact ⟨0, l, by omega, rfl, HOr, HPT⟩
          case round =>
            obtain ⟨j3, l2, hj3, rfl, HO, HP⟩ := hrel
            clear HOr HPT
            by_cases hlj3 : j3 < n1
            · have hIr := I1.out.below HO.out.bel
              obtain ⟨o, ho⟩ : ∃ o, o = os1.getD j3 opS := ⟨_, rfl⟩
              obtain ⟨b, off, eb, e0, e1, e2, e3, e4⟩ := hIr.at hlj3 ho
              subst eb
              have hO := hIr.ops j3 hlj3
              rw [← ho] at hO
              obtain ⟨X, hX⟩ : ∃ X, X = wr.alloc o.obj := ⟨_, rfl⟩
              have hox : BxS X wr.heap.size o := by rw [hX]; exact BxS.new wr o
              have hbX : Below wr.heap.size wr X := by rw [hX]; exact bl_al (Below.refl _ _) _
              have hOX := (HO.out.grow hbX).less (K2 := fun k => (b7 ≤ k ∧ k < bz) ∨ k = wr.heap.size) (fun k hk => by
                rcases hk with hk | hk
                · exact .inl (.inr hk)
                · exact .inr ⟨by omega, by rw [hk]; exact hox.lt⟩)
              have HPX := Lib.hid (HP.out.tch (tch_new hbX) (fun _ _ h => h) (fun _ h => h.elim))
              obtain ⟨q, hq⟩ : ∃ q, q = wr.heap.size := ⟨_, rfl⟩
              rw [← hq] at hox hOX
              obtain ⟨x0, x1, x2, x3, x4⟩ := hox.cs
              have CP := Lib.hid (hOX.put1 o.k hO.key (hO.row.below hbX) hO.small.1)
              have CD := Lib.hid (hOX.drop1 o.k hO.key)
              have HX := Lib.hid (show X = wr.alloc (.cells #[.int .i64 o.kind, sv o.k, .slice o.ma o.mn o.mc, .slice o.ra o.rn o.rc, .int .i64 o.cut] tyO) from hX)
              have HQ := Lib.hid hq
              have ilj3 : (j3 : Int) < (n1 : Int) := by omega
              have j30 : (0 : Int) ≤ (j3 : Int) := by omega
              have ilc : (n1 : Int) ≤ (c1 : Int) := by omega
              clear hIr ho hX hox hbX hOX hq hO HO HP
              go_upto_region 28 with fail
              rw [← HX.out, ← HQ.out]
              clear HX HQ e0 e1 e2 e3 e4
              by_cases hkd : o.kind = 1
              · have hq1 : (o.kind == 1) = true := by rw [hkd]; rfl
                go_wp2_with fail
                refine CD.out.mono ?_
                rintro e w6 ⟨⟨num, rfl⟩, hO, hk⟩
                have HO6 := Lib.hid (hO.less (K2 := fun k => False ∨ b7 ≤ k ∧ k < bz) (fun k hk => by rcases hk with hk | hk; exact hk.elim; exact .inl hk))
                have HP6 := Lib.hid (HPX.out.kpt (hk.less (fun k hk => .inl hk)))
                clear hO hk CD CP HPX x0 x1 x2 x3 x4 hkd hq1
                go_wp2
                go_roundw
                case rel => exact ⟨j3 + 1, _, by omega, by go_num, HO6, HP6⟩
                case measure => simp [intOf]; omega
              · go_wp2_with fail
                refine CP.out.mono ?_
                rintro e w6 ⟨rfl, hO, hk⟩
                have HO6 := Lib.hid (hO.less (K2 := fun k => False ∨ b7 ≤ k ∧ k < bz) (fun k hk => by rcases hk with hk | hk; exact hk.elim; exact .inl hk))
                have HP6 := Lib.hid (HPX.out.kpt (hk.less (fun k hk => .inl hk)))
                clear hO hk CD CP HPX x0 x1 x2 x3 x4 hkd
                go_wp2
                go_roundw
                case rel => exact ⟨j3 + 1, _, by omega, by go_num, HO6, HP6⟩
                case measure => simp [intOf]; omega
            · have ilj3 : ¬ ((j3 : Int) < (n1 : Int)) := by omega
              have CC := Lib.hid HO.out.crash
              clear HO
              go_wp2_with fail
              refine CC.out.mono ?_
              rintro e w12 ⟨rfl, hO, hk⟩
              have hP := HP.out.kpt (hk.less (fun k hk => .inr hk))
              have hsr := hO.facts.1.1
              have hO' := hO
              rw [← HMM.out] at hO'
              have CE := Lib.hid (same_t hO' hP rfl)
              have HO12 := Lib.hid hO
              have HP12 := Lib.hid hP
              have HSR := Lib.hid (unlike_self hsr)
              clear hO hO' hk hP hsr CC HP
              go_wp2_with fail
              refine CE.out.mono ?_
              rintro e w13 ⟨rfl, ht⟩
              have HO13 := Lib.hid (HO12.out.new (non_below ht)).1
              have HP13 := Lib.hid (HP12.out.tch ht (fun _ _ h => h) (fun _ h => h.elim))
              have CC := Lib.hid HO13.out.crash
              rw [HSR.out] at CC
              clear ht CE HO12 HP12
              go_wp2_with fail
              refine CC.out.mono ?_
              rintro e w14 ⟨rfl, hO, hk⟩
              have hP := HP13.out.kpt (hk.less (fun k hk => .inr hk))
              have HB14 := Lib.hid hO.bel
              rw [← HMM.out] at hO
              have CE := Lib.hid (same_t hO hP rfl)
              clear hO hk hP CC HO13 HP13
              go_wp2_with fail
              refine CE.out.mono ?_
              rintro e w15 ⟨rfl, ht⟩
              have HB15 := Lib.hid (bl_tr HB14.out (non_below ht))
              clear ht CE
              go_wp2
              go_ret
              exact ⟨rfl, HB15.out⟩
end Go.Proofs.Ytpbgccidhpfmgaa
