/- Accept. Conditions: those stated. -/
import Derived.Test.YtnhnpfhfcbmmlaaVfB
namespace Go.Proofs.Ytnhnpfhfcbmmlaa
open Go Go.RowKit
set_option linter.unusedVariables false
set_option linter.unusedSimpArgs false

def accP (b : Bl) (lg : List Cm) : List Pr := [⟨kPr, brow b⟩, ⟨kVt, brow b ++ bytesL lg⟩]
/-- The code of an Accept. -/
def accN (size : Int) (b pr : Bl) (lg : List Cm) (l : List Pr) : Int := if GoodL lg then (if hearN b pr = 0 then ((saveP size (accP b lg) l).1 : Int) else hearN b pr) else 9
/-- The blocks that a log's reading needs lie in K. -/
def LgK (a : Option Addr) (n : Nat) (vs : List Value) (K : Nat → Prop) : Prop := (∀ ad, a = some ad → 0 < n → K ad.block) ∧ ∀ j, j < n → ∀ ad k c, vs.getD j undef = .slice (some ad) k c → 0 < k → K ad.block
theorem InC.kptw {K : Nat → Prop} {w w' : World} {a : Option Addr} {n cap : Nat} {ls : List Cm} {vs : List Value} (h : InC w a n cap ls vs) (hk : Kpt K w w') (hK : LgK a n vs K) : InC w' a n cap ls vs := by
  refine ⟨h.len, h.vlen, h.room, h.none, ?_, fun j hj => ?_, h.typ⟩
  · rcases h.here with h0 | ⟨b, off, ha, hc⟩
    · exact .inl h0
    · by_cases hn : 0 < n
      · exact .inr ⟨b, off, ha, fun t u hu => hk.cell (hc t u hu) (hK.1 ⟨b, off, .none⟩ ha hn)⟩
      · exact .inl (List.eq_nil_of_length_eq_zero (by have := h.len; omega))
  · obtain ⟨ao, k, c, e, hE⟩ := h.ends j hj
    exact ⟨ao, k, c, e, hE.kpt hk (fun ad e2 h2 => hK.2 j hj ad k c (by rw [e, e2]) h2)⟩
theorem OwC.blk {w : World} {B c : Nat} {ls : List Cm} {ao : Option Addr} {vs : List Value} (h : OwC w B ls ao c vs) : ∀ k, BkC ao vs k → B ≤ k ∧ k < w.heap.size := by
  have go : ∀ {e : TypeId} {size n : Nat} {xs : List Value} {ad : Addr} {m c2 : Nat}, w.ownsRow B e size (.slice (some ad) m c2) n xs → B ≤ ad.block ∧ ad.block < w.heap.size := by
    intro e size n xs ad m c2 ho
    rcases ho.2 with ⟨e, _⟩ | ⟨g, cap, cur, hv, h1, h2, h3⟩
    · cases e
    · cases hv
      exact ⟨h1, lt_of_block h2⟩
  rintro k (⟨ad, ha, rfl⟩ | ⟨v, hv, ad, n, c2, e, rfl⟩)
  · have := h.own
    rw [ha] at this
    exact go this
  · obtain ⟨j, hj, hvj⟩ := List.getElem_of_mem hv
    have hj2 : j < ls.length := by rw [← h.vlen]; exact hj
    obtain ⟨a2, c3, e2, ho⟩ := h.ends j hj2
    have e3 : vs.getD j undef = v := by rw [List.getD_eq_getElem?_getD, List.getElem?_eq_getElem hj]; exact hvj
    rw [e3, e] at e2
    rw [← e2] at ho
    exact go ho
theorem psIn_two {w : World} {K : Nat → Prop} {k k2 : Ky} {r r2 : List Int} {a a2 : Option Addr} {n c n2 c2 : Nat} (hI : In w a n c r) (hI2 : In w a2 n2 c2 r2) (hK : ∀ ad, a = some ad → 0 < n → K ad.block) (hK2 : ∀ ad, a2 = some ad → 0 < n2 → K ad.block) (hb : K w.heap.size) : PsIn (w.alloc (.cells #[sv k, .slice a n c, sv k2, .slice a2 n2 c2] tyPr)) K (some ⟨w.heap.size, 0, none⟩) 2 2 [⟨k, r⟩, ⟨k2, r2⟩] [.slice a n c, .slice a2 n2 c2] := by
  refine ⟨rfl, rfl, Nat.le_refl _, .inr ⟨w.heap.size, 0, rfl, hb, fun t u hu => ?_⟩, fun j hj => ?_⟩
  · rw [World.cell?_alloc_mark, Nat.zero_add]
    have : (#[sv k, .slice a n c, sv k2, .slice a2 n2 c2] : Array Value) = (cellsPr [(⟨k, r⟩ : Pr), ⟨k2, r2⟩] [.slice a n c, .slice a2 n2 c2]).toArray := rfl
    rw [this, List.getElem?_toArray]
    exact hu
  · match j, hj with
    | 0, _ => exact ⟨a, n, c, rfl, hI.below (bl_al (Below.refl _ _) _), hK⟩
    | 1, _ => exact ⟨a2, n2, c2, rfl, hI2.below (bl_al (Below.refl _ _) _), hK2⟩
theorem cell_set5 {w : World} {p i q : Nat} {v : Value} (h : w.cell? ⟨p, i, none⟩ = some v) (hne : p ≠ q) (a b c d e : Value) : (((((w.setCell ⟨q, 0, none⟩ a).setCell ⟨q, 1, none⟩ b).setCell ⟨q, 2, none⟩ c).setCell ⟨q, 3, none⟩ d).setCell ⟨q, 4, none⟩ e).cell? ⟨p, i, none⟩ = some v := by
  have hT : Tch (· = q) w (((((w.setCell ⟨q, 0, none⟩ a).setCell ⟨q, 1, none⟩ b).setCell ⟨q, 2, none⟩ c).setCell ⟨q, 3, none⟩ d).setCell ⟨q, 4, none⟩ e) := tch_one (tch_one (tch_one (tch_one (tch_set w ⟨q, 0, none⟩ a) (fun _ h => h) 1 b) (fun _ h => h) 2 c) (fun _ h => h) 3 d) (fun _ h => h) 4 e
  exact hT.cell h hne
/-- A voter whose record is written anew. -/
theorem VX.setAll {w0 w w8 : World} {p s : Nat} {size : Int} {l m : List Pr} {pr ac : Bl} {ls : List Cm} {node : Int} {K : Nat → Prop} {ao : Option Addr} {c : Nat} {vs : List Value} (h : VX w0 w p s size l m pr ac ls node K ao c vs) (hb8 : Below w.heap.size w w8) (b : Bl) (hb : TyB b) {lg : List Cm} {a8 : Option Addr} {c8 : Nat} {v8 : List Value} (ho : OwC w8 w.heap.size lg a8 c8 v8) (ht : ∀ x ∈ lg, TyC x) (hf : lg.length ≤ 256 ∧ ∀ x ∈ lg, x.es.length ≤ 64) :
    VX w0 (((((w8.setCell ⟨p, 0, none⟩ (.int .i64 b.n)).setCell ⟨p, 1, none⟩ (.int .i64 b.node)).setCell ⟨p, 2, none⟩ (.int .i64 b.n)).setCell ⟨p, 3, none⟩ (.int .i64 b.node)).setCell ⟨p, 4, none⟩ (.slice a8 lg.length c8)) p s size l m b b lg node K a8 c8 v8 ∧ Tch (· = p) w8 (((((w8.setCell ⟨p, 0, none⟩ (.int .i64 b.n)).setCell ⟨p, 1, none⟩ (.int .i64 b.node)).setCell ⟨p, 2, none⟩ (.int .i64 b.n)).setCell ⟨p, 3, none⟩ (.int .i64 b.node)).setCell ⟨p, 4, none⟩ (.slice a8 lg.length c8)) := by
  have hT : Tch (· = p) w8 (((((w8.setCell ⟨p, 0, none⟩ (.int .i64 b.n)).setCell ⟨p, 1, none⟩ (.int .i64 b.node)).setCell ⟨p, 2, none⟩ (.int .i64 b.n)).setCell ⟨p, 3, none⟩ (.int .i64 b.node)).setCell ⟨p, 4, none⟩ (.slice a8 lg.length c8)) := tch_one (tch_one (tch_one (tch_one (tch_set w8 ⟨p, 0, none⟩ _) (fun _ h => h) 1 _) (fun _ h => h) 2 _) (fun _ h => h) 3 _) (fun _ h => h) 4 _
  have hob8 : VOb w8 p pr ac (.slice ao ls.length c) s node := (hb8.block p h.ob.lt).trans h.ob
  have h0 := put_row (i := 0) hob8 (.int .i64 b.n)
  have h1 := put_row (i := 1) h0 (.int .i64 b.node)
  have h2 := put_row (i := 2) h1 (.int .i64 b.n)
  have h3 := put_row (i := 3) h2 (.int .i64 b.node)
  have h4 := put_row (i := 4) h3 (.slice a8 lg.length c8)
  have hbk := ho.blk
  have hlt := h.ob.lt
  have hst := (h.st.grow hb8).write hT (fun k hk => ⟨.inl (.inr (.inl hk)), by rw [hk]; exact h.base⟩)
  refine ⟨⟨h4, (ho.in ht).keep hT (fun k hk e => by have := (hbk k hk).1; omega), hst.less (fun k hk => ?_), fun k hk hK => ?_, h.base, ⟨hb, hb, h.typ.2.2⟩, hf, fun k hk e => by have := (hbk k hk).1; omega⟩, hT⟩
  · rcases hk with hk | hk | hk
    · exact .inl (.inl hk)
    · exact .inl (.inr (.inl hk))
    · exact .inr (hbk k hk)
  · rcases hk with hk | hk
    · exact h.apart k (.inl hk) hK
    · have h5 := (hbk k hk).1
      have h6 := h.lts k (.inl hK)
      omega
structure AcO (w0 w : World) (p s : Nat) (size : Int) (l m : List Pr) (pr ac : Bl) (ls : List Cm) (node : Int) (K : Nat → Prop) (b : Bl) (lg : List Cm) (w' : World) : Prop where
  no : accN size b pr lg l ≠ 0 → VOn w0 w' p s size l m pr ac ls node K
  yes : accN size b pr lg l = 0 → VOn w0 w' p s size (saveP size (accP b lg) l).2 (saveP size (accP b lg) l).2 b b lg node K
  kpt : Kpt K w w'
set_option maxRecDepth 100000 in
set_option maxHeartbeats 8000000 in
theorem accept_c (w0 w : World) (p s : Nat) (size : Int) (l m : List Pr) (pr ac : Bl) (ls : List Cm) (node : Int) (K : Nat → Prop) (b : Bl) (hb : TyB b) (h : VOn w0 w p s size l m pr ac ls node K) (lg : List Cm) (a : Option Addr) (n c : Nat) (us : List Value) (hI : InC w a n c lg us) (hK : LgK a n us K) (hn : n ≤ 4611686018427387904) :
    Calls Try.prog 33 #[.pointer (some ⟨p, 0, none⟩), b.val, .slice a n c] w fun e w' => e = .returned (errF (accN size b pr lg l)) ∧ AcO w0 w p s size l m pr ac ls node K b lg w' := by
  have hbel := h.bel.size
  have HKL : Hid (∀ k, K k → k < w.heap.size) := Lib.hid (by obtain ⟨ao, c, vs, hx⟩ := h; exact fun k hk => hx.lts k (.inl hk))
  obtain ⟨w1, hw1⟩ : ∃ W, W = w.alloc b.obj := ⟨_, rfl⟩
  have hX := bxB_new w b
  rw [← hw1] at hX
  have hb1 : Below w.heap.size w w1 := by rw [hw1]; exact bl_al (Below.refl _ _) _
  have hs1 : w1.heap.size = w.heap.size + 1 := by rw [hw1]; simp
  obtain ⟨q, hq⟩ : ∃ q, q = w.heap.size := ⟨_, rfl⟩
  rw [← hq] at hX
  have HQ : Hid (q = w.heap.size ∧ w1.heap.size = q + 1 ∧ w0.heap.size ≤ q) := Lib.hid ⟨hq, by omega, by omega⟩
  have HW1 := Lib.hid (And.intro hw1 hq)
  have HX1 := Lib.hid hX
  have HB1 := Lib.hid hb1
  have HTB := Lib.hid hb
  have HV := Lib.hid h
  have HI := Lib.hid hI
  have HLK := Lib.hid hK
  have hlen := hI.len
  have CW := Lib.hid (wr_c lg us a n c w1 (hI.below hb1) hn)
  have NEW : ∀ w3, Below w.heap.size w w3 → accN size b pr lg l ≠ 0 → AcO w0 w p s size l m pr ac ls node K b lg w3 := fun w3 hb3 h0 => ⟨fun _ => (h.new hb3).1, fun h => absurd h h0, (h.new hb3).2⟩
  have NEW := Lib.hid NEW
  obtain ⟨d0, d1⟩ := hX.at
  clear hw1 hX hb1 hs1 hq hb h hI hK hbel
  go_enter Try.func33, Try.ntmps33
  go_upto_region 1 with fail
  rw [show w.alloc (.cells #[.int .i64 b.n, .int .i64 b.node] tyB2) = w1 from HW1.out.1.symm, ← HW1.out.2]
  go_wp2_with fail
  refine CW.out.mono ?_
  intro e w2 hW
  by_cases hg : GoodL lg
  · obtain ⟨a2, c2, rfl, hO2⟩ := hW.yes hg
    have hb2 := hW.bel
    obtain ⟨m2, hm2⟩ : ∃ m2, m2 = (bytesL lg).length := ⟨_, rfl⟩
    rw [← hm2] at hO2 ⊢
    have HI2 := Lib.hid (own_in hO2 hm2.symm (fit_bytesL lg))
    have HG := Lib.hid hg
    have HO2 := Lib.hid hO2
    have hm2L : m2 ≤ 2097152 := by
      have h1 := bytesL_len lg
      have h2 := ends_good hg.2.1
      have h3 := hg.1
      omega
    have HB2 := Lib.hid (bl_tr HB1.out hb2)
    have HX2 := Lib.hid (HX1.out.later hb2)
    have hV2 := (HV.out.new HB2.out).1
    obtain ⟨ao, cc, vs, hx⟩ := hV2
    have CH := hear_c w2 p s pr ac _ node b HTB.out hx.ob
    have hor : hearN b pr = 0 ∨ hearN b pr = 8 ∨ hearN b pr = 9 := by unfold hearN; split <;> first | (split <;> simp) | simp
    have q0 := nilNe
    have q8 := eight_neq
    have q9 := nine_neq
    obtain ⟨d0, d1⟩ := HX2.out.at
    have HB12 := Lib.hid hb2
    clear hW hO2 hb2 hm2 CW
    rcases hor with hh | hh | hh
    · rw [hh, show errF 0 = .nilIface from rfl] at CH
      have CH := Lib.hid CH
      have HH := Lib.hid hh
      clear hh hg hx
      go_wp2_with fail
      refine CH.out.mono ?_
      rintro e w3 ⟨rfl, hb3⟩
      have HX3 := Lib.hid (HX2.out.later hb3)
      obtain ⟨e0, e1⟩ := HX3.out.at
      have CR := Lib.hid (ballotRow_c b HTB.out w3)
      have HB3 := Lib.hid hb3
      clear d0 d1 CH hb3
      go_wp2_with fail
      refine CR.out.mono ?_
      rintro e w4 ⟨⟨a4, c4, rfl, hO4⟩, hb4⟩
      obtain ⟨n4, hn4⟩ : ∃ n4, n4 = (brow b).length := ⟨_, rfl⟩
      rw [← hn4] at hO4 ⊢
      have hI4 := own_in hO4 hn4.symm (fit_brow b)
      have hI24 := HI2.out.below (bl_tr HB3.out hb4)
      have hRS := RsIn.two hI4 hI24
      have hfl : [brow b, bytesL lg].flatten = brow b ++ bytesL lg := by simp
      have hfll : (brow b ++ bytesL lg).length = 16 + (bytesL lg).length := by rw [List.length_append, brow_len]
      have hm2e := HI2.out.len
      have CC0 := concat_c w4.heap.size 2 _ _ _ hRS (by omega) (by rw [hfl, hfll]; omega)
      rw [hfl] at CC0
      have CC := Lib.hid CC0
      have HI4 := Lib.hid hI4
      have HO4 := Lib.hid hO4
      have HB4 := Lib.hid hb4
      obtain ⟨n6, hn6⟩ : ∃ n6, n6 = (brow b ++ bytesL lg).length := ⟨_, rfl⟩
      rw [← hn6] at CC
      have HN6 := Lib.hid hn6
      have HN4 := Lib.hid hn4
      have hn6L : n6 ≤ 2097168 := by omega
      clear hO4 hb4 hI4 hI24 hRS hfl hfll CC0 hn6 hn4 CR e0 e1 hm2e
      go_wp2_with fail
      refine CC.out.mono ?_
      rintro e w6 ⟨⟨a6, c6, rfl, hO6⟩, hb6⟩
      have hb46 : Below w4.heap.size w4 w6 := bl_tr (bl_al (Below.refl _ _) _) hb6
      have hI6 := own_in hO6 HN6.out.symm (fit_app (fit_brow b) (fit_bytesL lg))
      obtain ⟨w7, hw7⟩ : ∃ w7, w7 = w6.alloc (.cells #[sv kPr, .slice a4 n4 c4, sv kVt, .slice a6 n6 c6] tyPr) := ⟨_, rfl⟩
      have hs7 : w7.heap.size = w6.heap.size + 1 := by rw [hw7]; simp
      have hb67 : Below w6.heap.size w6 w7 := by rw [hw7]; exact bl_al (Below.refl _ _) _
      have hb14 : Below w1.heap.size w1 w4 := bl_tr HB12.out (bl_tr HB3.out HB4.out)
      have hb17 : Below w1.heap.size w1 w7 := bl_tr hb14 (bl_tr hb46 hb67)
      have hbw7 : Below w.heap.size w w7 := bl_tr HB1.out hb17
      obtain ⟨K5, eK5⟩ : ∃ K5 : Nat → Prop, K5 = fun k => K k ∨ (w.heap.size ≤ k ∧ k < w7.heap.size) := ⟨_, rfl⟩
      have hV7 := HV.out.grow hbw7
      rw [← eK5] at hV7
      obtain ⟨ao, cc, vs, hX7⟩ := hV7
      have hKK5 : ∀ k, K k → K5 k := fun k hk => by rw [eK5]; exact .inl hk
      have hK5q : K5 q := by rw [eK5]; exact .inr ⟨by have := HQ.out; omega, by have := hb17.size; have := HQ.out; omega⟩
      obtain ⟨p7, hp7⟩ : ∃ p7, p7 = w6.heap.size := ⟨_, rfl⟩
      have h14 := hb14.size
      have h46 := hb46.size
      have h34 := HB4.out.size
      have h13 : w1.heap.size ≤ w3.heap.size := (bl_tr HB12.out HB3.out).size
      have hqq := HQ.out
      have hblk : ∀ {e : TypeId} {sz : Nat} {ax : Option Addr} {nx cx B : Nat} {xs : List Value} {W : World}, W.ownsRow B e sz (.slice ax nx cx) nx xs → w.heap.size ≤ B → W.heap.size ≤ w7.heap.size → ∀ ad, ax = some ad → 0 < nx → K5 ad.block := by
        intro e sz ax nx cx B xs W ho hB hs ad e2 h2
        obtain ⟨g, cap, hv, hg⟩ := own_shape ho h2
        cases hv
        cases e2
        have h3 := (ho.lt g rfl).2
        rw [eK5]
        exact .inr ⟨by show w.heap.size ≤ g; omega, by show g < w7.heap.size; omega⟩
      have hPS : PsIn w7 (fun k => K5 k ∨ VBk p ao vs k) (some ⟨p7, 0, none⟩) 2 2 (accP b lg) [.slice a4 n4 c4, .slice a6 n6 c6] := by
        rw [hw7, hp7]
        refine psIn_two (k := kPr) (k2 := kVt) (HI4.out.below hb46) hI6 (fun ad e h2 => .inl (hblk HO4.out (by omega) (by omega) ad e h2)) (fun ad e h2 => .inl (hblk hO6 (by have := (bl_al (Below.refl w4.heap.size w4) (.cells #[.slice a4 n4 c4, .slice a2 m2 c2] tyB)).size; omega) (by omega) ad e h2)) (.inl ?_)
        rw [eK5]
        exact .inr ⟨by omega, by omega⟩
      have hC7 : StC w7 p s := hX7.ob.cs.2.2.2.2.2.1
      have CS := Lib.hid (save_c w0 w7 p s size l m (fun k => K5 k ∨ VBk p ao vs k) hX7.st hC7 (.inr (.inl rfl)) (some ⟨p7, 0, none⟩) 2 2 (accP b lg) [.slice a4 n4 c4, .slice a6 n6 c6] hPS (by omega) (fun e he => by
        unfold accP at he
        rcases List.mem_cons.1 he with rfl | he
        · exact ⟨by show kPr.length ≤ 64; decide, by show (brow b).length ≤ _; rw [brow_len]; omega⟩
        · rw [List.mem_singleton] at he
          rw [he]
          exact ⟨by show kVt.length ≤ 64; decide, by show (brow b ++ bytesL lg).length ≤ _; rw [← HN6.out]; omega⟩) (show [kPr, kVt].Nodup by decide))
      obtain ⟨R, hR⟩ : ∃ R, R = saveP size (accP b lg) l := ⟨_, rfl⟩
      rw [← hR] at CS
      have HRR := Lib.hid hR
      have hro : R.1 = 0 ∨ R.1 = 5 ∨ R.1 = 9 := by
        rw [hR]
        by_cases h0 : (putsP size (accP b lg) (dropP (keysP (accP b lg)) l)).1 = 0
        · rw [saveP_ok h0]; exact .inl rfl
        · rw [saveP_no h0]; exact puts_or3 _ _ _
      obtain ⟨code, hcode⟩ : ∃ code, code = R.1 := ⟨_, rfl⟩
      rw [← hcode] at CS hro
      have HCD := Lib.hid hcode
      have HAN : Hid (accN size b pr lg l = (code : Int)) := Lib.hid (by unfold accN; rw [if_pos HG.out, if_pos HH.out, ← hR, ← hcode])
      have HX7 := Lib.hid hX7
      have HKK5 := Lib.hid hKK5
      have HQ7 := Lib.hid ((HX1.out.later hb17))
      have HK5q := Lib.hid hK5q
      have HBW7 := Lib.hid hbw7
      have HW7 : Hid (w7 = w6.alloc (.cells #[.string ⟨#[112, 114, 111, 109, 105, 115, 101]⟩, .slice a4 n4 c4, .string ⟨#[118, 111, 116, 101]⟩, .slice a6 n6 c6] tyPr) ∧ p7 = w6.heap.size) := Lib.hid ⟨hw7, hp7⟩
      clear hO6 hb6 hb46 hI6 hw7 hs7 hb67 hb14 hb17 hbw7 eK5 hX7 hKK5 hK5q hp7 hPS hC7 hR hcode h14 h46 h34 h13 hqq hblk CC
      go_wp2_with fail
      rw [← HW7.out.1, ← HW7.out.2]
      refine CS.out.mono ?_
      rintro e w8 ⟨rfl, hSv⟩
      rcases hro with hr | hr | hr
      · have hst8 := hSv.ok (by rw [← HCD.out]; exact hr)
        have hX8 := HX7.out.kpt hst8 hSv.kpt
        have hq8 : BxB w8 q b := (hSv.kpt q (.inl HK5q.out)).trans HQ7.out
        have hpq : q ≠ p := fun e => hX8.apart p (.inl rfl) (by rw [← e]; exact HK5q.out)
        have hk78 : Kpt K w7 w8 := hSv.kpt.less (fun k hk => .inl (HKK5.out k hk))
        have hI8 := (HI.out.below HBW7.out).kptw hk78 HLK.out
        have hgf : lg.length ≤ 256 ∧ ∀ x ∈ lg, x.es.length ≤ 64 := ⟨HG.out.1, fun x hx => goodC_es (HG.out.2.1 x hx)⟩
        have CL := Lib.hid (copyLog_c lg us a n c w8.drew (hI8.below (Below.refl _ _).drew) (by omega) (fun x hx => by have := hgf.2 x hx; omega))
        have hS0 : w8.drew.cell? ⟨q, 0, none⟩ = some (.int .i64 b.n) ∧ w8.drew.cell? ⟨q, 1, none⟩ = some (.int .i64 b.node) := ⟨hq8.at.1, hq8.at.2⟩
        have HX8 := Lib.hid hX8
        have HK78 := Lib.hid hk78
        have HGF := Lib.hid hgf
        subst hr
        rw [show errF ((0 : Nat) : Int) = .nilIface from rfl]
        clear hst8 hSv hX8 hq8 hk78 hI8 hgf CS
        go_upto_region 11 with fail
        go_region_held3 (fun wx => wx.cell? ⟨q, 0, none⟩ = some (.int .i64 b.n) ∧ wx.cell? ⟨q, 1, none⟩ = some (.int .i64 b.node)) (first | (with_reducible exact hS0) | (with_reducible assumption) | (with_reducible exact hS2 _ _ _ _ _) | fail)
          (first
            | (go_at_call 83; (with_reducible refine CL.out.mono ?_); rintro e w9 ⟨⟨a9, c9, v9, rfl, hO9⟩, hb9⟩; have hS1 := (show w9.cell? ⟨q, 0, none⟩ = some (.int .i64 b.n) ∧ w9.cell? ⟨q, 1, none⟩ = some (.int .i64 b.node) from ⟨cell_later hb9 hS0.1, cell_later hb9 hS0.2⟩); have hob9 := (show VOb w9 p pr ac (.slice ao ls.length cc) s node from (hb9.block p HX8.out.ob.lt).trans HX8.out.ob); have z0 := hob9.cs.1; have z1 := hob9.cs.2.1; have z2 := hob9.cs.2.2.1; have z3 := hob9.cs.2.2.2.1; have z4 := hob9.cs.2.2.2.2.1; have ff := hob9.free; have hS2 := (fun (x1 x2 x3 x4 x5 : Value) => And.intro (cell_set5 hS1.1 hpq x1 x2 x3 x4 x5) (cell_set5 hS1.2 hpq x1 x2 x3 x4 x5)))
            | fail)
        all_goals
          have hb89 : Below w8.heap.size w8 w9 := bl_tr (Below.refl _ _).drew hb9
          obtain ⟨hXN, hTN⟩ := HX8.out.setAll hb89 b HTB.out (hO9.base (show w8.heap.size ≤ w8.drew.heap.size from Nat.le_refl _)) HI.out.typ HGF.out
          have HF : Hid (AcO w0 w p s size l m pr ac ls node K b lg (((((w9.setCell ⟨p, 0, none⟩ (.int .i64 b.n)).setCell ⟨p, 1, none⟩ (.int .i64 b.node)).setCell ⟨p, 2, none⟩ (.int .i64 b.n)).setCell ⟨p, 3, none⟩ (.int .i64 b.node)).setCell ⟨p, 4, none⟩ (.slice a9 lg.length c9))) := Lib.hid ⟨fun h => absurd HAN.out h, fun _ => by
              rw [← HRR.out]
              exact VOn.less ⟨a9, c9, v9, hXN⟩ HKK5.out, by
              refine (HV.out.new HBW7.out).2.trans (HK78.out.trans (fun k hk => ?_))
              have h1 := HX8.out.lts k (.inl (HKK5.out k hk))
              have h2 := HX8.out.apart p (.inl rfl)
              rw [hTN.block k (Nat.lt_of_lt_of_le h1 hb89.size) (fun e => h2 (e ▸ HKK5.out k hk))]
              exact hb89.block k h1⟩
          rw [hlen] at HF
          clear hS0 hS1 hS2 hob9 z0 z1 z2 z3 z4 ff hO9 hb9 hb89 hXN hTN
          go_wp2
          go_ret
          exact ⟨by rw [HAN.out]; rfl, HF.out⟩
      · have hV8 : VOn w0 w8 p s size l m pr ac ls node K := (show VOn w0 w8 p s size l m pr ac ls node K5 from ⟨ao, cc, vs, HX7.out.kpt (hSv.no (by rw [← HCD.out, hr]; decide)) hSv.kpt⟩).less HKK5.out
        have HF : Hid (AcO w0 w p s size l m pr ac ls node K b lg w8) := Lib.hid ⟨fun _ => hV8, (fun h => by rw [HAN.out, hr] at h; cases h), (HV.out.new HBW7.out).2.trans (hSv.kpt.less (fun k hk => .inl (HKK5.out k hk)))⟩
        have q5 := five_neq
        subst hr
        rw [show errF ((5 : Nat) : Int) = errnoF 5 from rfl]
        clear hSv hV8 CS
        go_wp2
        go_ret
        exact ⟨by rw [HAN.out]; rfl, HF.out⟩
      · have hV8 : VOn w0 w8 p s size l m pr ac ls node K := (show VOn w0 w8 p s size l m pr ac ls node K5 from ⟨ao, cc, vs, HX7.out.kpt (hSv.no (by rw [← HCD.out, hr]; decide)) hSv.kpt⟩).less HKK5.out
        have HF : Hid (AcO w0 w p s size l m pr ac ls node K b lg w8) := Lib.hid ⟨fun _ => hV8, (fun h => by rw [HAN.out, hr] at h; cases h), (HV.out.new HBW7.out).2.trans (hSv.kpt.less (fun k hk => .inl (HKK5.out k hk)))⟩
        subst hr
        rw [show errF ((9 : Nat) : Int) = errnoF 9 from rfl]
        clear hSv hV8 CS
        go_wp2
        go_ret
        exact ⟨by rw [HAN.out]; rfl, HF.out⟩
    · rw [hh, show errF 8 = errnoF 8 from rfl] at CH
      have HE : Hid (accN size b pr lg l = 8) := Lib.hid (by unfold accN; rw [if_pos HG.out, if_neg (by rw [hh]; decide), hh])
      have CH := Lib.hid CH
      clear hh hg hx
      go_wp2_with fail
      refine CH.out.mono ?_
      rintro e w3 ⟨rfl, hb3⟩
      have HF := Lib.hid (NEW.out w3 (bl_tr HB2.out hb3) (by rw [HE.out]; decide))
      clear hb3 CH d0 d1
      go_wp2
      go_ret
      exact ⟨by rw [HE.out]; rfl, HF.out⟩
    · rw [hh, show errF 9 = errnoF 9 from rfl] at CH
      have HE : Hid (accN size b pr lg l = 9) := Lib.hid (by unfold accN; rw [if_pos HG.out, if_neg (by rw [hh]; decide), hh])
      have CH := Lib.hid CH
      clear hh hg hx
      go_wp2_with fail
      refine CH.out.mono ?_
      rintro e w3 ⟨rfl, hb3⟩
      have HF := Lib.hid (NEW.out w3 (bl_tr HB2.out hb3) (by rw [HE.out]; decide))
      clear hb3 CH d0 d1
      go_wp2
      go_ret
      exact ⟨by rw [HE.out]; rfl, HF.out⟩
  · have e1 := hW.no hg
    subst e1
    have q9 := nine_neq
    have HE : Hid (accN size b pr lg l = 9) := Lib.hid (by unfold accN; rw [if_neg hg])
    have HF := Lib.hid (NEW.out w2 (bl_tr HB1.out hW.bel) (by rw [HE.out]; decide))
    clear hW hg CW d0 d1
    go_wp2
    go_ret
    exact ⟨by rw [HE.out]; rfl, HF.out⟩
end Go.Proofs.Ytnhnpfhfcbmmlaa
