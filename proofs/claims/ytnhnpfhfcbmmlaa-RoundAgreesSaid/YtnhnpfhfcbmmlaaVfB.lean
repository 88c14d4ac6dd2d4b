/- Prepare. Conditions: those stated. -/
import Derived.Test.YtnhnpfhfcbmmlaaVfA
namespace Go.Proofs.Ytnhnpfhfcbmmlaa
open Go Go.RowKit
set_option linter.unusedVariables false
set_option linter.unusedSimpArgs false

def kPr : Ky := [112, 114, 111, 109, 105, 115, 101]
def kVt : Ky := [118, 111, 116, 101]
theorem sv_kPr : sv kPr = .string ⟨#[112, 114, 111, 109, 105, 115, 101]⟩ := rfl
theorem sv_kVt : sv kVt = .string ⟨#[118, 111, 116, 101]⟩ := rfl
theorem eight_neq (w : World) : (binOp .neq 28 (errnoF 8) .nilIface).run Try.prog w = .ok (.bool true) w := by kernel_rfl
def prepP (b : Bl) : List Pr := [⟨kPr, brow b⟩]
theorem brow_len (b : Bl) : (brow b).length = 16 := by unfold brow; rw [nb_len]; rfl
theorem fit_brow (b : Bl) : fit (brow b) := fit_nb _
/-- The code of a Prepare. -/
def prepN (size : Int) (b pr : Bl) (l : List Pr) : Int := if hearN b pr = 0 then ((saveP size (prepP b) l).1 : Int) else hearN b pr
theorem VX.setPr {w0 w : World} {p s : Nat} {size : Int} {l m : List Pr} {pr ac : Bl} {ls : List Cm} {node : Int} {K : Nat → Prop} {ao : Option Addr} {c : Nat} {vs : List Value} (h : VX w0 w p s size l m pr ac ls node K ao c vs) (b : Bl) (hb : TyB b) :
    VX w0 ((w.setCell ⟨p, 0, none⟩ (.int .i64 b.n)).setCell ⟨p, 1, none⟩ (.int .i64 b.node)) p s size l m b ac ls node K ao c vs ∧ Kpt K w ((w.setCell ⟨p, 0, none⟩ (.int .i64 b.n)).setCell ⟨p, 1, none⟩ (.int .i64 b.node)) := by
  have hT : Tch (· = p) w ((w.setCell ⟨p, 0, none⟩ (.int .i64 b.n)).setCell ⟨p, 1, none⟩ (.int .i64 b.node)) := (tch_set w ⟨p, 0, none⟩ _).trans (tch_set _ ⟨p, 1, none⟩ _)
  have h1 := put_row (i := 0) h.ob (.int .i64 b.n)
  have h2 := put_row (i := 1) h1 (.int .i64 b.node)
  refine ⟨⟨h2, h.log.keep hT (fun k hk e => h.sep k hk e), h.st.write hT (fun k hk => ⟨.inr (.inl hk), by rw [hk]; exact h.base⟩), h.apart, h.base, ⟨hb, h.typ.2⟩, h.few, h.sep⟩, fun k hk => hT.block k (h.lts k (.inl hk)) (fun e => h.apart p (.inl rfl) (e ▸ hk))⟩
theorem psIn_one {w : World} {K : Nat → Prop} {k : Ky} {r : List Int} {a : Option Addr} {n c : Nat} (hI : In w a n c r) (hK : ∀ ad, a = some ad → 0 < n → K ad.block) (hb : K w.heap.size) : PsIn (w.alloc (.cells #[sv k, .slice a n c] tyPr)) K (some ⟨w.heap.size, 0, none⟩) 1 1 [⟨k, r⟩] [.slice a n c] := by
  refine ⟨rfl, rfl, Nat.le_refl _, .inr ⟨w.heap.size, 0, rfl, hb, fun t u hu => ?_⟩, fun j hj => ?_⟩
  · rw [World.cell?_alloc_mark, Nat.zero_add]
    have : (#[sv k, .slice a n c] : Array Value) = (cellsPr [(⟨k, r⟩ : Pr)] [.slice a n c]).toArray := rfl
    rw [this, List.getElem?_toArray]
    exact hu
  · obtain rfl : j = 0 := by omega
    exact ⟨a, n, c, rfl, hI.below (bl_al (Below.refl _ _) _), hK⟩
/-- What Prepare leaves. -/
structure PrO (w0 w : World) (p s : Nat) (size : Int) (l m : List Pr) (pr ac : Bl) (ls : List Cm) (node : Int) (K : Nat → Prop) (b : Bl) (e : Ending) (w' : World) : Prop where
  no : prepN size b pr l ≠ 0 → e = .returned (.tuple #[bl0.val, .slice none 0 0, errF (prepN size b pr l)]) ∧ VOn w0 w' p s size l m pr ac ls node K
  yes : prepN size b pr l = 0 → ∃ a c vs K2, e = .returned (.tuple #[ac.val, .slice a ls.length c, .nilIface]) ∧ OwC w' w.heap.size ls a c vs ∧ (∀ k, K k → K2 k) ∧ (∀ g, (Value.slice a ls.length c).ownBlock = some g → K2 g) ∧ VOn w0 w' p s size (saveP size (prepP b) l).2 (saveP size (prepP b) l).2 b ac ls node K2
  kpt : Kpt K w w'
theorem BxB.cell {w : World} {q : Nat} {b : Bl} (h : BxB w q b) : w.cell? ⟨q, 0, none⟩ = some (.int .i64 b.n) ∧ w.cell? ⟨q, 1, none⟩ = some (.int .i64 b.node) ∧ w.frozen? ⟨q, 0, none⟩ = false ∧ w.frozen? ⟨q, 1, none⟩ = false := ⟨h.at.1, h.at.2, h.free 0, h.free 1⟩
set_option maxRecDepth 100000 in
set_option maxHeartbeats 8000000 in
theorem prepare_c (w0 w : World) (p s : Nat) (size : Int) (l m : List Pr) (pr ac : Bl) (ls : List Cm) (node : Int) (K : Nat → Prop) (b : Bl) (hb : TyB b) (h : VOn w0 w p s size l m pr ac ls node K) :
    Calls Try.prog 31 #[.pointer (some ⟨p, 0, none⟩), b.val] w (PrO w0 w p s size l m pr ac ls node K b) := by
  have hbel := h.bel.size
  have HKL : Hid (∀ k, K k → k < w.heap.size) := Lib.hid (by obtain ⟨ao, c, vs, hx⟩ := h; exact fun k hk => hx.lts k (.inl hk))
  obtain ⟨w1, hw1⟩ : ∃ W, W = w.alloc b.obj := ⟨_, rfl⟩
  have hX := bxB_new w b
  rw [← hw1] at hX
  have hb1 : Below w.heap.size w w1 := by rw [hw1]; exact bl_al (Below.refl _ _) _
  have hs1 : w1.heap.size = w.heap.size + 1 := by rw [hw1]; simp
  obtain ⟨w2, hw2⟩ : ∃ W, W = w1.alloc bl0.obj := ⟨_, rfl⟩
  have hZ := bxB_new w1 bl0
  rw [← hw2] at hZ
  have hb2 : Below w1.heap.size w1 w2 := by rw [hw2]; exact bl_al (Below.refl _ _) _
  have hs2 : w2.heap.size = w1.heap.size + 1 := by rw [hw2]; simp
  have hX2 := hX.later hb2
  have hb12 := bl_tr hb1 hb2
  have hV2 := h.grow hb12
  have hkw := (h.new hb12).2
  obtain ⟨q, hq⟩ : ∃ q, q = w.heap.size := ⟨_, rfl⟩
  obtain ⟨z, hz⟩ : ∃ z, z = w1.heap.size := ⟨_, rfl⟩
  rw [← hq] at hX2
  rw [← hz] at hZ
  obtain ⟨K2, eK2⟩ : ∃ K2 : Nat → Prop, K2 = fun k => K k ∨ (w.heap.size ≤ k ∧ k < w2.heap.size) := ⟨_, rfl⟩
  rw [← eK2] at hV2
  have HK2 : Hid ((∀ k, K k → K2 k) ∧ K2 q ∧ K2 z) := Lib.hid (by rw [eK2]; exact ⟨fun k hk => .inl hk, .inr ⟨by omega, by omega⟩, .inr ⟨by omega, by omega⟩⟩)
  have HQ : Hid (q = w.heap.size ∧ z = q + 1 ∧ w2.heap.size = q + 2 ∧ w0.heap.size ≤ q) := Lib.hid ⟨hq, by omega, by omega, by omega⟩
  have HW1 := Lib.hid (And.intro hw1 hq)
  have HW2 := Lib.hid (And.intro hw2 hz)
  have HV2 := Lib.hid hV2
  have HX2 := Lib.hid hX2
  have HZ2 := Lib.hid hZ
  have HKW := Lib.hid hkw
  have HTB := Lib.hid hb
  -- what an error leaves
  have FAIL : ∀ (w3 : World) (code : Int), prepN size b pr l = code → code ≠ 0 → VOn w0 w3 p s size l m pr ac ls node K2 → Kpt K2 w2 w3 → BxB w3 z bl0 → PrO w0 w p s size l m pr ac ls node K b (.returned (.tuple #[bl0.val, .slice none 0 0, errF code])) ((w3.setCell ⟨z, 0, none⟩ (.int .i64 0)).setCell ⟨z, 1, none⟩ (.int .i64 0)) := by
    intro w3 code hc h0 hV3 hk3 hz3
    have hT : Tch (· = z) w3 ((w3.setCell ⟨z, 0, none⟩ (.int .i64 0)).setCell ⟨z, 1, none⟩ (.int .i64 0)) := (tch_set w3 ⟨z, 0, none⟩ _).trans (tch_set _ ⟨z, 1, none⟩ _)
    have hV4 := hV3.write hT (fun k hk => ⟨by rw [hk]; exact HK2.out.2.2, by have := HQ.out; omega⟩)
    refine ⟨fun _ => ⟨by rw [hc], hV4.less HK2.out.1⟩, fun h => absurd (hc.symm.trans h) h0, HKW.out.trans ((hk3.less HK2.out.1).trans (fun k hk => ?_))⟩
    obtain ⟨ao, c, vs, hx⟩ := hV3
    refine hT.block k (hx.lts k (.inl (HK2.out.1 k hk))) (fun e => ?_)
    have h2 := HKL.out k hk
    have := HQ.out
    omega
  have FAIL := Lib.hid FAIL
  obtain ⟨ao, c, vs, hx⟩ := hV2
  have CH := hear_c w2 p s pr ac _ node b hb hx.ob
  have HX := Lib.hid hx
  have hor : hearN b pr = 0 ∨ hearN b pr = 8 ∨ hearN b pr = 9 := by unfold hearN; split <;> first | (split <;> simp) | simp
  obtain ⟨d0, d1⟩ := hX2.at
  clear hw1 hX hb1 hs1 hw2 hZ hb2 hs2 hX2 hb12 hkw hq hz eK2 hb hx h hbel
  go_enter Try.func31, Try.ntmps31
  go_upto_region 1 with fail
  rw [show w.alloc (.cells #[.int .i64 b.n, .int .i64 b.node] tyB2) = w1 from HW1.out.1.symm, ← HW1.out.2]
  rw [show w1.alloc (.cells #[.int .i64 0, .int .i64 0] tyB2) = w2 from HW2.out.1.symm]
  rw [show q + 1 = z from HQ.out.2.1.symm]
  rcases hor with hh | hh | hh
  · rw [hh, show errF 0 = .nilIface from rfl] at CH
    have q0 := nilNe
    have CH := Lib.hid CH
    have HH := Lib.hid hh
    clear hh
    go_wp2_with fail
    refine CH.out.mono ?_
    rintro e w3 ⟨rfl, hb3⟩
    have HB3 := Lib.hid hb3
    have hX3 := HX2.out.later hb3
    obtain ⟨e0, e1⟩ := hX3.at
    clear d0 d1 CH hb3
    have CR := Lib.hid (ballotRow_c b HTB.out w3)
    go_wp2_with fail
    refine CR.out.mono ?_
    rintro e w4 ⟨⟨a4, c4, rfl, hO4⟩, hb4⟩
    obtain ⟨n4, hn4⟩ : ∃ n4, n4 = (brow b).length := ⟨_, rfl⟩
    rw [← hn4] at hO4 ⊢
    have hI4 := own_in hO4 hn4.symm (fit_brow b)
    obtain ⟨w5, hw5⟩ : ∃ w5, w5 = w4.alloc (.cells #[sv kPr, .slice a4 n4 c4] tyPr) := ⟨_, rfl⟩
    have hs5 : w5.heap.size = w4.heap.size + 1 := by rw [hw5]; simp
    have hb45 : Below w4.heap.size w4 w5 := by rw [hw5]; exact bl_al (Below.refl _ _) _
    have hb25 : Below w2.heap.size w2 w5 := bl_tr HB3.out (bl_tr hb4 hb45)
    have hV5 := HX.out
    have hst5 := hV5.st.grow hb25
    have hst5' := hV5.st.new hb25
    obtain ⟨K5, eK5⟩ : ∃ K5 : Nat → Prop, K5 = fun k => K2 k ∨ (w2.heap.size ≤ k ∧ k < w5.heap.size) := ⟨_, rfl⟩
    have hX5 : VX w0 w5 p s size l m pr ac ls node K5 ao c vs := by
      have h1 := hV5.kpt hst5'.1 hst5'.2
      refine ⟨h1.ob, h1.log, hst5.less (fun k hk => ?_), fun k hk hK => ?_, h1.base, h1.typ, h1.few, h1.sep⟩
      · rw [eK5] at hk
        rcases hk with (hk | hk) | hk
        · exact .inl (.inl hk)
        · exact .inr hk
        · exact .inl (.inr hk)
      · rw [eK5] at hK
        rcases hK with hK | hK
        · exact hV5.apart k hk hK
        · have := hV5.lts k (.inr hk); omega
    have hK25 : ∀ k, K2 k → K5 k := fun k hk => by rw [eK5]; exact .inl hk
    obtain ⟨p5, hp5⟩ : ∃ p5, p5 = w4.heap.size := ⟨_, rfl⟩
    have h24 : w2.heap.size ≤ w3.heap.size := HB3.out.size
    have hPS : PsIn w5 (fun k => K5 k ∨ VBk p ao vs k) (some ⟨p5, 0, none⟩) 1 1 (prepP b) [.slice a4 n4 c4] := by
      rw [hw5, hp5]
      refine psIn_one (k := kPr) hI4 (fun ad e h2 => ?_) ?_
      · left
        rw [eK5]
        right
        obtain ⟨g, cap, hv, hg⟩ := own_shape hO4 h2
        cases hv
        cases e
        have h3 := (hO4.lt g rfl).2
        exact ⟨by show w2.heap.size ≤ g; omega, by show g < w5.heap.size; omega⟩
      · left
        rw [eK5]
        right
        have := hb4.size
        exact ⟨by omega, by omega⟩
    have hC5 : StC w5 p s := hX5.ob.cs.2.2.2.2.2.1
    have CS := Lib.hid (save_c w0 w5 p s size l m (fun k => K5 k ∨ VBk p ao vs k) hX5.st hC5 (.inr (.inl rfl)) (some ⟨p5, 0, none⟩) 1 1 (prepP b) [.slice a4 n4 c4] hPS (by omega) (fun e he => by
      unfold prepP at he
      rw [List.mem_singleton] at he
      rw [he]
      exact ⟨by show kPr.length ≤ 64; decide, by show (brow b).length ≤ _; rw [brow_len]; omega⟩) (by unfold keysP prepP; simp))
    obtain ⟨R, hR⟩ : ∃ R, R = saveP size (prepP b) l := ⟨_, rfl⟩
    rw [← hR] at CS
    have HRR := Lib.hid hR
    have hro : R.1 = 0 ∨ R.1 = 5 ∨ R.1 = 9 := by
      rw [hR]
      by_cases h0 : (putsP size (prepP b) (dropP (keysP (prepP b)) l)).1 = 0
      · rw [saveP_ok h0]; exact .inl rfl
      · rw [saveP_no h0]; exact puts_or3 _ _ _
    obtain ⟨code, hcode⟩ : ∃ code, code = R.1 := ⟨_, rfl⟩
    rw [← hcode] at CS hro
    have HCD := Lib.hid hcode
    have HX5 := Lib.hid hX5
    have HK25 := Lib.hid hK25
    have HK25w : Hid (Kpt K2 w2 w5) := Lib.hid (hst5'.2.less (fun k hk => .inl hk))
    have HZ5 := Lib.hid ((HZ2.out.later hb25))
    have HQ5 := Lib.hid ((HX2.out.later hb25))
    have HW5 : Hid (w5 = w4.alloc (.cells #[.string ⟨#[112, 114, 111, 109, 105, 115, 101]⟩, .slice a4 n4 c4] tyPr) ∧ p5 = w4.heap.size) := Lib.hid ⟨hw5, hp5⟩
    clear hX3 e0 e1 CR hO4 hI4 hn4 hw5 hs5 hb45 hb25 hV5 hst5 hst5' eK5 hX5 hK25 hp5 hPS hC5 hR hcode hb4 h24
    go_wp2_with fail
    rw [← HW5.out.1, ← HW5.out.2]
    refine CS.out.mono ?_
    rintro e w6 ⟨rfl, hSv⟩
    rcases hro with hr | hr | hr
    · have hst6 := hSv.ok (by rw [← HCD.out]; exact hr)
      have hX6 := HX5.out.kpt hst6 hSv.kpt
      have hq6 : BxB w6 q b := (hSv.kpt q (.inl (HK25.out q HK2.out.2.1))).trans HQ5.out
      have hz6 : BxB w6 z bl0 := (hSv.kpt z (.inl (HK25.out z HK2.out.2.2))).trans HZ5.out
      have hk6 : Kpt K2 w2 w6 := HK25w.out.trans (hSv.kpt.less (fun k hk => .inl (HK25.out k hk)))
      have hpq : p ≠ q ∧ p ≠ z := ⟨fun e => hX6.apart p (.inl rfl) (by rw [e]; exact HK25.out q HK2.out.2.1), fun e => hX6.apart p (.inl rfl) (by rw [e]; exact HK25.out z HK2.out.2.2)⟩
      obtain ⟨hX7, hk7⟩ := hX6.setPr b HTB.out
      obtain ⟨w7, hw7⟩ : ∃ w7, w7 = (w6.setCell ⟨p, 0, none⟩ (.int .i64 b.n)).setCell ⟨p, 1, none⟩ (.int .i64 b.node) := ⟨_, rfl⟩
      rw [← hw7] at hX7 hk7
      have hT67 : Tch (· = p) w6 w7 := by rw [hw7]; exact (tch_set w6 ⟨p, 0, none⟩ _).trans (tch_set _ ⟨p, 1, none⟩ _)
      have hz7 : BxB w7 z bl0 := hz6.tch hT67 (fun e => hpq.2 e.symm)
      have q0 := nilNe
      have HF0 : Hid (prepN size b pr l = 0) := Lib.hid (by unfold prepN; rw [if_pos HH.out, ← HRR.out, ← HCD.out, hr]; rfl)
      subst hr
      rw [show errF ((0 : Nat) : Int) = .nilIface from rfl]
      obtain ⟨e0, e1⟩ := hq6.at
      obtain ⟨c0, c1, c2, c3, c4', c5, c6⟩ := hX6.ob.cs
      have cf := hX6.ob.free
      have HW7 := Lib.hid hw7
      have HX7 := Lib.hid hX7
      have HK67 := Lib.hid hk7
      have HZ7 := Lib.hid hz7
      have HK6 := Lib.hid hk6
      have HWS : Hid (w.heap.size ≤ w7.heap.size ∧ z < w7.heap.size) := Lib.hid ⟨by have h1 := hz7.lt; have h2 := HQ.out; omega, hz7.lt⟩
      clear hSv hst6 hX6 hq6 hz6 hk6 hX7 hk7 hw7 hT67 hz7 CS FAIL
      go_upto_region 8 with fail
      rw [← HW7.out]
      clear e0 e1 c0 c1 c2 c3 c4' c5 c6 cf
      have CA := Lib.hid (accepted_c w7 p s b ac ls ao c vs node HX7.out.ob HX7.out.log HX7.out.few)
      go_wp2_with fail
      refine CA.out.mono ?_
      rintro e w8 ⟨⟨a8, c8, v8, rfl, hO8⟩, hb8⟩
      obtain ⟨w9, hw9⟩ : ∃ w9, w9 = w8.alloc (.cells #[.int .i64 ac.n, .int .i64 ac.node] tyB2) := ⟨_, rfl⟩
      have hA9 := bxB_new w8 ac
      rw [show w8.alloc ac.obj = w9 from hw9.symm] at hA9
      have hb9 : Below w8.heap.size w8 w9 := by rw [hw9]; exact bl_al (Below.refl _ _) _
      obtain ⟨p9, hp9⟩ : ∃ p9, p9 = w8.heap.size := ⟨_, rfl⟩
      rw [← hp9] at hA9
      have hb79 := bl_tr hb8 hb9
      have hV7 : VOn w0 w7 p s size R.2 R.2 b ac ls node K5 := ⟨ao, c, vs, HX7.out⟩
      have hV9 := hV7.grow hb79
      have hk79 := (hV7.new hb79).2
      have hO9 := hO8.later hb9
      have hz9 := HZ7.out.later hb79
      obtain ⟨g0, g1⟩ := hA9.at
      obtain ⟨z0, z1, f0, f1⟩ := hz9.cell
      have HW9 := Lib.hid (And.intro hw9 hp9)
      have hne9 : z ≠ p9 := by have := HWS.out; have := hb8.size; omega
      have HR2 : Hid (R.2 = (saveP size (prepP b) l).2) := Lib.hid (by rw [← HRR.out])
      have hT10 : Tch (· = z) w9 ((w9.setCell ⟨z, 0, none⟩ (.int .i64 ac.n)).setCell ⟨z, 1, none⟩ (.int .i64 ac.node)) := (tch_set w9 ⟨z, 0, none⟩ _).trans (tch_set _ ⟨z, 1, none⟩ _)
      have hA10 := hz9.put ac.n ac.node
      have HF : Hid (PrO w0 w p s size l m pr ac ls node K b (.returned (.tuple #[ac.val, .slice a8 ls.length c8, .nilIface])) ((w9.setCell ⟨z, 0, none⟩ (.int .i64 ac.n)).setCell ⟨z, 1, none⟩ (.int .i64 ac.node))) := Lib.hid (by
        have hV10 := hV9.write hT10 (fun k hk => ⟨by rw [hk]; exact .inl (HK25.out z HK2.out.2.2), by have := HQ.out; omega⟩)
        refine ⟨fun h => absurd HF0.out h, fun _ => ⟨a8, c8, v8, (fun k => K5 k ∨ (w7.heap.size ≤ k ∧ k < w9.heap.size)), rfl, (hO9.one hT10 hz9 (by decide) (by decide)).base HWS.out.1, fun k hk => .inl (HK25.out k (HK2.out.1 k hk)), fun g hg => .inr ?_, by rw [← HR2.out]; exact hV10⟩, ?_⟩
        · have h1 := hO8.own.lt g hg
          have h2 := hb9.size
          exact ⟨h1.1, by omega⟩
        · refine HKW.out.trans ((HK6.out.less HK2.out.1).trans ((HK67.out.less (fun k hk => HK25.out k (HK2.out.1 k hk))).trans ((hk79.less (fun k hk => HK25.out k (HK2.out.1 k hk))).trans (fun k hk => ?_))))
          refine hT10.block k ?_ (fun e => ?_)
          · have h1 := HKL.out k hk
            have h2 := HWS.out
            have h3 := hb79.size
            omega
          · have h1 := HKL.out k hk
            have h2 := HQ.out
            omega)
      clear hO8 hb8 hw9 hA9 hb9 hp9 hb79 hV7 hV9 hk79 hO9 hz9 hT10
      go_upto_region 9 with fail
      rw [show w8.alloc (.cells #[.int .i64 ac.n, .int .i64 ac.node] tyB2) = w9 from HW9.out.1.symm, ← HW9.out.2]
      go_wp2
      obtain ⟨w10, hw10⟩ : ∃ v, v = (w9.setCell ⟨z, 0, none⟩ (.int .i64 ac.n)).setCell ⟨z, 1, none⟩ (.int .i64 ac.node) := ⟨_, rfl⟩
      rw [← hw10] at hA10 HF ⊢
      obtain ⟨y0, y1⟩ := hA10.at
      refine bodyPost_ret (v := .tuple #[ac.val, .slice a8 ls.length c8, .nilIface]) (by simp [results, Try.results31, go_sem, y0, y1]) rfl ?_
      exact HF.out
    · have hV6 : VOn w0 w6 p s size l m pr ac ls node K2 := (show VOn w0 w6 p s size l m pr ac ls node K5 from ⟨ao, c, vs, HX5.out.kpt (hSv.no (by rw [← HCD.out, hr]; decide)) hSv.kpt⟩).less HK25.out
      have hz6 : BxB w6 z bl0 := (hSv.kpt z (.inl (HK25.out z HK2.out.2.2))).trans HZ5.out
      have HF := Lib.hid (FAIL.out w6 5 (by unfold prepN; rw [if_pos HH.out, ← HRR.out, ← HCD.out, hr]; rfl) (by decide) hV6 (HK25w.out.trans (hSv.kpt.less (fun k hk => .inl (HK25.out k hk)))) hz6)
      obtain ⟨z0, z1, f0, f1⟩ := hz6.cell
      have q5 := five_neq
      have q9 := nine_neq
      subst hr
      rw [show errF ((5 : Nat) : Int) = errnoF 5 from rfl]
      clear hV6 hSv CS FAIL
      go_wp2
      have hA6 := hz6.put 0 0
      obtain ⟨w7, hw7⟩ : ∃ v, v = (w6.setCell ⟨z, 0, none⟩ (.int .i64 0)).setCell ⟨z, 1, none⟩ (.int .i64 0) := ⟨_, rfl⟩
      rw [← hw7] at hA6 HF ⊢
      obtain ⟨y0, y1⟩ := hA6.at
      refine bodyPost_ret (v := .tuple #[bl0.val, .slice none 0 0, errnoF 5]) (by simp [results, Try.results31, go_sem, y0, y1, bl0]) rfl ?_
      exact HF.out
    · have hV6 : VOn w0 w6 p s size l m pr ac ls node K2 := (show VOn w0 w6 p s size l m pr ac ls node K5 from ⟨ao, c, vs, HX5.out.kpt (hSv.no (by rw [← HCD.out, hr]; decide)) hSv.kpt⟩).less HK25.out
      have hz6 : BxB w6 z bl0 := (hSv.kpt z (.inl (HK25.out z HK2.out.2.2))).trans HZ5.out
      have HF := Lib.hid (FAIL.out w6 9 (by unfold prepN; rw [if_pos HH.out, ← HRR.out, ← HCD.out, hr]; rfl) (by decide) hV6 (HK25w.out.trans (hSv.kpt.less (fun k hk => .inl (HK25.out k hk)))) hz6)
      obtain ⟨z0, z1, f0, f1⟩ := hz6.cell
      have q5 := five_neq
      have q9 := nine_neq
      subst hr
      rw [show errF ((9 : Nat) : Int) = errnoF 9 from rfl]
      clear hV6 hSv CS FAIL
      go_wp2
      have hA6 := hz6.put 0 0
      obtain ⟨w7, hw7⟩ : ∃ v, v = (w6.setCell ⟨z, 0, none⟩ (.int .i64 0)).setCell ⟨z, 1, none⟩ (.int .i64 0) := ⟨_, rfl⟩
      rw [← hw7] at hA6 HF ⊢
      obtain ⟨y0, y1⟩ := hA6.at
      refine bodyPost_ret (v := .tuple #[bl0.val, .slice none 0 0, errnoF 9]) (by simp [results, Try.results31, go_sem, y0, y1, bl0]) rfl ?_
      exact HF.out
  · rw [hh] at CH
    have HF0 := fun w3 (hb3 : Below w2.heap.size w2 w3) => FAIL.out w3 8 (by unfold prepN; rw [if_neg (by rw [hh]; decide), hh]) (by decide) (HV2.out.new hb3).1 (HV2.out.new hb3).2 (HZ2.out.later hb3)
    have HF0 := Lib.hid HF0
    have q8 := eight_neq
    have q9 := nine_neq
    have CH := Lib.hid CH
    clear hh FAIL
    go_wp2_with fail
    refine CH.out.mono ?_
    rintro e w3 ⟨rfl, hb3⟩
    rw [show errF 8 = errnoF 8 from rfl]
    have hz3 := HZ2.out.later hb3
    have HF := Lib.hid (HF0.out w3 hb3)
    obtain ⟨z0, z1, f0, f1⟩ := hz3.cell
    clear hb3 CH HF0 d0 d1
    go_wp2
    have hA6 := hz3.put 0 0
    obtain ⟨w6, hw6⟩ : ∃ v, v = (w3.setCell ⟨z, 0, none⟩ (.int .i64 0)).setCell ⟨z, 1, none⟩ (.int .i64 0) := ⟨_, rfl⟩
    rw [← hw6] at hA6 HF ⊢
    obtain ⟨y0, y1⟩ := hA6.at
    refine bodyPost_ret (v := .tuple #[bl0.val, .slice none 0 0, errnoF 8]) (by simp [results, Try.results31, go_sem, y0, y1, bl0]) rfl ?_
    exact HF.out
  · rw [hh] at CH
    have HF0 := fun w3 (hb3 : Below w2.heap.size w2 w3) => FAIL.out w3 9 (by unfold prepN; rw [if_neg (by rw [hh]; decide), hh]) (by decide) (HV2.out.new hb3).1 (HV2.out.new hb3).2 (HZ2.out.later hb3)
    have HF0 := Lib.hid HF0
    have q8 := eight_neq
    have q9 := nine_neq
    have CH := Lib.hid CH
    clear hh FAIL
    go_wp2_with fail
    refine CH.out.mono ?_
    rintro e w3 ⟨rfl, hb3⟩
    rw [show errF 9 = errnoF 9 from rfl]
    have hz3 := HZ2.out.later hb3
    have HF := Lib.hid (HF0.out w3 hb3)
    obtain ⟨z0, z1, f0, f1⟩ := hz3.cell
    clear hb3 CH HF0 d0 d1
    go_wp2
    have hA6 := hz3.put 0 0
    obtain ⟨w6, hw6⟩ : ∃ v, v = (w3.setCell ⟨z, 0, none⟩ (.int .i64 0)).setCell ⟨z, 1, none⟩ (.int .i64 0) := ⟨_, rfl⟩
    rw [← hw6] at hA6 HF ⊢
    obtain ⟨y0, y1⟩ := hA6.at
    refine bodyPost_ret (v := .tuple #[bl0.val, .slice none 0 0, errnoF 9]) (by simp [results, Try.results31, go_sem, y0, y1, bl0]) rfl ?_
    exact HF.out
end Go.Proofs.Ytnhnpfhfcbmmlaa
