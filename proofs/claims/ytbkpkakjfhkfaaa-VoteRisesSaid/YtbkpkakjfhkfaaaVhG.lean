/- VoteRises's walk. Conditions: those stated. -/
import Derived.Test.YtbkpkakjfhkfaaaVhF
import Derived.OrdersHeld
import Derived.Deep.RegionHeld
import Derived.Deep.CutRange
namespace Go.Proofs.Ytbkpkakjfhkfaaa
open Go Go.RowKit
set_option linter.unusedVariables false
set_option linter.unusedSimpArgs false

/-- What a round leaves ahead of its looks. -/
structure RisT (w w1 wx : World) (p s : Nat) (b pr : Bl) (q9 q10 : Nat) (j : Bool) (q : Nat) (ev : Value) (l : List Pr) (pr2 ac2 : Bl) (ls : List Cm) : Prop where
  on : VOn w1 wx p s 4194304 l l pr2 ac2 ls 17 (Old w1)
  ris : RisS l pr2 ac2 ls
  b9 : BxB wx q9 b
  b10 : BxB wx q10 pr
  bel : Below w.heap.size w wx
  ways : (ev = .nilIface ∧ pr2 = b ∧ ¬ LtB b pr ∧ (j = true → ac2 = b ∧ ls = [hlt q])) ∨ (ev = errnoF 8 ∧ pr2 = pr ∧ LtB b pr) ∨ (ev = errnoF 9 ∧ pr2 = pr)
theorem nil_eq8 (w : World) : (binOp .eql 28 .nilIface (errnoF 8)).run Try.prog w = .ok (.bool false) w := by kernel_rfl
theorem n8_eql (w : World) : (binOp .eql 28 (errnoF 8) .nilIface).run Try.prog w = .ok (.bool false) w := by kernel_rfl
theorem n9_eql (w : World) : (binOp .eql 28 (errnoF 9) .nilIface).run Try.prog w = .ok (.bool false) w := by kernel_rfl
set_option maxRecDepth 100000 in
set_option maxHeartbeats 32000000 in
theorem voteRises_t (a : Option Addr) (n c : Nat) (bs : List Bl) (a2 : Option Addr) (n2 c2 : Nat) (os : List Bool) (w : World) (hI : InBl w a n c bs) (hJ : InBo w a2 n2 c2 os) (hn : n ≤ 4611686018427387904) (hn2 : n2 ≤ 4611686018427387904) :
    Calls Try.prog 6 #[.slice a n c, .slice a2 n2 c2] w fun e w' => e = .returned (.bool true) ∧ Below w.heap.size w w' := by
  have hlen := hI.len
  have hroom := hI.room
  have hlen2 := hJ.len
  have hroom2 := hJ.room
  have HI := Lib.hid hI
  have HJ := Lib.hid hJ
  have CA := Lib.hid (alive_c w)
  clear hI hJ
  go_enter Try.func6, Try.ntmps6
  go_wp2_with fail
  refine CA.out.mono ?_
  rintro e w1 ⟨rfl, hb1⟩
  have HB1 := Lib.hid hb1
  clear hb1 CA
  by_cases hbig : n > 100
  · have g : (n : Int) > 100 := by omega
    go_wp2
    go_ret
    exact ⟨rfl, HB1.out⟩
  · have g : ¬ (n : Int) > 100 := by omega
    have CO := Lib.hid (opened_c 4194304 17 w1 (by decide) ⟨by decide, by decide⟩)
    go_wp2_with fail
    refine CO.out.mono ?_
    rintro e w2 ⟨h1, _, _⟩
    obtain ⟨s, p, rfl, hV⟩ := h1 (by decide)
    have hs0 : ((some (⟨s, 0, none⟩ : Addr)) == none) = false := rfl
    have hp0 : ((some (⟨p, 0, none⟩ : Addr)) == none) = false := rfl
    have S0 : Hid (VOn w1 w2 p s 4194304 [] [] bl0 bl0 [] 17 (Old w1) ∧ RisS [] bl0 bl0 []) := Lib.hid ⟨hV, ris_nil⟩
    clear h1 hV CO
    go_wp2
    go_loopw [7, 8, 9, 10, 11, 12, 13, 14, 15, 16, 17, 35] (fun sv _ _ _ _ _ _ _ _ _ _ iv wr => ∃ (i q : Nat) (l : List Pr) (pr ac : Bl) (ls : List Cm), i ≤ n ∧ q ≤ i ∧ iv = .int .i64 i ∧ sv = .int .i64 q ∧ Hid (VOn w1 wr p s 4194304 l l pr ac ls 17 (Old w1) ∧ RisS l pr ac ls)) (fun _ _ _ _ _ _ _ _ _ _ _ iv _ => n - (intOf iv).toNat)
    case atStart => exact ⟨0, 0, [], bl0, bl0, [], by omega, by omega, rfl, rfl, S0⟩
    case round =>
      obtain ⟨i, q, l, pr, ac, ls, hi, hq, rfl, rfl, HS⟩ := hrel
      obtain ⟨w3, rfl⟩ : ∃ v, v = wr := ⟨_, rfl⟩
      clear S0
      by_cases hlt : i < n
      · have ii : (i : Int) < (n : Int) := by omega
        have i0' : (0 : Int) ≤ (i : Int) := by omega
        have ic : (i : Int) ≤ (c : Int) := by omega
        have hB3 : Below w.heap.size w w3 := HB1.out.trans (HS.out.1.bel.mono HB1.out.size)
        obtain ⟨b1, o1, rfl, hc⟩ := (HI.out.below hB3).at (by omega)
        obtain ⟨k0, k1⟩ := hc i hlt
        have hty := HI.out.typ _ (memBl (bs := bs) (i := i) (by omega))
        obtain ⟨b, hbe⟩ : ∃ b, b = bs.getD i bl0 := ⟨_, rfl⟩
        rw [← hbe] at k0 k1 hty
        have HTB := Lib.hid hty
        -- the box of the ballot
        obtain ⟨w4, hw4⟩ : ∃ w4, w4 = w3.alloc (.cells #[.int .i64 b.n, .int .i64 b.node] tyB2) := ⟨_, rfl⟩
        have hb4 : Below w3.heap.size w3 w4 := by rw [hw4]; exact bl_al (Below.refl _ _) _
        have hX4 := bxB_new w3 b
        rw [show w3.alloc b.obj = w4 from hw4.symm] at hX4
        obtain ⟨q9, hq9⟩ : ∃ q, q = w3.heap.size := ⟨_, rfl⟩
        rw [← hq9] at hX4
        have HW4 := Lib.hid (And.intro hw4 hq9)
        have HX4 := Lib.hid hX4
        have HB4 := Lib.hid hb4
        obtain ⟨aoV, cV, vsV, hVX⟩ := HS.out.1
        have hob4 : VOb w4 p pr ac (.slice aoV ls.length cV) s 17 := (hb4.block p hVX.ob.lt).trans hVX.ob
        have CP := Lib.hid (promised_c w4 p s pr ac _ 17 hob4)
        have HVX := Lib.hid hVX
        clear hbe hty hw4 hb4 hX4 hq9 hc hob4 hVX
        go_upto_region 12 with fail
        rw [show w3.alloc (.cells #[.int .i64 b.n, .int .i64 b.node] tyB2) = w4 from HW4.out.1.symm, ← HW4.out.2]
        clear k0 k1
        go_wp2_with fail
        refine CP.out.mono ?_
        rintro e w5 ⟨rfl, hb5⟩
        obtain ⟨w6, hw6⟩ : ∃ w6, w6 = w5.alloc (.cells #[.int .i64 pr.n, .int .i64 pr.node] tyB2) := ⟨_, rfl⟩
        have hb6 : Below w5.heap.size w5 w6 := by rw [hw6]; exact bl_al (Below.refl _ _) _
        have hX6 := bxB_new w5 pr
        rw [show w5.alloc pr.obj = w6 from hw6.symm] at hX6
        obtain ⟨q10, hq10⟩ : ∃ q, q = w5.heap.size := ⟨_, rfl⟩
        rw [← hq10] at hX6
        have HW6 := Lib.hid (And.intro hw6 hq10)
        have hb5s : w4.heap.size ≤ w5.heap.size := hb5.size
        have HX6 := Lib.hid hX6
        have HB6 := Lib.hid (bl_tr HB4.out (bl_tr hb5 hb6))
        have hob6 : VOb w6 p pr ac (.slice aoV ls.length cV) s 17 := (HB6.out.block p HVX.out.ob.lt).trans HVX.out.ob
        have HXb6 := Lib.hid (HX4.out.later (bl_tr hb5 hb6))
        have CC := Lib.hid (accepted_c w6 p s pr ac ls aoV cV vsV 17 hob6 (HVX.out.log.below HB6.out) HVX.out.few)
        clear hb5 hb6 hw6 hq10 hX6 hob6 CP
        go_upto_region 13 with fail
        rw [show w5.alloc (.cells #[.int .i64 pr.n, .int .i64 pr.node] tyB2) = w6 from HW6.out.1.symm, ← HW6.out.2]
        go_wp2_with fail
        refine CC.out.mono ?_
        rintro e w7 ⟨⟨aT, cT, vT, rfl, hOT⟩, hb7⟩
        obtain ⟨w8, hw8⟩ : ∃ w8, w8 = w7.alloc (.cells #[.int .i64 ac.n, .int .i64 ac.node] tyB2) := ⟨_, rfl⟩
        have hb8 : Below w7.heap.size w7 w8 := by rw [hw8]; exact bl_al (Below.refl _ _) _
        have hX8 := bxB_new w7 ac
        rw [show w7.alloc ac.obj = w8 from hw8.symm] at hX8
        obtain ⟨q11, hq11⟩ : ∃ q, q = w7.heap.size := ⟨_, rfl⟩
        rw [← hq11] at hX8
        have hb68 := bl_tr hb7 hb8
        have hb38 := bl_tr HB6.out hb68
        have hK8 : ∀ k, w3.heap.size ≤ k → k < w8.heap.size → (Old w1 k ∨ (w3.heap.size ≤ k ∧ k < w8.heap.size)) := fun k h1 h2 => .inr ⟨h1, h2⟩
        -- the world behind the readings: the voter leaves the three boxes and the log alone
        have HV8 : Hid (VOn w1 w8 p s 4194304 l l pr ac ls 17 (fun k => Old w1 k ∨ (w3.heap.size ≤ k ∧ k < w8.heap.size))) := Lib.hid (HS.out.1.grow hb38)
        have HXb := Lib.hid (HXb6.out.later hb68)
        have HXp := Lib.hid (HX6.out.later hb68)
        have HXa := Lib.hid hX8
        have HOT := Lib.hid (hOT.later hb8)
        have HW8 := Lib.hid (And.intro hw8 hq11)
        have HBW8 := Lib.hid (hB3.trans (hb38.mono hB3.size))
        have HR := Lib.hid HS.out.2
        have HS38 := Lib.hid hb38.size
        have HS68 : Hid (w3.heap.size ≤ w6.heap.size) := Lib.hid HB6.out.size
        have HL38 : Hid (w3.heap.size ≤ q9 ∧ q9 < w8.heap.size ∧ w3.heap.size ≤ q10 ∧ q10 < w8.heap.size ∧ w3.heap.size ≤ q11 ∧ q11 < w8.heap.size ∧ w1.heap.size ≤ w3.heap.size) := Lib.hid ⟨by have := HW4.out.2; omega, (HXb6.out.later hb68).lt, by have := HW6.out.2; have := HB4.out.size; have := hb5s; omega, (HX6.out.later hb68).lt, by have := HB6.out.size; have := hb7.size; omega, hX8.lt, HS.out.1.bel.size⟩
        clear hb5s hb7 hb8 hw8 hX8 hq11 hb68 hb38 hK8 hOT CC HB4 HB6 HX4 HX6 HXb6 HVX hB3 HS
        go_upto_region 14 with fail
        rw [show w7.alloc (.cells #[.int .i64 ac.n, .int .i64 ac.node] tyB2) = w8 from HW8.out.1.symm, ← HW8.out.2]
        have HR9 : Hid (RisS l pr ac ls) := HR
        obtain ⟨j, hj⟩ : ∃ j : Bool, j = (decide (i < n2) && os.getD i false) := ⟨_, rfl⟩
        have HJJ := Lib.hid hj
        clear hj
        have vq1 : ∀ [Inhabited Nat], IntKind.i64.wrap ((q : Int) + 1) = (q : Int) + 1 := by intro _; exact IntWalk.i64_in _ (by omega)
        go_upto_region 15 with fail
        go_cut [56] from 47 to 56 (fun v wx => v = .bool j ∧ w8 = wx)
        case first =>
          by_cases hc2 : i < n2
          · obtain ⟨b2, o2, rfl, hcb⟩ := (HJ.out.below HBW8.out).at (by omega)
            have e0 := hcb i hc2
            have jj : (i : Int) < (n2 : Int) := by omega
            have jc : (i : Int) ≤ (c2 : Int) := by omega
            cases hb : os.getD i false with
            | true =>
              have HV : Hid (j = true) := Lib.hid (by rw [HJJ.out, hb, decide_eq_true hc2]; rfl)
              rw [hb] at e0
              clear hcb hb
              go_wp2
              go_meet
              exact ⟨by rw [HV.out], rfl⟩
            | false =>
              have HV : Hid (j = false) := Lib.hid (by rw [HJJ.out, hb]; simp)
              rw [hb] at e0
              clear hcb hb
              go_wp2
              go_meet
              exact ⟨by rw [HV.out], rfl⟩
          · have jj : ¬ (i : Int) < (n2 : Int) := by omega
            have HV : Hid (j = false) := Lib.hid (by rw [HJJ.out, decide_eq_false hc2]; rfl)
            go_wp2
            go_meet
            exact ⟨by rw [HV.out], rfl⟩
        case rest =>
          obtain ⟨rfl, rfl⟩ := hcut
          have HHL := Lib.hid (show q + 1 ≤ 100 by omega)
          go_upto_if 56 with fail
          go_cut [7, 13] from 57 to 84 (fun sv ev wx => ∃ (q' : Nat) (l' : List Pr) (pr2 ac2 : Bl) (ls' : List Cm), q' ≤ i + 1 ∧ sv = .int .i64 q' ∧ (ev = .nilIface ∨ ev = errnoF 8 ∨ ev = errnoF 9) ∧ Hid (RisT w w1 wx p s b pr q9 q10 j q' ev l' pr2 ac2 ls'))
          case first =>
            have hR9 := HR9.out
            cases j with
            | true =>
              have CH0 := fun W => health_c ((q : Int) + 1) W
              obtain ⟨x, hx⟩ : ∃ x, x = Go.Proofs.Ytbkpkakjfhkfaaa.hlt ((q : Int) + 1) := ⟨_, rfl⟩
              rw [← hx] at CH0
              have CH := Lib.hid CH0
              have HXX : Hid (x = Go.Proofs.Ytbkpkakjfhkfaaa.hlt ((q : Int) + 1)) := Lib.hid hx
              have HXT : Hid (TyC x ∧ x.es = []) := Lib.hid ⟨by rw [hx]; exact hlt_ty ⟨by omega, by omega⟩, by rw [hx]; rfl⟩
              clear hx CH0
              have hX8 := HXb.out
              obtain ⟨y0, y1⟩ := hX8.at
              have hS0 : w8.drew.cell? ⟨q9, 0, none⟩ = some (.int .i64 b.n) ∧ w8.drew.cell? ⟨q9, 1, none⟩ = some (.int .i64 b.node) := ⟨y0, y1⟩
              clear hX8 y0 y1
              have HQ9 : Hid (Old w1 q9 ∨ (w3.heap.size ≤ q9 ∧ q9 < w8.heap.size)) := Lib.hid (.inr ⟨HL38.out.1, HL38.out.2.1⟩)
              go_upto_region 17 with fail
              go_region_held3 (fun wx => wx.cell? ⟨q9, 0, none⟩ = some (.int .i64 b.n) ∧ wx.cell? ⟨q9, 1, none⟩ = some (.int .i64 b.node)) (first | (with_reducible exact hS0) | (with_reducible assumption) | (with_reducible exact hS2 _) | fail)
                (first
                  | (go_at_call 41; (with_reducible refine (CH.out _).mono ?_); rintro e wA ⟨rfl, hbA⟩; have hbA8 := bl_tr (Below.refl w8.heap.size w8).drew hbA; have hVA := HV8.out.grow hbA8; have hXA := HXb.out.later hbA8; have hXpA := HXp.out.later hbA8; have hS1 := (show wA.cell? ⟨q9, 0, none⟩ = some (.int .i64 b.n) ∧ wA.cell? ⟨q9, 1, none⟩ = some (.int .i64 b.node) from ⟨hXA.at.1, hXA.at.2⟩); have hS2 := (fun (o : Obj) => (show (wA.alloc o).cell? ⟨q9, 0, none⟩ = some (.int .i64 b.n) ∧ (wA.alloc o).cell? ⟨q9, 1, none⟩ = some (.int .i64 b.node) from ⟨cell_later (bl_al (Below.refl wA.heap.size wA) o) hS1.1, cell_later (bl_al (Below.refl wA.heap.size wA) o) hS1.2⟩)))
                  | (go_at_call 33; (refine (accept_c w1 (wA.alloc (x.obj (.slice none 0 0))) p s 4194304 l l pr ac ls 17 _ b HTB.out (hVA.grow (bl_al (Below.refl wA.heap.size wA) (x.obj (.slice none 0 0)))) [x] _ 1 1 _ (inC_one wA x HXT.out.1 HXT.out.2) (lgK_one (.inr ⟨Nat.le_refl _, by simp⟩)) (by omega)).mono ?_); rintro e wB ⟨rfl, hAc⟩; have hS3 := (show wB.cell? ⟨q9, 0, none⟩ = some (.int .i64 b.n) ∧ wB.cell? ⟨q9, 1, none⟩ = some (.int .i64 b.node) from by
                        have hk9 : BxB wB q9 b := (hAc.kpt q9 (.inl (.inl HQ9.out))).trans (hXA.later (bl_al (Below.refl wA.heap.size wA) _))
                        exact ⟨hk9.at.1, hk9.at.2⟩))
                  | fail)
              all_goals
                have hk9 : BxB wB q9 b := (hAc.kpt q9 (.inl (.inl HQ9.out))).trans (hXA.later (bl_al (Below.refl wA.heap.size wA) _))
                have hk10 : BxB wB q10 pr := (hAc.kpt q10 (.inl (.inl (.inr ⟨HL38.out.2.2.1, HL38.out.2.2.2.1⟩)))).trans (hXpA.later (bl_al (Below.refl wA.heap.size wA) _))
                rw [HXX.out] at hAc ⊢
                have hTm : IsTm ((q : Int) + 1) := ⟨by omega, by have := HHL.out; omega⟩
                clear hS0 hS1 hS2 hS3 hbA hbA8 hVA hXA hXpA
                by_cases hb : OkB b
                · by_cases hl : LtB b pr
                  · have e8 := accN_lt (size := 4194304) (l := l) hTm hb hl
                    have hV := hAc.no (by rw [e8]; decide)
                    rw [e8, show errF 8 = errnoF 8 from rfl]
                    have HF : Hid (RisT w w1 wB p s b pr q9 q10 true (q + 1) (errnoF 8) l pr ac ls) := Lib.hid ⟨hV.less (fun k hk => .inl (.inl (.inl hk))), hR9, hk9, hk10, HB1.out.trans (hV.bel.mono HB1.out.size), .inr (.inl ⟨rfl, rfl, hl⟩)⟩
                    clear hAc hV hk9 hk10 hb hl e8 hR9
                    go_wp2
                    go_meet
                    exact ⟨q + 1, l, pr, ac, ls, by omega, by go_num, .inr (.inl rfl), HF⟩
                  · obtain ⟨e0, hR'⟩ := hR9.acc hb hl hTm
                    have hV := hAc.yes e0
                    rw [e0, show errF 0 = .nilIface from rfl]
                    have HF : Hid (RisT w w1 wB p s b pr q9 q10 true (q + 1) .nilIface _ b b [Go.Proofs.Ytbkpkakjfhkfaaa.hlt ((q : Int) + 1)]) := Lib.hid ⟨hV.less (fun k hk => .inl (.inl (.inl hk))), hR', hk9, hk10, HB1.out.trans (hV.bel.mono HB1.out.size), .inl ⟨rfl, rfl, hl, fun _ => ⟨rfl, rfl⟩⟩⟩
                    clear hAc hV hk9 hk10 hb hl e0 hR9 hR'
                    go_wp2
                    go_meet
                    exact ⟨q + 1, _, b, b, _, by omega, by go_num, .inl rfl, HF⟩
                · have e9 := accN_no (size := 4194304) (l := l) (pr := pr) hTm hb
                  have hV := hAc.no (by rw [e9]; decide)
                  rw [e9, show errF 9 = errnoF 9 from rfl]
                  have HF : Hid (RisT w w1 wB p s b pr q9 q10 true (q + 1) (errnoF 9) l pr ac ls) := Lib.hid ⟨hV.less (fun k hk => .inl (.inl (.inl hk))), hR9, hk9, hk10, HB1.out.trans (hV.bel.mono HB1.out.size), .inr (.inr ⟨rfl, rfl⟩)⟩
                  clear hAc hV hk9 hk10 hb e9 hR9
                  go_wp2
                  go_meet
                  exact ⟨q + 1, l, pr, ac, ls, by omega, by go_num, .inr (.inr rfl), HF⟩
            | false =>
              -- Prepare: the box of what it gives
              obtain ⟨w9, hw9⟩ : ∃ w9, w9 = w8.alloc (.cells #[.int .i64 0, .int .i64 0] tyB2) := ⟨_, rfl⟩
              have hb9 : Below w8.heap.size w8 w9 := by rw [hw9]; exact bl_al (Below.refl _ _) _
              have hX9 := bxB_new w8 bl0
              rw [show w8.alloc (Bl.obj bl0) = w9 from hw9.symm] at hX9
              obtain ⟨q14, hq14⟩ : ∃ q, q = w8.heap.size := ⟨_, rfl⟩
              rw [← hq14] at hX9
              have hs9 : w9.heap.size = q14 + 1 := by rw [hw9, hq14]; simp
              have HW9 := Lib.hid (And.intro hw9 hq14)
              have HB9 := Lib.hid hb9
              have HX9 := Lib.hid hX9
              have HK9 : Hid (∀ k, w3.heap.size ≤ k → k < w9.heap.size → (fun k => (Old w1 k ∨ (w3.heap.size ≤ k ∧ k < w8.heap.size)) ∨ (w8.heap.size ≤ k ∧ k < w9.heap.size)) k) := Lib.hid (fun k h1 h2 => by
                by_cases h3 : k < w8.heap.size
                · exact .inl (.inr ⟨h1, h3⟩)
                · exact .inr ⟨by omega, h2⟩)
              have hV9 := HV8.out.grow hb9
              have CP := Lib.hid (prepare_c w1 w9 p s 4194304 l l pr ac ls 17 _ b HTB.out hV9)
              have HV9 := Lib.hid hV9
              clear hw9 hb9 hX9 hq14 hV9
              go_upto_region 18 with fail
              go_upto_region 19 with fail
              rw [show w8.alloc (.cells #[.int .i64 0, .int .i64 0] tyB2) = w9 from HW9.out.1.symm, ← HW9.out.2]
              obtain ⟨y0, y1⟩ := (HXb.out.later HB9.out).at
              go_wp2_with fail
              refine CP.out.mono ?_
              intro e w10 hP
              clear y0 y1
              have hX10 : BxB w10 q14 bl0 := (hP.kpt q14 (HK9.out q14 (by have := HS38.out; have := HW9.out.2; omega) (by omega))).trans HX9.out
              obtain ⟨z0, z1, f0, f1⟩ := hX10.cell
              by_cases hb : OkB b
              · by_cases hl : LtB b pr
                · have e8 := prepN_lt (size := 4194304) (l := l) hb hl
                  obtain ⟨rfl, hV10⟩ := hP.no (by rw [e8]; decide)
                  have HPK := Lib.hid hP.kpt
                  rw [e8, show errF 8 = errnoF 8 from rfl]
                  clear hP hX10 CP e8
                  go_upto_region 21 with fail
                  have h38 := HL38.out
                  have hs38 := HS38.out
                  have hq14 := HW9.out.2
                  have hK14 := HK9.out q14 (by omega) (by omega)
                  obtain ⟨w11, hw11⟩ : ∃ w11, w11 = (w10.setCell ⟨q14, 0, none⟩ (.int .i64 bl0.n)).setCell ⟨q14, 1, none⟩ (.int .i64 bl0.node) := ⟨_, rfl⟩
                  rw [← hw11]
                  have hT := tch_set2 w10 q14 (.int .i64 bl0.n) (.int .i64 bl0.node)
                  rw [← hw11] at hT
                  have hV11 := hV10.write hT (fun k e => by rw [e]; exact ⟨hK14, by omega⟩)
                  have hXb11 : BxB w11 q9 b := hT.at ((HPK.out q9 (HK9.out q9 (by omega) (by omega))).trans (HXb.out.later HB9.out)) (by omega)
                  have hXp11 : BxB w11 q10 pr := hT.at ((HPK.out q10 (HK9.out q10 (by omega) (by omega))).trans (HXp.out.later HB9.out)) (by omega)
                  have HF : Hid (RisT w w1 w11 p s b pr q9 q10 false q (errnoF 8) l pr ac ls) := Lib.hid ⟨hV11.less (fun k hk => .inl (.inl hk)), hR9, hXb11, hXp11, HB1.out.trans (hV11.bel.mono HB1.out.size), .inr (.inl ⟨rfl, rfl, hl⟩)⟩
                  have qn := n8_eql
                  clear hT hK14 hV11 hXb11 hXp11 h38 hs38 hw11 z0 z1 f0 f1 hq14 hs9 hR9 hV10 HPK
                  go_wp2
                  go_meet
                  exact ⟨q, l, pr, ac, ls, by omega, rfl, .inr (.inl rfl), HF⟩
                · obtain ⟨hp0', hR'⟩ := hR9.prep hb hl
                  obtain ⟨a10, c10, v10, K10, rfl, hO10, hK10, hown, hV10⟩ := hP.yes hp0'
                  have HP := Lib.hid hP.kpt
                  have HV10 := Lib.hid hV10
                  have HO10 := Lib.hid hO10
                  have HK10 := Lib.hid hK10
                  have HOW := Lib.hid hown
                  have HR' := Lib.hid hR'
                  have HX10 := Lib.hid hX10
                  clear hP hV10 hO10 hK10 hown hR' hp0' hX10 CP
                  go_upto_region 21 with fail
                  obtain ⟨w11, hw11⟩ : ∃ w11, w11 = (w10.setCell ⟨q14, 0, none⟩ (.int .i64 ac.n)).setCell ⟨q14, 1, none⟩ (.int .i64 ac.node) := ⟨_, rfl⟩
                  rw [← hw11]
                  have hT := tch_set2 w10 q14 (.int .i64 ac.n) (.int .i64 ac.node)
                  rw [← hw11] at hT
                  have h38 := HL38.out
                  have hs38 := HS38.out
                  have hq14 := HW9.out.2
                  have hs9' : w9.heap.size = q14 + 1 := hs9
                  have hK14 := HK9.out q14 (by omega) (by omega)
                  have hV11 := HV10.out.write hT (fun k e => by rw [e]; exact ⟨HK10.out _ hK14, by omega⟩)
                  have hXb11 : BxB w11 q9 b := hT.at ((HP.out q9 (HK9.out q9 (by omega) (by omega))).trans (HXb.out.later HB9.out)) (by omega)
                  have hXp11 : BxB w11 q10 pr := hT.at ((HP.out q10 (HK9.out q10 (by omega) (by omega))).trans (HXp.out.later HB9.out)) (by omega)
                  have hXa11 : BxB w11 q11 ac := hT.at ((HP.out q11 (HK9.out q11 (by omega) (by omega))).trans (HXa.out.later HB9.out)) (by omega)
                  have hXg11 : BxB w11 q14 ac := by rw [hw11]; exact HX10.out.set2 ac
                  have htl := HR'.out.enc.typ
                  have hes : ∀ x ∈ ls, x.es.length ≤ 64 := fun x hx => goodC_es (HR'.out.enc.good.2.1 x hx)
                  have hnl : ls.length ≤ 256 := HR'.out.enc.good.1
                  have hIlog : InC w11 aT ls.length cT ls vT := HOT.out.kept htl ((HV8.out.new HB9.out).2.trans (HP.out.less (fun k h => .inl h))) (fun k h1 h2 => .inr ⟨by have := HS68.out; omega, h2⟩) hT (by omega)
                  have hItold : InC w11 a10 ls.length c10 ls v10 := (HO10.out.in htl).keep hT (fun k h2 e => by have := (HO10.out.blk k h2).1; omega)
                  have CSame := Lib.hid (sameR_c ls v10 vT a10 aT ls.length c10 cT w11 hItold hIlog (by omega) hes)
                  have HV11 := Lib.hid (hV11.less (fun k hk => HK10.out k (.inl (.inl hk))))
                  have HXb11 := Lib.hid hXb11
                  have HXp11 := Lib.hid hXp11
                  have HB11 := Lib.hid (HB1.out.trans (hV11.bel.mono HB1.out.size))
                  obtain ⟨y0, y1⟩ := hXa11.at
                  obtain ⟨y2, y3⟩ := hXg11.at
                  have qn := fun W => bl_neq ac ac W
                  have q0 := nilEl
                  clear hT hK14 hV11 hXb11 hXp11 hXa11 hXg11 htl hes hIlog hItold h38 hs38 hw11 z0 z1 f0 f1 hq14 hs9' hs9 HR
                  go_wp2_with fail
                  refine CSame.out.mono ?_
                  rintro e w12 ⟨rfl, hb12⟩
                  have HF : Hid (RisT w w1 w12 p s b pr q9 q10 false q .nilIface _ b ac ls) := Lib.hid ⟨(HV11.out.new hb12).1, HR'.out, HXb11.out.later hb12, HXp11.out.later hb12, HB11.out.trans (hb12.mono HB11.out.size), .inl ⟨rfl, rfl, hl, fun h => by cases h⟩⟩
                  clear hb12 y0 y1 y2 y3 qn
                  go_wp2
                  go_meet
                  exact ⟨q, _, b, ac, ls, by omega, rfl, .inl rfl, HF⟩
              · have e9 := prepN_no (size := 4194304) (l := l) (pr := pr) hb
                obtain ⟨rfl, hV10⟩ := hP.no (by rw [e9]; decide)
                have HPK := Lib.hid hP.kpt
                rw [e9, show errF 9 = errnoF 9 from rfl]
                clear hP hX10 CP e9
                go_upto_region 21 with fail
                have h38 := HL38.out
                have hs38 := HS38.out
                have hq14 := HW9.out.2
                have hK14 := HK9.out q14 (by omega) (by omega)
                obtain ⟨w11, hw11⟩ : ∃ w11, w11 = (w10.setCell ⟨q14, 0, none⟩ (.int .i64 bl0.n)).setCell ⟨q14, 1, none⟩ (.int .i64 bl0.node) := ⟨_, rfl⟩
                rw [← hw11]
                have hT := tch_set2 w10 q14 (.int .i64 bl0.n) (.int .i64 bl0.node)
                rw [← hw11] at hT
                have hV11 := hV10.write hT (fun k e => by rw [e]; exact ⟨hK14, by omega⟩)
                have hXb11 : BxB w11 q9 b := hT.at ((HPK.out q9 (HK9.out q9 (by omega) (by omega))).trans (HXb.out.later HB9.out)) (by omega)
                have hXp11 : BxB w11 q10 pr := hT.at ((HPK.out q10 (HK9.out q10 (by omega) (by omega))).trans (HXp.out.later HB9.out)) (by omega)
                have HF : Hid (RisT w w1 w11 p s b pr q9 q10 false q (errnoF 9) l pr ac ls) := Lib.hid ⟨hV11.less (fun k hk => .inl (.inl hk)), hR9, hXb11, hXp11, HB1.out.trans (hV11.bel.mono HB1.out.size), .inr (.inr ⟨rfl, rfl⟩)⟩
                have qn := n9_eql
                clear hT hK14 hV11 hXb11 hXp11 h38 hs38 hw11 z0 z1 f0 f1 hq14 hs9 hR9 hV10 HPK
                go_wp2
                go_meet
                exact ⟨q, l, pr, ac, ls, by omega, rfl, .inr (.inr rfl), HF⟩
          case rest =>
            obtain ⟨q', l', pr2, ac2, ls', hq', rfl, hev, HT⟩ := hcut
            obtain ⟨hV, hR, hX9, hX10, hB, hw⟩ := HT.out
            rcases hw with ⟨e13, e1, hl, hacc⟩ | ⟨e13, e1, hl⟩ | ⟨e13, e1⟩
            · subst e13
              rw [e1] at hV hR
              have HAC := Lib.hid hacc
              have qbb := fun W => bl_neq b b W
              have q00 := nilEl
              have q11 := nilNe
              obtain ⟨aW, cW, vW, hVW⟩ := hV
              have hobW := hVW.ob
              have CPW := Lib.hid (fun (wx : World) (hx : Below wc.heap.size wc wx) => promised_c wx p s b ac2 _ 17 ((hx.block p hobW.lt).trans hobW))
              have HVV : Hid (VOn w1 wc p s 4194304 l' l' b ac2 ls' 17 (Old w1)) := Lib.hid ⟨aW, cW, vW, hVW⟩
              have HR := Lib.hid hR
              have HX9 := Lib.hid hX9
              have HX10 := Lib.hid hX10
              have HB := Lib.hid hB
              have HSK : Hid (∀ wx, Below wc.heap.size wc wx → wx.cell? ⟨q9, 0, none⟩ = some (.int .i64 b.n) ∧ wx.cell? ⟨q9, 1, none⟩ = some (.int .i64 b.node) ∧ wx.cell? ⟨q10, 0, none⟩ = some (.int .i64 pr.n) ∧ wx.cell? ⟨q10, 1, none⟩ = some (.int .i64 pr.node)) := Lib.hid (fun wx hx => ⟨(HX9.out.later hx).at.1, (HX9.out.later hx).at.2, (HX10.out.later hx).at.1, (HX10.out.later hx).at.2⟩)
              have hS0 := HSK.out wc.drew (Below.refl _ _).drew
              have HD := Lib.hid (show Below wc.heap.size wc wc.drew from (Below.refl _ _).drew)
              have CLW := Lib.hid (fun (wx : World) => less_c b pr wx)
              rw [decide_eq_false hl] at CLW
              clear hVW hobW hR hX9 hX10 hB hl e1 HT hev hacc
              go_upto_region 23 with fail
              refine wp_region_held_drew (S := (fun wx => wx.cell? ⟨q9, 0, none⟩ = some (.int .i64 b.n) ∧ wx.cell? ⟨q9, 1, none⟩ = some (.int .i64 b.node) ∧ wx.cell? ⟨q10, 0, none⟩ = some (.int .i64 pr.n) ∧ wx.cell? ⟨q10, 1, none⟩ = some (.int .i64 pr.node))) (by kernel_rfl) hS0 (fun hHeld => ?_)
              refine wpAnyH_take (i := 0) (v := ?_) rfl (by kernel_rfl) (by kernel_rfl) (by kernel_rfl) (fun _ _ _ h => h) (Or.inl ⟨by rfl, ?_⟩) (by assumption) ?_
              rotate_left
              · intro wz hSw; (try dsimp only at hSw); (try simp only [List.getElem_toArray, List.getElem_cons_zero, List.getElem_cons_succ]); go_simp; first | done | with_reducible rfl
              try simp only [Act.put, List.setIfInBounds_toArray, List.set_cons_zero, List.set_cons_succ, List.getElem_toArray, List.getElem_cons_zero, List.getElem_cons_succ]
              refine wpAnyH_take (i := 1) (v := ?_) rfl (by kernel_rfl) (by kernel_rfl) (by kernel_rfl) (fun _ _ _ h => h) (Or.inl ⟨by rfl, ?_⟩) (by assumption) ?_
              rotate_left
              · intro wz hSw; (try dsimp only at hSw); (try simp only [List.getElem_toArray, List.getElem_cons_zero, List.getElem_cons_succ]); go_simp; first | done | with_reducible rfl
              try simp only [Act.put, List.setIfInBounds_toArray, List.set_cons_zero, List.set_cons_succ, List.getElem_toArray, List.getElem_cons_zero, List.getElem_cons_succ]
              refine wpAnyH_take (i := 2) (v := ?_) rfl (by kernel_rfl) (by kernel_rfl) (by kernel_rfl) (fun _ _ _ h => h) (Or.inl ⟨by rfl, ?_⟩) (by assumption) ?_
              rotate_left
              · intro wz hSw; (try dsimp only at hSw); (try simp only [List.getElem_toArray, List.getElem_cons_zero, List.getElem_cons_succ]); go_simp; first | done | with_reducible rfl
              try simp only [Act.put, List.setIfInBounds_toArray, List.set_cons_zero, List.set_cons_succ, List.getElem_toArray, List.getElem_cons_zero, List.getElem_cons_succ]
              refine wpAnyH_take (i := 3) (v := ?_) rfl (by kernel_rfl) (by kernel_rfl) (by kernel_rfl) (fun _ _ _ h => h) (Or.inl ⟨by rfl, ?_⟩) (by assumption) ?_
              rotate_left
              · intro wz hSw; (try dsimp only at hSw); (try simp only [List.getElem_toArray, List.getElem_cons_zero, List.getElem_cons_succ]); go_simp; first | done | with_reducible rfl
              try simp only [Act.put, List.setIfInBounds_toArray, List.set_cons_zero, List.set_cons_succ, List.getElem_toArray, List.getElem_cons_zero, List.getElem_cons_succ]
              refine wpAnyH_take (i := 5) (v := ?_) rfl (by kernel_rfl) (by kernel_rfl) (by kernel_rfl) (fun _ _ _ h => h) (Or.inl ⟨by rfl, ?_⟩) (by assumption) ?_
              rotate_left
              · intro wz hSw; (try dsimp only at hSw); (try simp only [List.getElem_toArray, List.getElem_cons_zero, List.getElem_cons_succ]); go_simp; first | done | with_reducible rfl
              try simp only [Act.put, List.setIfInBounds_toArray, List.set_cons_zero, List.set_cons_succ, List.getElem_toArray, List.getElem_cons_zero, List.getElem_cons_succ]
              refine wpAnyH_ready (rs := [4]) (by kernel_rfl) (by simp) ?_
              refine AllReadyH.cons rfl (fun K hK => ?_) AllReadyH.nil
              try simp only [List.getElem_toArray, List.getElem_cons_zero, List.getElem_cons_succ]
              go_simp
              refine (CPW.out _ HD.out).mono ?_
              rintro e w13 ⟨rfl, hb13⟩
              have hbw13 := bl_tr HD.out hb13
              have hS1 := HSK.out _ hbw13
              go_wp2_with fail
              refine hK.out _ _ ?_ (fun hHeld4 => ?_)
              · exact hS1
              clear hK K
              try simp only [Act.put, List.setIfInBounds_toArray, List.set_cons_zero, List.set_cons_succ, List.getElem_toArray, List.getElem_cons_zero, List.getElem_cons_succ]
              refine wpAnyH_take (i := 6) (v := ?_) rfl (by kernel_rfl) (by kernel_rfl) (by kernel_rfl) (fun _ _ _ h => h) (Or.inl ⟨by rfl, ?_⟩) (by assumption) ?_
              rotate_left
              · intro wz hSw; (try dsimp only at hSw); (try simp only [List.getElem_toArray, List.getElem_cons_zero, List.getElem_cons_succ]); go_simp; first | done | with_reducible rfl
              try simp only [Act.put, List.setIfInBounds_toArray, List.set_cons_zero, List.set_cons_succ, List.getElem_toArray, List.getElem_cons_zero, List.getElem_cons_succ]
              refine wpAnyH_take (i := 7) (v := ?_) rfl (by kernel_rfl) (by kernel_rfl) (by kernel_rfl) (fun _ _ _ h => h) (Or.inl ⟨by rfl, ?_⟩) (by assumption) ?_
              rotate_left
              · intro wz hSw; (try dsimp only at hSw); (try simp only [List.getElem_toArray, List.getElem_cons_zero, List.getElem_cons_succ]); go_simp; first | done | with_reducible rfl
              try simp only [Act.put, List.setIfInBounds_toArray, List.set_cons_zero, List.set_cons_succ, List.getElem_toArray, List.getElem_cons_zero, List.getElem_cons_succ]
              refine wpAnyH_take (i := 8) (v := ?_) rfl (by kernel_rfl) (by kernel_rfl) (by kernel_rfl) (fun _ _ _ h => h) (Or.inl ⟨by rfl, ?_⟩) (by assumption) ?_
              rotate_left
              · intro wz hSw; (try dsimp only at hSw); (try simp only [List.getElem_toArray, List.getElem_cons_zero, List.getElem_cons_succ]); go_simp; first | done | with_reducible rfl
              try simp only [Act.put, List.setIfInBounds_toArray, List.set_cons_zero, List.set_cons_succ, List.getElem_toArray, List.getElem_cons_zero, List.getElem_cons_succ]
              refine wpAnyH_take (i := 9) (v := ?_) rfl (by kernel_rfl) (by kernel_rfl) (by kernel_rfl) (fun _ _ _ h => h) (Or.inl ⟨by rfl, ?_⟩) (by assumption) ?_
              rotate_left
              · intro wz hSw; (try dsimp only at hSw); (try simp only [List.getElem_toArray, List.getElem_cons_zero, List.getElem_cons_succ]); go_simp; first | done | with_reducible rfl
              try simp only [Act.put, List.setIfInBounds_toArray, List.set_cons_zero, List.set_cons_succ, List.getElem_toArray, List.getElem_cons_zero, List.getElem_cons_succ]
              refine wpAnyH_ready (rs := [10]) (by kernel_rfl) (by simp) ?_
              refine AllReadyH.cons rfl (fun K hK => ?_) AllReadyH.nil
              try simp only [List.getElem_toArray, List.getElem_cons_zero, List.getElem_cons_succ]
              go_simp
              refine (CLW.out _).mono ?_
              rintro e w14 ⟨rfl, hb14⟩
              have hbw14 := bl_tr hbw13 hb14
              have hS2 := HSK.out _ hbw14
              go_wp2_with fail
              refine hK.out _ _ ?_ (fun hHeld10 => ?_)
              · exact hS2
              clear hK K
              try simp only [Act.put, List.setIfInBounds_toArray, List.set_cons_zero, List.set_cons_succ, List.getElem_toArray, List.getElem_cons_zero, List.getElem_cons_succ]
              refine wpAnyH_take (i := 11) (v := ?_) rfl (by kernel_rfl) (by kernel_rfl) (by kernel_rfl) (fun _ _ _ h => h) (Or.inl ⟨by rfl, ?_⟩) (by assumption) ?_
              rotate_left
              · intro wz hSw; (try dsimp only at hSw); (try simp only [List.getElem_toArray, List.getElem_cons_zero, List.getElem_cons_succ]); go_simp; first | done | with_reducible rfl
              try simp only [Act.put, List.setIfInBounds_toArray, List.set_cons_zero, List.set_cons_succ, List.getElem_toArray, List.getElem_cons_zero, List.getElem_cons_succ]
              refine wpAnyH_take (i := 12) (v := ?_) rfl (by kernel_rfl) (by kernel_rfl) (by kernel_rfl) (fun _ _ _ h => h) (Or.inl ⟨by rfl, ?_⟩) (by assumption) ?_
              rotate_left
              · intro wz hSw; (try dsimp only at hSw); (try simp only [List.getElem_toArray, List.getElem_cons_zero, List.getElem_cons_succ]); go_simp; first | done | with_reducible rfl
              try simp only [Act.put, List.setIfInBounds_toArray, List.set_cons_zero, List.set_cons_succ, List.getElem_toArray, List.getElem_cons_zero, List.getElem_cons_succ]
              refine wpAnyH_take (i := 13) (v := ?_) rfl (by kernel_rfl) (by kernel_rfl) (by kernel_rfl) (fun _ _ _ h => h) (Or.inl ⟨by rfl, ?_⟩) (by assumption) ?_
              rotate_left
              · intro wz hSw; (try dsimp only at hSw); (try simp only [List.getElem_toArray, List.getElem_cons_zero, List.getElem_cons_succ]); go_simp; first | done | with_reducible rfl
              try simp only [Act.put, List.setIfInBounds_toArray, List.set_cons_zero, List.set_cons_succ, List.getElem_toArray, List.getElem_cons_zero, List.getElem_cons_succ]
              refine wpAnyH_take (i := 14) (v := ?_) rfl (by kernel_rfl) (by kernel_rfl) (by kernel_rfl) (fun _ _ _ h => h) (Or.inl ⟨by rfl, ?_⟩) (by assumption) ?_
              rotate_left
              · intro wz hSw; (try dsimp only at hSw); (try simp only [List.getElem_toArray, List.getElem_cons_zero, List.getElem_cons_succ]); go_simp; first | done | with_reducible rfl
              try simp only [Act.put, List.setIfInBounds_toArray, List.set_cons_zero, List.set_cons_succ, List.getElem_toArray, List.getElem_cons_zero, List.getElem_cons_succ]
              refine wpAnyH_take (i := 15) (v := ?_) rfl (by kernel_rfl) (by kernel_rfl) (by kernel_rfl) (fun _ _ _ h => h) (Or.inl ⟨by rfl, ?_⟩) (by assumption) ?_
              rotate_left
              · intro wz hSw; (try dsimp only at hSw); (try simp only [List.getElem_toArray, List.getElem_cons_zero, List.getElem_cons_succ]); go_simp; first | done | with_reducible rfl
              try simp only [Act.put, List.setIfInBounds_toArray, List.set_cons_zero, List.set_cons_succ, List.getElem_toArray, List.getElem_cons_zero, List.getElem_cons_succ]
              refine wpAnyH_take (i := 16) (v := ?_) rfl (by kernel_rfl) (by kernel_rfl) (by kernel_rfl) (fun _ _ _ h => h) (Or.inl ⟨by rfl, ?_⟩) (by assumption) ?_
              rotate_left
              · intro wz hSw; (try dsimp only at hSw); (try simp only [List.getElem_toArray, List.getElem_cons_zero, List.getElem_cons_succ]); go_simp; first | done | with_reducible rfl
              try simp only [Act.put, List.setIfInBounds_toArray, List.set_cons_zero, List.set_cons_succ, List.getElem_toArray, List.getElem_cons_zero, List.getElem_cons_succ]
              refine wpAnyH_take (i := 17) (v := undef) rfl (by kernel_rfl) (by kernel_rfl) (by kernel_rfl) (fun _ _ _ h => h) (Or.inr ⟨by rfl, rfl⟩) (by assumption) ?_
              try simp only [Act.put, List.setIfInBounds_toArray, List.set_cons_zero, List.set_cons_succ, List.getElem_toArray, List.getElem_cons_zero, List.getElem_cons_succ]
              refine wpAnyH_take (i := 18) (v := undef) rfl (by kernel_rfl) (by kernel_rfl) (by kernel_rfl) (fun _ _ _ h => h) (Or.inr ⟨by rfl, rfl⟩) (by assumption) ?_
              try simp only [Act.put, List.setIfInBounds_toArray, List.set_cons_zero, List.set_cons_succ, List.getElem_toArray, List.getElem_cons_zero, List.getElem_cons_succ]
              refine wpAnyH_take (i := 19) (v := undef) rfl (by kernel_rfl) (by kernel_rfl) (by kernel_rfl) (fun _ _ _ h => h) (Or.inr ⟨by rfl, rfl⟩) (by assumption) ?_
              try simp only [Act.put, List.setIfInBounds_toArray, List.set_cons_zero, List.set_cons_succ, List.getElem_toArray, List.getElem_cons_zero, List.getElem_cons_succ]
              refine wpAnyH_take (i := 20) (v := undef) rfl (by kernel_rfl) (by kernel_rfl) (by kernel_rfl) (fun _ _ _ h => h) (Or.inr ⟨by rfl, rfl⟩) (by assumption) ?_
              try simp only [Act.put, List.setIfInBounds_toArray, List.set_cons_zero, List.set_cons_succ, List.getElem_toArray, List.getElem_cons_zero, List.getElem_cons_succ]
              refine wpAnyH_take (i := 21) (v := ?_) rfl (by kernel_rfl) (by kernel_rfl) (by kernel_rfl) (fun _ _ _ h => h) (Or.inl ⟨by rfl, ?_⟩) (by assumption) ?_
              rotate_left
              · intro wz hSw; (try dsimp only at hSw); (try simp only [List.getElem_toArray, List.getElem_cons_zero, List.getElem_cons_succ]); go_simp; first | done | with_reducible rfl
              try simp only [Act.put, List.setIfInBounds_toArray, List.set_cons_zero, List.set_cons_succ, List.getElem_toArray, List.getElem_cons_zero, List.getElem_cons_succ]
              refine wpAnyH_take (i := 22) (v := ?_) rfl (by kernel_rfl) (by kernel_rfl) (by kernel_rfl) (fun _ _ _ h => h) (Or.inl ⟨by rfl, ?_⟩) (by assumption) ?_
              rotate_left
              · intro wz hSw; (try dsimp only at hSw); (try simp only [List.getElem_toArray, List.getElem_cons_zero, List.getElem_cons_succ]); go_simp; first | done | with_reducible rfl
              try simp only [Act.put, List.setIfInBounds_toArray, List.set_cons_zero, List.set_cons_succ, List.getElem_toArray, List.getElem_cons_zero, List.getElem_cons_succ]
              refine wpAnyH_done (by kernel_rfl) ?_ _
              have HV14 := Lib.hid (HVV.out.new hbw14).1
              have HX9b := Lib.hid (HX9.out.later hbw14)
              have HX10b := Lib.hid (HX10.out.later hbw14)
              have HBb := Lib.hid (HB.out.trans (hbw14.mono HB.out.size))
              clear hS0 hS1 hHeld HVV HX9 HX10 HB HSK HD CPW hb13 hbw13 hS2 hb14 hbw14
              have qe := nil_eq8
              have HV15 := HV14
              have HX9c := HX9b
              have HBc := HBb
              obtain ⟨w15, rfl⟩ : ∃ v, v = w14 := ⟨_, rfl⟩
              clear HV14 HX9b HBb HX10b
              obtain ⟨aV, cV, vV, hVX⟩ := HV15.out
              have CC := Lib.hid (accepted_c w15 p s b ac2 ls' aV cV vV 17 hVX.ob hVX.log hVX.few)
              clear hVX
              go_wp2_with fail
              refine CC.out.mono ?_
              rintro e w16 ⟨⟨aL, cL, vL, rfl, hOL⟩, hb16⟩
              obtain ⟨w17, hw17⟩ : ∃ w17, w17 = w16.alloc (.cells #[.int .i64 ac2.n, .int .i64 ac2.node] tyB2) := ⟨_, rfl⟩
              have hb17 : Below w16.heap.size w16 w17 := by rw [hw17]; exact bl_al (Below.refl _ _) _
              have hX17 := bxB_new w16 ac2
              rw [show w16.alloc ac2.obj = w17 from hw17.symm] at hX17
              obtain ⟨q16, hq16⟩ : ∃ q, q = w16.heap.size := ⟨_, rfl⟩
              rw [← hq16] at hX17
              have hb57 := bl_tr hb16 hb17
              have HV17 := Lib.hid (HV15.out.new hb57).1
              have HX9d := Lib.hid (HX9c.out.later hb57)
              have HBd := Lib.hid (HBc.out.trans (hb57.mono HBc.out.size))
              have HOL := Lib.hid (hOL.later hb17)
              have HX17 := Lib.hid hX17
              have HW17 := Lib.hid (And.intro hw17 hq16)
              clear hw17 hX17 hq16 hb16 hb17 hb57 hOL CC HV15 HX9c HBc qe
              go_upto_region 28 with fail
              rw [show w16.alloc (.cells #[.int .i64 ac2.n, .int .i64 ac2.node] tyB2) = w17 from HW17.out.1.symm, ← HW17.out.2]
              obtain ⟨N, hN⟩ : ∃ N, N = ls'.length := ⟨_, rfl⟩
              rw [← hN]
              have HN := Lib.hid hN
              clear hN
              go_cut [153] from 122 to 153 (fun v wx => v = .bool false ∧ w17 = wx)
              case first =>
                by_cases hc2 : i < n2
                · obtain ⟨b2, o2, rfl, hcb⟩ := (HJ.out.below HBd.out).at (by omega)
                  have e0 := hcb i hc2
                  have jj : (i : Int) < (n2 : Int) := by omega
                  have jc : (i : Int) ≤ (c2 : Int) := by omega
                  cases hb : os.getD i false with
                  | true =>
                    rw [hb] at e0
                    have hjt : j = true := by rw [HJJ.out, hb, decide_eq_true hc2]; rfl
                    obtain ⟨hab, hls⟩ := HAC.out hjt
                    have HFX : Hid (Bl.n ac2 = b.n ∧ Bl.node ac2 = b.node) := Lib.hid ⟨by rw [hab], by rw [hab]⟩
                    obtain ⟨x0, x1⟩ := HX9d.out.at
                    obtain ⟨x2, x3⟩ := HX17.out.at
                    have qn := fun W => bl_neq ac2 b W
                    rw [decide_eq_true hab] at qn
                    have hN1 : N = 1 := by rw [HN.out, hls]; rfl
                    subst hN1
                    have hIL := HOL.out.in (HR.out.enc.typ)
                    rw [← HN.out] at hIL
                    obtain ⟨bL, oL, rfl⟩ := hIL.block (by decide)
                    have k2 := (hIL.cell (j := 0) (by decide)).c2
                    rw [show ls'.getD 0 cm0 = Go.Proofs.Ytbkpkakjfhkfaaa.hlt (q' : Int) from by rw [hls]; rfl] at k2
                    rw [show (Go.Proofs.Ytbkpkakjfhkfaaa.hlt (q' : Int)).seq = (q' : Int) from rfl, Nat.zero_mul, Nat.add_zero] at k2
                    clear hcb hb hjt hab hls hIL
                    go_wp2
                    go_meet
                    exact ⟨rfl, rfl⟩
                  | false =>
                    rw [hb] at e0
                    clear hcb hb
                    go_wp2
                    go_meet
                    exact ⟨rfl, rfl⟩
                · have jj : ¬ (i : Int) < (n2 : Int) := by omega
                  go_wp2
                  go_meet
                  exact ⟨rfl, rfl⟩
              case rest =>
                obtain ⟨rfl, rfl⟩ := hcut
                obtain ⟨aV, cV, vV, hVX⟩ := HV17.out
                have hobW := hVX.ob
                have CPW := Lib.hid (fun (wx : World) (hx : Below w17.heap.size w17 wx) => promised_c wx p s b ac2 _ 17 ((hx.block p hobW.lt).trans hobW))
                have CL2 := Lib.hid (fun (wx : World) => less_c b ac2 wx)
                rw [decide_eq_false HR.out.low] at CL2
                have hS0 : w17.drew.cell? ⟨q16, 0, none⟩ = some (.int .i64 ac2.n) ∧ w17.drew.cell? ⟨q16, 1, none⟩ = some (.int .i64 ac2.node) := ⟨HX17.out.at.1, HX17.out.at.2⟩
                clear hVX hobW
                go_upto_region 30 with fail
                go_region_held3 (fun wx => wx.cell? ⟨q16, 0, none⟩ = some (.int .i64 ac2.n) ∧ wx.cell? ⟨q16, 1, none⟩ = some (.int .i64 ac2.node)) (first | (with_reducible exact hS0) | (with_reducible assumption) | fail)
                  (first
                    | (go_at_call 40; (with_reducible refine (CPW.out _ (Below.refl _ _).drew).mono ?_); rintro e w18 ⟨rfl, hb18⟩; have hbw18 := bl_tr (Below.refl w17.heap.size w17).drew hb18; have hS1 := (show w18.cell? ⟨q16, 0, none⟩ = some (.int .i64 ac2.n) ∧ w18.cell? ⟨q16, 1, none⟩ = some (.int .i64 ac2.node) from ⟨(HX17.out.later hbw18).at.1, (HX17.out.later hbw18).at.2⟩))
                    | (go_at_call 42; (with_reducible refine (CL2.out _).mono ?_); rintro e w19 ⟨rfl, hb19⟩; have hbw19 := bl_tr hbw18 hb19; have hS2 := (show w19.cell? ⟨q16, 0, none⟩ = some (.int .i64 ac2.n) ∧ w19.cell? ⟨q16, 1, none⟩ = some (.int .i64 ac2.node) from ⟨(HX17.out.later hbw19).at.1, (HX17.out.later hbw19).at.2⟩))
                    | fail)
                all_goals
                  have HFI := Lib.hid (And.intro (HV17.out.new hbw19).1 HR.out)
                  clear hS0 hS1 hS2 hb18 hb19 hbw18 hbw19 CPW CL2
                  go_wp2
                  go_roundw
                  case rel => exact ⟨i + 1, q', l', b, ac2, ls', by omega, by omega, by go_num, rfl, HFI⟩
                  case measure => simp [intOf]; omega
            · subst e13
              rw [e1] at hV hR
              have qbb := fun W => bl_neq pr pr W
              have q00 := n8_eql
              have q11 := eight_neq
              obtain ⟨aW, cW, vW, hVW⟩ := hV
              have hobW := hVW.ob
              have CPW := Lib.hid (fun (wx : World) (hx : Below wc.heap.size wc wx) => promised_c wx p s pr ac2 _ 17 ((hx.block p hobW.lt).trans hobW))
              have HVV : Hid (VOn w1 wc p s 4194304 l' l' pr ac2 ls' 17 (Old w1)) := Lib.hid ⟨aW, cW, vW, hVW⟩
              have HR := Lib.hid hR
              have HX9 := Lib.hid hX9
              have HX10 := Lib.hid hX10
              have HB := Lib.hid hB
              have HSK : Hid (∀ wx, Below wc.heap.size wc wx → wx.cell? ⟨q9, 0, none⟩ = some (.int .i64 b.n) ∧ wx.cell? ⟨q9, 1, none⟩ = some (.int .i64 b.node) ∧ wx.cell? ⟨q10, 0, none⟩ = some (.int .i64 pr.n) ∧ wx.cell? ⟨q10, 1, none⟩ = some (.int .i64 pr.node)) := Lib.hid (fun wx hx => ⟨(HX9.out.later hx).at.1, (HX9.out.later hx).at.2, (HX10.out.later hx).at.1, (HX10.out.later hx).at.2⟩)
              have hS0 := HSK.out wc.drew (Below.refl _ _).drew
              have HD := Lib.hid (show Below wc.heap.size wc wc.drew from (Below.refl _ _).drew)
              have CLW := Lib.hid (fun (wx : World) => less_c b pr wx)
              rw [decide_eq_true hl] at CLW
              clear hVW hobW hR hX9 hX10 hB hl e1 HT hev
              go_upto_region 23 with fail
              refine wp_region_held_drew (S := (fun wx => wx.cell? ⟨q9, 0, none⟩ = some (.int .i64 b.n) ∧ wx.cell? ⟨q9, 1, none⟩ = some (.int .i64 b.node) ∧ wx.cell? ⟨q10, 0, none⟩ = some (.int .i64 pr.n) ∧ wx.cell? ⟨q10, 1, none⟩ = some (.int .i64 pr.node))) (by kernel_rfl) hS0 (fun hHeld => ?_)
              refine wpAnyH_take (i := 0) (v := ?_) rfl (by kernel_rfl) (by kernel_rfl) (by kernel_rfl) (fun _ _ _ h => h) (Or.inl ⟨by rfl, ?_⟩) (by assumption) ?_
              rotate_left
              · intro wz hSw; (try dsimp only at hSw); (try simp only [List.getElem_toArray, List.getElem_cons_zero, List.getElem_cons_succ]); go_simp; first | done | with_reducible rfl
              try simp only [Act.put, List.setIfInBounds_toArray, List.set_cons_zero, List.set_cons_succ, List.getElem_toArray, List.getElem_cons_zero, List.getElem_cons_succ]
              refine wpAnyH_take (i := 1) (v := ?_) rfl (by kernel_rfl) (by kernel_rfl) (by kernel_rfl) (fun _ _ _ h => h) (Or.inl ⟨by rfl, ?_⟩) (by assumption) ?_
              rotate_left
              · intro wz hSw; (try dsimp only at hSw); (try simp only [List.getElem_toArray, List.getElem_cons_zero, List.getElem_cons_succ]); go_simp; first | done | with_reducible rfl
              try simp only [Act.put, List.setIfInBounds_toArray, List.set_cons_zero, List.set_cons_succ, List.getElem_toArray, List.getElem_cons_zero, List.getElem_cons_succ]
              refine wpAnyH_take (i := 2) (v := ?_) rfl (by kernel_rfl) (by kernel_rfl) (by kernel_rfl) (fun _ _ _ h => h) (Or.inl ⟨by rfl, ?_⟩) (by assumption) ?_
              rotate_left
              · intro wz hSw; (try dsimp only at hSw); (try simp only [List.getElem_toArray, List.getElem_cons_zero, List.getElem_cons_succ]); go_simp; first | done | with_reducible rfl
              try simp only [Act.put, List.setIfInBounds_toArray, List.set_cons_zero, List.set_cons_succ, List.getElem_toArray, List.getElem_cons_zero, List.getElem_cons_succ]
              refine wpAnyH_take (i := 3) (v := undef) rfl (by kernel_rfl) (by kernel_rfl) (by kernel_rfl) (fun _ _ _ h => h) (Or.inr ⟨by rfl, rfl⟩) (by assumption) ?_
              try simp only [Act.put, List.setIfInBounds_toArray, List.set_cons_zero, List.set_cons_succ, List.getElem_toArray, List.getElem_cons_zero, List.getElem_cons_succ]
              refine wpAnyH_take (i := 4) (v := undef) rfl (by kernel_rfl) (by kernel_rfl) (by kernel_rfl) (fun _ _ _ h => h) (Or.inr ⟨by rfl, rfl⟩) (by assumption) ?_
              try simp only [Act.put, List.setIfInBounds_toArray, List.set_cons_zero, List.set_cons_succ, List.getElem_toArray, List.getElem_cons_zero, List.getElem_cons_succ]
              refine wpAnyH_take (i := 5) (v := undef) rfl (by kernel_rfl) (by kernel_rfl) (by kernel_rfl) (fun _ _ _ h => h) (Or.inr ⟨by rfl, rfl⟩) (by assumption) ?_
              try simp only [Act.put, List.setIfInBounds_toArray, List.set_cons_zero, List.set_cons_succ, List.getElem_toArray, List.getElem_cons_zero, List.getElem_cons_succ]
              refine wpAnyH_take (i := 6) (v := undef) rfl (by kernel_rfl) (by kernel_rfl) (by kernel_rfl) (fun _ _ _ h => h) (Or.inr ⟨by rfl, rfl⟩) (by assumption) ?_
              try simp only [Act.put, List.setIfInBounds_toArray, List.set_cons_zero, List.set_cons_succ, List.getElem_toArray, List.getElem_cons_zero, List.getElem_cons_succ]
              refine wpAnyH_take (i := 7) (v := undef) rfl (by kernel_rfl) (by kernel_rfl) (by kernel_rfl) (fun _ _ _ h => h) (Or.inr ⟨by rfl, rfl⟩) (by assumption) ?_
              try simp only [Act.put, List.setIfInBounds_toArray, List.set_cons_zero, List.set_cons_succ, List.getElem_toArray, List.getElem_cons_zero, List.getElem_cons_succ]
              refine wpAnyH_take (i := 8) (v := undef) rfl (by kernel_rfl) (by kernel_rfl) (by kernel_rfl) (fun _ _ _ h => h) (Or.inr ⟨by rfl, rfl⟩) (by assumption) ?_
              try simp only [Act.put, List.setIfInBounds_toArray, List.set_cons_zero, List.set_cons_succ, List.getElem_toArray, List.getElem_cons_zero, List.getElem_cons_succ]
              refine wpAnyH_take (i := 9) (v := undef) rfl (by kernel_rfl) (by kernel_rfl) (by kernel_rfl) (fun _ _ _ h => h) (Or.inr ⟨by rfl, rfl⟩) (by assumption) ?_
              try simp only [Act.put, List.setIfInBounds_toArray, List.set_cons_zero, List.set_cons_succ, List.getElem_toArray, List.getElem_cons_zero, List.getElem_cons_succ]
              refine wpAnyH_take (i := 10) (v := undef) rfl (by kernel_rfl) (by kernel_rfl) (by kernel_rfl) (fun _ _ _ h => h) (Or.inr ⟨by rfl, rfl⟩) (by assumption) ?_
              try simp only [Act.put, List.setIfInBounds_toArray, List.set_cons_zero, List.set_cons_succ, List.getElem_toArray, List.getElem_cons_zero, List.getElem_cons_succ]
              refine wpAnyH_take (i := 11) (v := undef) rfl (by kernel_rfl) (by kernel_rfl) (by kernel_rfl) (fun _ _ _ h => h) (Or.inr ⟨by rfl, rfl⟩) (by assumption) ?_
              try simp only [Act.put, List.setIfInBounds_toArray, List.set_cons_zero, List.set_cons_succ, List.getElem_toArray, List.getElem_cons_zero, List.getElem_cons_succ]
              refine wpAnyH_take (i := 12) (v := ?_) rfl (by kernel_rfl) (by kernel_rfl) (by kernel_rfl) (fun _ _ _ h => h) (Or.inl ⟨by rfl, ?_⟩) (by assumption) ?_
              rotate_left
              · intro wz hSw; (try dsimp only at hSw); (try simp only [List.getElem_toArray, List.getElem_cons_zero, List.getElem_cons_succ]); go_simp; first | done | with_reducible rfl
              try simp only [Act.put, List.setIfInBounds_toArray, List.set_cons_zero, List.set_cons_succ, List.getElem_toArray, List.getElem_cons_zero, List.getElem_cons_succ]
              refine wpAnyH_take (i := 13) (v := ?_) rfl (by kernel_rfl) (by kernel_rfl) (by kernel_rfl) (fun _ _ _ h => h) (Or.inl ⟨by rfl, ?_⟩) (by assumption) ?_
              rotate_left
              · intro wz hSw; (try dsimp only at hSw); (try simp only [List.getElem_toArray, List.getElem_cons_zero, List.getElem_cons_succ]); go_simp; first | done | with_reducible rfl
              try simp only [Act.put, List.setIfInBounds_toArray, List.set_cons_zero, List.set_cons_succ, List.getElem_toArray, List.getElem_cons_zero, List.getElem_cons_succ]
              refine wpAnyH_take (i := 14) (v := ?_) rfl (by kernel_rfl) (by kernel_rfl) (by kernel_rfl) (fun _ _ _ h => h) (Or.inl ⟨by rfl, ?_⟩) (by assumption) ?_
              rotate_left
              · intro wz hSw; (try dsimp only at hSw); (try simp only [List.getElem_toArray, List.getElem_cons_zero, List.getElem_cons_succ]); go_simp; first | done | with_reducible rfl
              try simp only [Act.put, List.setIfInBounds_toArray, List.set_cons_zero, List.set_cons_succ, List.getElem_toArray, List.getElem_cons_zero, List.getElem_cons_succ]
              refine wpAnyH_take (i := 15) (v := ?_) rfl (by kernel_rfl) (by kernel_rfl) (by kernel_rfl) (fun _ _ _ h => h) (Or.inl ⟨by rfl, ?_⟩) (by assumption) ?_
              rotate_left
              · intro wz hSw; (try dsimp only at hSw); (try simp only [List.getElem_toArray, List.getElem_cons_zero, List.getElem_cons_succ]); go_simp; first | done | with_reducible rfl
              try simp only [Act.put, List.setIfInBounds_toArray, List.set_cons_zero, List.set_cons_succ, List.getElem_toArray, List.getElem_cons_zero, List.getElem_cons_succ]
              refine wpAnyH_take (i := 16) (v := ?_) rfl (by kernel_rfl) (by kernel_rfl) (by kernel_rfl) (fun _ _ _ h => h) (Or.inl ⟨by rfl, ?_⟩) (by assumption) ?_
              rotate_left
              · intro wz hSw; (try dsimp only at hSw); (try simp only [List.getElem_toArray, List.getElem_cons_zero, List.getElem_cons_succ]); go_simp; first | done | with_reducible rfl
              try simp only [Act.put, List.setIfInBounds_toArray, List.set_cons_zero, List.set_cons_succ, List.getElem_toArray, List.getElem_cons_zero, List.getElem_cons_succ]
              refine wpAnyH_take (i := 17) (v := ?_) rfl (by kernel_rfl) (by kernel_rfl) (by kernel_rfl) (fun _ _ _ h => h) (Or.inl ⟨by rfl, ?_⟩) (by assumption) ?_
              rotate_left
              · intro wz hSw; (try dsimp only at hSw); (try simp only [List.getElem_toArray, List.getElem_cons_zero, List.getElem_cons_succ]); go_simp; first | done | with_reducible rfl
              try simp only [Act.put, List.setIfInBounds_toArray, List.set_cons_zero, List.set_cons_succ, List.getElem_toArray, List.getElem_cons_zero, List.getElem_cons_succ]
              refine wpAnyH_take (i := 19) (v := ?_) rfl (by kernel_rfl) (by kernel_rfl) (by kernel_rfl) (fun _ _ _ h => h) (Or.inl ⟨by rfl, ?_⟩) (by assumption) ?_
              rotate_left
              · intro wz hSw; (try dsimp only at hSw); (try simp only [List.getElem_toArray, List.getElem_cons_zero, List.getElem_cons_succ]); go_simp; first | done | with_reducible rfl
              try simp only [Act.put, List.setIfInBounds_toArray, List.set_cons_zero, List.set_cons_succ, List.getElem_toArray, List.getElem_cons_zero, List.getElem_cons_succ]
              refine wpAnyH_ready (rs := [18]) (by kernel_rfl) (by simp) ?_
              refine AllReadyH.cons rfl (fun K hK => ?_) AllReadyH.nil
              try simp only [List.getElem_toArray, List.getElem_cons_zero, List.getElem_cons_succ]
              go_simp
              refine (CPW.out _ HD.out).mono ?_
              rintro e w13 ⟨rfl, hb13⟩
              have hbw13 := bl_tr HD.out hb13
              have hS1 := HSK.out _ hbw13
              go_wp2_with fail
              refine hK.out _ _ ?_ (fun hHeld18 => ?_)
              · exact hS1
              clear hK K
              try simp only [Act.put, List.setIfInBounds_toArray, List.set_cons_zero, List.set_cons_succ, List.getElem_toArray, List.getElem_cons_zero, List.getElem_cons_succ]
              refine wpAnyH_take (i := 20) (v := ?_) rfl (by kernel_rfl) (by kernel_rfl) (by kernel_rfl) (fun _ _ _ h => h) (Or.inl ⟨by rfl, ?_⟩) (by assumption) ?_
              rotate_left
              · intro wz hSw; (try dsimp only at hSw); (try simp only [List.getElem_toArray, List.getElem_cons_zero, List.getElem_cons_succ]); go_simp; first | done | with_reducible rfl
              try simp only [Act.put, List.setIfInBounds_toArray, List.set_cons_zero, List.set_cons_succ, List.getElem_toArray, List.getElem_cons_zero, List.getElem_cons_succ]
              refine wpAnyH_take (i := 21) (v := ?_) rfl (by kernel_rfl) (by kernel_rfl) (by kernel_rfl) (fun _ _ _ h => h) (Or.inl ⟨by rfl, ?_⟩) (by assumption) ?_
              rotate_left
              · intro wz hSw; (try dsimp only at hSw); (try simp only [List.getElem_toArray, List.getElem_cons_zero, List.getElem_cons_succ]); go_simp; first | done | with_reducible rfl
              try simp only [Act.put, List.setIfInBounds_toArray, List.set_cons_zero, List.set_cons_succ, List.getElem_toArray, List.getElem_cons_zero, List.getElem_cons_succ]
              refine wpAnyH_take (i := 22) (v := ?_) rfl (by kernel_rfl) (by kernel_rfl) (by kernel_rfl) (fun _ _ _ h => h) (Or.inl ⟨by rfl, ?_⟩) (by assumption) ?_
              rotate_left
              · intro wz hSw; (try dsimp only at hSw); (try simp only [List.getElem_toArray, List.getElem_cons_zero, List.getElem_cons_succ]); go_simp; first | done | with_reducible rfl
              try simp only [Act.put, List.setIfInBounds_toArray, List.set_cons_zero, List.set_cons_succ, List.getElem_toArray, List.getElem_cons_zero, List.getElem_cons_succ]
              refine wpAnyH_done (by kernel_rfl) ?_ _
              have HV14 := Lib.hid (HVV.out.new hbw13).1
              have HX9b := Lib.hid (HX9.out.later hbw13)
              have HX10b := Lib.hid (HX10.out.later hbw13)
              have HBb := Lib.hid (HB.out.trans (hbw13.mono HB.out.size))
              clear hS0 hS1 hHeld HVV HX9 HX10 HB HSK HD CPW hb13 hbw13
              have qe := fun W => err_eql 8 8 W
              obtain ⟨x0, x1⟩ := HX9b.out.at
              obtain ⟨x2, x3⟩ := HX10b.out.at
              go_wp2_with fail
              refine (CLW.out _).mono ?_
              rintro e w15 ⟨rfl, hb15⟩
              have HV15 := Lib.hid (HV14.out.new hb15).1
              have HX9c := Lib.hid (HX9b.out.later hb15)
              have HBc := Lib.hid (HBb.out.trans (hb15.mono HBb.out.size))
              clear hb15 x0 x1 x2 x3 HV14 HX9b HBb HX10b
              obtain ⟨aV, cV, vV, hVX⟩ := HV15.out
              have CC := Lib.hid (accepted_c w15 p s pr ac2 ls' aV cV vV 17 hVX.ob hVX.log hVX.few)
              clear hVX
              go_wp2_with fail
              refine CC.out.mono ?_
              rintro e w16 ⟨⟨aL, cL, vL, rfl, hOL⟩, hb16⟩
              obtain ⟨w17, hw17⟩ : ∃ w17, w17 = w16.alloc (.cells #[.int .i64 ac2.n, .int .i64 ac2.node] tyB2) := ⟨_, rfl⟩
              have hb17 : Below w16.heap.size w16 w17 := by rw [hw17]; exact bl_al (Below.refl _ _) _
              have hX17 := bxB_new w16 ac2
              rw [show w16.alloc ac2.obj = w17 from hw17.symm] at hX17
              obtain ⟨q16, hq16⟩ : ∃ q, q = w16.heap.size := ⟨_, rfl⟩
              rw [← hq16] at hX17
              have hb57 := bl_tr hb16 hb17
              have HV17 := Lib.hid (HV15.out.new hb57).1
              have HX9d := Lib.hid (HX9c.out.later hb57)
              have HBd := Lib.hid (HBc.out.trans (hb57.mono HBc.out.size))
              have HOL := Lib.hid (hOL.later hb17)
              have HX17 := Lib.hid hX17
              have HW17 := Lib.hid (And.intro hw17 hq16)
              clear hw17 hX17 hq16 hb16 hb17 hb57 hOL CC HV15 HX9c HBc qe
              go_upto_region 28 with fail
              rw [show w16.alloc (.cells #[.int .i64 ac2.n, .int .i64 ac2.node] tyB2) = w17 from HW17.out.1.symm, ← HW17.out.2]
              obtain ⟨N, hN⟩ : ∃ N, N = ls'.length := ⟨_, rfl⟩
              rw [← hN]
              have HN := Lib.hid hN
              clear hN
              go_cut [153] from 122 to 153 (fun v wx => v = .bool false ∧ w17 = wx)
              case first =>
                by_cases hc2 : i < n2
                · obtain ⟨b2, o2, rfl, hcb⟩ := (HJ.out.below HBd.out).at (by omega)
                  have e0 := hcb i hc2
                  have jj : (i : Int) < (n2 : Int) := by omega
                  have jc : (i : Int) ≤ (c2 : Int) := by omega
                  cases hb : os.getD i false with
                  | true =>
                    rw [hb] at e0
                    have qn := n8_eql
                    clear hcb hb
                    go_wp2
                    go_meet
                    exact ⟨rfl, rfl⟩
                  | false =>
                    rw [hb] at e0
                    clear hcb hb
                    go_wp2
                    go_meet
                    exact ⟨rfl, rfl⟩
                · have jj : ¬ (i : Int) < (n2 : Int) := by omega
                  go_wp2
                  go_meet
                  exact ⟨rfl, rfl⟩
              case rest =>
                obtain ⟨rfl, rfl⟩ := hcut
                obtain ⟨aV, cV, vV, hVX⟩ := HV17.out
                have hobW := hVX.ob
                have CPW := Lib.hid (fun (wx : World) (hx : Below w17.heap.size w17 wx) => promised_c wx p s pr ac2 _ 17 ((hx.block p hobW.lt).trans hobW))
                have CL2 := Lib.hid (fun (wx : World) => less_c pr ac2 wx)
                rw [decide_eq_false HR.out.low] at CL2
                have hS0 : w17.drew.cell? ⟨q16, 0, none⟩ = some (.int .i64 ac2.n) ∧ w17.drew.cell? ⟨q16, 1, none⟩ = some (.int .i64 ac2.node) := ⟨HX17.out.at.1, HX17.out.at.2⟩
                clear hVX hobW
                go_upto_region 30 with fail
                go_region_held3 (fun wx => wx.cell? ⟨q16, 0, none⟩ = some (.int .i64 ac2.n) ∧ wx.cell? ⟨q16, 1, none⟩ = some (.int .i64 ac2.node)) (first | (with_reducible exact hS0) | (with_reducible assumption) | fail)
                  (first
                    | (go_at_call 40; (with_reducible refine (CPW.out _ (Below.refl _ _).drew).mono ?_); rintro e w18 ⟨rfl, hb18⟩; have hbw18 := bl_tr (Below.refl w17.heap.size w17).drew hb18; have hS1 := (show w18.cell? ⟨q16, 0, none⟩ = some (.int .i64 ac2.n) ∧ w18.cell? ⟨q16, 1, none⟩ = some (.int .i64 ac2.node) from ⟨(HX17.out.later hbw18).at.1, (HX17.out.later hbw18).at.2⟩))
                    | (go_at_call 42; (with_reducible refine (CL2.out _).mono ?_); rintro e w19 ⟨rfl, hb19⟩; have hbw19 := bl_tr hbw18 hb19; have hS2 := (show w19.cell? ⟨q16, 0, none⟩ = some (.int .i64 ac2.n) ∧ w19.cell? ⟨q16, 1, none⟩ = some (.int .i64 ac2.node) from ⟨(HX17.out.later hbw19).at.1, (HX17.out.later hbw19).at.2⟩))
                    | fail)
                all_goals
                  have HFI := Lib.hid (And.intro (HV17.out.new hbw19).1 HR.out)
                  clear hS0 hS1 hS2 hb18 hb19 hbw18 hbw19 CPW CL2
                  go_wp2
                  go_roundw
                  case rel => exact ⟨i + 1, q', l', pr, ac2, ls', by omega, by omega, by go_num, rfl, HFI⟩
                  case measure => simp [intOf]; omega
            · subst e13
              rw [e1] at hV hR
              have qbb := fun W => bl_neq pr pr W
              have q00 := n9_eql
              have q11 := nine_neq
              obtain ⟨aW, cW, vW, hVW⟩ := hV
              have hobW := hVW.ob
              have CPW := Lib.hid (fun (wx : World) (hx : Below wc.heap.size wc wx) => promised_c wx p s pr ac2 _ 17 ((hx.block p hobW.lt).trans hobW))
              have HVV : Hid (VOn w1 wc p s 4194304 l' l' pr ac2 ls' 17 (Old w1)) := Lib.hid ⟨aW, cW, vW, hVW⟩
              have HR := Lib.hid hR
              have HX9 := Lib.hid hX9
              have HX10 := Lib.hid hX10
              have HB := Lib.hid hB
              have HSK : Hid (∀ wx, Below wc.heap.size wc wx → wx.cell? ⟨q9, 0, none⟩ = some (.int .i64 b.n) ∧ wx.cell? ⟨q9, 1, none⟩ = some (.int .i64 b.node) ∧ wx.cell? ⟨q10, 0, none⟩ = some (.int .i64 pr.n) ∧ wx.cell? ⟨q10, 1, none⟩ = some (.int .i64 pr.node)) := Lib.hid (fun wx hx => ⟨(HX9.out.later hx).at.1, (HX9.out.later hx).at.2, (HX10.out.later hx).at.1, (HX10.out.later hx).at.2⟩)
              have hS0 := HSK.out wc.drew (Below.refl _ _).drew
              have HD := Lib.hid (show Below wc.heap.size wc wc.drew from (Below.refl _ _).drew)
              have CLW := Lib.hid (fun (wx : World) => less_c b pr wx)
              skip
              clear hVW hobW hR hX9 hX10 hB e1 HT hev
              go_upto_region 23 with fail
              refine wp_region_held_drew (S := (fun wx => wx.cell? ⟨q9, 0, none⟩ = some (.int .i64 b.n) ∧ wx.cell? ⟨q9, 1, none⟩ = some (.int .i64 b.node) ∧ wx.cell? ⟨q10, 0, none⟩ = some (.int .i64 pr.n) ∧ wx.cell? ⟨q10, 1, none⟩ = some (.int .i64 pr.node))) (by kernel_rfl) hS0 (fun hHeld => ?_)
              refine wpAnyH_take (i := 0) (v := ?_) rfl (by kernel_rfl) (by kernel_rfl) (by kernel_rfl) (fun _ _ _ h => h) (Or.inl ⟨by rfl, ?_⟩) (by assumption) ?_
              rotate_left
              · intro wz hSw; (try dsimp only at hSw); (try simp only [List.getElem_toArray, List.getElem_cons_zero, List.getElem_cons_succ]); go_simp; first | done | with_reducible rfl
              try simp only [Act.put, List.setIfInBounds_toArray, List.set_cons_zero, List.set_cons_succ, List.getElem_toArray, List.getElem_cons_zero, List.getElem_cons_succ]
              refine wpAnyH_take (i := 1) (v := ?_) rfl (by kernel_rfl) (by kernel_rfl) (by kernel_rfl) (fun _ _ _ h => h) (Or.inl ⟨by rfl, ?_⟩) (by assumption) ?_
              rotate_left
              · intro wz hSw; (try dsimp only at hSw); (try simp only [List.getElem_toArray, List.getElem_cons_zero, List.getElem_cons_succ]); go_simp; first | done | with_reducible rfl
              try simp only [Act.put, List.setIfInBounds_toArray, List.set_cons_zero, List.set_cons_succ, List.getElem_toArray, List.getElem_cons_zero, List.getElem_cons_succ]
              refine wpAnyH_take (i := 2) (v := ?_) rfl (by kernel_rfl) (by kernel_rfl) (by kernel_rfl) (fun _ _ _ h => h) (Or.inl ⟨by rfl, ?_⟩) (by assumption) ?_
              rotate_left
              · intro wz hSw; (try dsimp only at hSw); (try simp only [List.getElem_toArray, List.getElem_cons_zero, List.getElem_cons_succ]); go_simp; first | done | with_reducible rfl
              try simp only [Act.put, List.setIfInBounds_toArray, List.set_cons_zero, List.set_cons_succ, List.getElem_toArray, List.getElem_cons_zero, List.getElem_cons_succ]
              refine wpAnyH_take (i := 3) (v := undef) rfl (by kernel_rfl) (by kernel_rfl) (by kernel_rfl) (fun _ _ _ h => h) (Or.inr ⟨by rfl, rfl⟩) (by assumption) ?_
              try simp only [Act.put, List.setIfInBounds_toArray, List.set_cons_zero, List.set_cons_succ, List.getElem_toArray, List.getElem_cons_zero, List.getElem_cons_succ]
              refine wpAnyH_take (i := 4) (v := undef) rfl (by kernel_rfl) (by kernel_rfl) (by kernel_rfl) (fun _ _ _ h => h) (Or.inr ⟨by rfl, rfl⟩) (by assumption) ?_
              try simp only [Act.put, List.setIfInBounds_toArray, List.set_cons_zero, List.set_cons_succ, List.getElem_toArray, List.getElem_cons_zero, List.getElem_cons_succ]
              refine wpAnyH_take (i := 5) (v := undef) rfl (by kernel_rfl) (by kernel_rfl) (by kernel_rfl) (fun _ _ _ h => h) (Or.inr ⟨by rfl, rfl⟩) (by assumption) ?_
              try simp only [Act.put, List.setIfInBounds_toArray, List.set_cons_zero, List.set_cons_succ, List.getElem_toArray, List.getElem_cons_zero, List.getElem_cons_succ]
              refine wpAnyH_take (i := 6) (v := undef) rfl (by kernel_rfl) (by kernel_rfl) (by kernel_rfl) (fun _ _ _ h => h) (Or.inr ⟨by rfl, rfl⟩) (by assumption) ?_
              try simp only [Act.put, List.setIfInBounds_toArray, List.set_cons_zero, List.set_cons_succ, List.getElem_toArray, List.getElem_cons_zero, List.getElem_cons_succ]
              refine wpAnyH_take (i := 7) (v := undef) rfl (by kernel_rfl) (by kernel_rfl) (by kernel_rfl) (fun _ _ _ h => h) (Or.inr ⟨by rfl, rfl⟩) (by assumption) ?_
              try simp only [Act.put, List.setIfInBounds_toArray, List.set_cons_zero, List.set_cons_succ, List.getElem_toArray, List.getElem_cons_zero, List.getElem_cons_succ]
              refine wpAnyH_take (i := 8) (v := undef) rfl (by kernel_rfl) (by kernel_rfl) (by kernel_rfl) (fun _ _ _ h => h) (Or.inr ⟨by rfl, rfl⟩) (by assumption) ?_
              try simp only [Act.put, List.setIfInBounds_toArray, List.set_cons_zero, List.set_cons_succ, List.getElem_toArray, List.getElem_cons_zero, List.getElem_cons_succ]
              refine wpAnyH_take (i := 9) (v := undef) rfl (by kernel_rfl) (by kernel_rfl) (by kernel_rfl) (fun _ _ _ h => h) (Or.inr ⟨by rfl, rfl⟩) (by assumption) ?_
              try simp only [Act.put, List.setIfInBounds_toArray, List.set_cons_zero, List.set_cons_succ, List.getElem_toArray, List.getElem_cons_zero, List.getElem_cons_succ]
              refine wpAnyH_take (i := 10) (v := undef) rfl (by kernel_rfl) (by kernel_rfl) (by kernel_rfl) (fun _ _ _ h => h) (Or.inr ⟨by rfl, rfl⟩) (by assumption) ?_
              try simp only [Act.put, List.setIfInBounds_toArray, List.set_cons_zero, List.set_cons_succ, List.getElem_toArray, List.getElem_cons_zero, List.getElem_cons_succ]
              refine wpAnyH_take (i := 11) (v := undef) rfl (by kernel_rfl) (by kernel_rfl) (by kernel_rfl) (fun _ _ _ h => h) (Or.inr ⟨by rfl, rfl⟩) (by assumption) ?_
              try simp only [Act.put, List.setIfInBounds_toArray, List.set_cons_zero, List.set_cons_succ, List.getElem_toArray, List.getElem_cons_zero, List.getElem_cons_succ]
              refine wpAnyH_take (i := 12) (v := ?_) rfl (by kernel_rfl) (by kernel_rfl) (by kernel_rfl) (fun _ _ _ h => h) (Or.inl ⟨by rfl, ?_⟩) (by assumption) ?_
              rotate_left
              · intro wz hSw; (try dsimp only at hSw); (try simp only [List.getElem_toArray, List.getElem_cons_zero, List.getElem_cons_succ]); go_simp; first | done | with_reducible rfl
              try simp only [Act.put, List.setIfInBounds_toArray, List.set_cons_zero, List.set_cons_succ, List.getElem_toArray, List.getElem_cons_zero, List.getElem_cons_succ]
              refine wpAnyH_take (i := 13) (v := ?_) rfl (by kernel_rfl) (by kernel_rfl) (by kernel_rfl) (fun _ _ _ h => h) (Or.inl ⟨by rfl, ?_⟩) (by assumption) ?_
              rotate_left
              · intro wz hSw; (try dsimp only at hSw); (try simp only [List.getElem_toArray, List.getElem_cons_zero, List.getElem_cons_succ]); go_simp; first | done | with_reducible rfl
              try simp only [Act.put, List.setIfInBounds_toArray, List.set_cons_zero, List.set_cons_succ, List.getElem_toArray, List.getElem_cons_zero, List.getElem_cons_succ]
              refine wpAnyH_take (i := 14) (v := ?_) rfl (by kernel_rfl) (by kernel_rfl) (by kernel_rfl) (fun _ _ _ h => h) (Or.inl ⟨by rfl, ?_⟩) (by assumption) ?_
              rotate_left
              · intro wz hSw; (try dsimp only at hSw); (try simp only [List.getElem_toArray, List.getElem_cons_zero, List.getElem_cons_succ]); go_simp; first | done | with_reducible rfl
              try simp only [Act.put, List.setIfInBounds_toArray, List.set_cons_zero, List.set_cons_succ, List.getElem_toArray, List.getElem_cons_zero, List.getElem_cons_succ]
              refine wpAnyH_take (i := 15) (v := ?_) rfl (by kernel_rfl) (by kernel_rfl) (by kernel_rfl) (fun _ _ _ h => h) (Or.inl ⟨by rfl, ?_⟩) (by assumption) ?_
              rotate_left
              · intro wz hSw; (try dsimp only at hSw); (try simp only [List.getElem_toArray, List.getElem_cons_zero, List.getElem_cons_succ]); go_simp; first | done | with_reducible rfl
              try simp only [Act.put, List.setIfInBounds_toArray, List.set_cons_zero, List.set_cons_succ, List.getElem_toArray, List.getElem_cons_zero, List.getElem_cons_succ]
              refine wpAnyH_take (i := 16) (v := ?_) rfl (by kernel_rfl) (by kernel_rfl) (by kernel_rfl) (fun _ _ _ h => h) (Or.inl ⟨by rfl, ?_⟩) (by assumption) ?_
              rotate_left
              · intro wz hSw; (try dsimp only at hSw); (try simp only [List.getElem_toArray, List.getElem_cons_zero, List.getElem_cons_succ]); go_simp; first | done | with_reducible rfl
              try simp only [Act.put, List.setIfInBounds_toArray, List.set_cons_zero, List.set_cons_succ, List.getElem_toArray, List.getElem_cons_zero, List.getElem_cons_succ]
              refine wpAnyH_take (i := 17) (v := ?_) rfl (by kernel_rfl) (by kernel_rfl) (by kernel_rfl) (fun _ _ _ h => h) (Or.inl ⟨by rfl, ?_⟩) (by assumption) ?_
              rotate_left
              · intro wz hSw; (try dsimp only at hSw); (try simp only [List.getElem_toArray, List.getElem_cons_zero, List.getElem_cons_succ]); go_simp; first | done | with_reducible rfl
              try simp only [Act.put, List.setIfInBounds_toArray, List.set_cons_zero, List.set_cons_succ, List.getElem_toArray, List.getElem_cons_zero, List.getElem_cons_succ]
              refine wpAnyH_take (i := 19) (v := ?_) rfl (by kernel_rfl) (by kernel_rfl) (by kernel_rfl) (fun _ _ _ h => h) (Or.inl ⟨by rfl, ?_⟩) (by assumption) ?_
              rotate_left
              · intro wz hSw; (try dsimp only at hSw); (try simp only [List.getElem_toArray, List.getElem_cons_zero, List.getElem_cons_succ]); go_simp; first | done | with_reducible rfl
              try simp only [Act.put, List.setIfInBounds_toArray, List.set_cons_zero, List.set_cons_succ, List.getElem_toArray, List.getElem_cons_zero, List.getElem_cons_succ]
              refine wpAnyH_ready (rs := [18]) (by kernel_rfl) (by simp) ?_
              refine AllReadyH.cons rfl (fun K hK => ?_) AllReadyH.nil
              try simp only [List.getElem_toArray, List.getElem_cons_zero, List.getElem_cons_succ]
              go_simp
              refine (CPW.out _ HD.out).mono ?_
              rintro e w13 ⟨rfl, hb13⟩
              have hbw13 := bl_tr HD.out hb13
              have hS1 := HSK.out _ hbw13
              go_wp2_with fail
              refine hK.out _ _ ?_ (fun hHeld18 => ?_)
              · exact hS1
              clear hK K
              try simp only [Act.put, List.setIfInBounds_toArray, List.set_cons_zero, List.set_cons_succ, List.getElem_toArray, List.getElem_cons_zero, List.getElem_cons_succ]
              refine wpAnyH_take (i := 20) (v := ?_) rfl (by kernel_rfl) (by kernel_rfl) (by kernel_rfl) (fun _ _ _ h => h) (Or.inl ⟨by rfl, ?_⟩) (by assumption) ?_
              rotate_left
              · intro wz hSw; (try dsimp only at hSw); (try simp only [List.getElem_toArray, List.getElem_cons_zero, List.getElem_cons_succ]); go_simp; first | done | with_reducible rfl
              try simp only [Act.put, List.setIfInBounds_toArray, List.set_cons_zero, List.set_cons_succ, List.getElem_toArray, List.getElem_cons_zero, List.getElem_cons_succ]
              refine wpAnyH_take (i := 21) (v := ?_) rfl (by kernel_rfl) (by kernel_rfl) (by kernel_rfl) (fun _ _ _ h => h) (Or.inl ⟨by rfl, ?_⟩) (by assumption) ?_
              rotate_left
              · intro wz hSw; (try dsimp only at hSw); (try simp only [List.getElem_toArray, List.getElem_cons_zero, List.getElem_cons_succ]); go_simp; first | done | with_reducible rfl
              try simp only [Act.put, List.setIfInBounds_toArray, List.set_cons_zero, List.set_cons_succ, List.getElem_toArray, List.getElem_cons_zero, List.getElem_cons_succ]
              refine wpAnyH_take (i := 22) (v := ?_) rfl (by kernel_rfl) (by kernel_rfl) (by kernel_rfl) (fun _ _ _ h => h) (Or.inl ⟨by rfl, ?_⟩) (by assumption) ?_
              rotate_left
              · intro wz hSw; (try dsimp only at hSw); (try simp only [List.getElem_toArray, List.getElem_cons_zero, List.getElem_cons_succ]); go_simp; first | done | with_reducible rfl
              try simp only [Act.put, List.setIfInBounds_toArray, List.set_cons_zero, List.set_cons_succ, List.getElem_toArray, List.getElem_cons_zero, List.getElem_cons_succ]
              refine wpAnyH_done (by kernel_rfl) ?_ _
              have HV14 := Lib.hid (HVV.out.new hbw13).1
              have HX9b := Lib.hid (HX9.out.later hbw13)
              have HX10b := Lib.hid (HX10.out.later hbw13)
              have HBb := Lib.hid (HB.out.trans (hbw13.mono HB.out.size))
              clear hS0 hS1 hHeld HVV HX9 HX10 HB HSK HD CPW hb13 hbw13 CLW
              have qe := fun W => err_eql 9 8 W
              have HV15 := HV14
              have HX9c := HX9b
              have HBc := HBb
              obtain ⟨w15, rfl⟩ : ∃ v, v = w13 := ⟨_, rfl⟩
              clear HV14 HX9b HBb HX10b
              obtain ⟨aV, cV, vV, hVX⟩ := HV15.out
              have CC := Lib.hid (accepted_c w15 p s pr ac2 ls' aV cV vV 17 hVX.ob hVX.log hVX.few)
              clear hVX
              go_wp2_with fail
              refine CC.out.mono ?_
              rintro e w16 ⟨⟨aL, cL, vL, rfl, hOL⟩, hb16⟩
              obtain ⟨w17, hw17⟩ : ∃ w17, w17 = w16.alloc (.cells #[.int .i64 ac2.n, .int .i64 ac2.node] tyB2) := ⟨_, rfl⟩
              have hb17 : Below w16.heap.size w16 w17 := by rw [hw17]; exact bl_al (Below.refl _ _) _
              have hX17 := bxB_new w16 ac2
              rw [show w16.alloc ac2.obj = w17 from hw17.symm] at hX17
              obtain ⟨q16, hq16⟩ : ∃ q, q = w16.heap.size := ⟨_, rfl⟩
              rw [← hq16] at hX17
              have hb57 := bl_tr hb16 hb17
              have HV17 := Lib.hid (HV15.out.new hb57).1
              have HX9d := Lib.hid (HX9c.out.later hb57)
              have HBd := Lib.hid (HBc.out.trans (hb57.mono HBc.out.size))
              have HOL := Lib.hid (hOL.later hb17)
              have HX17 := Lib.hid hX17
              have HW17 := Lib.hid (And.intro hw17 hq16)
              clear hw17 hX17 hq16 hb16 hb17 hb57 hOL CC HV15 HX9c HBc qe
              go_upto_region 28 with fail
              rw [show w16.alloc (.cells #[.int .i64 ac2.n, .int .i64 ac2.node] tyB2) = w17 from HW17.out.1.symm, ← HW17.out.2]
              obtain ⟨N, hN⟩ : ∃ N, N = ls'.length := ⟨_, rfl⟩
              rw [← hN]
              have HN := Lib.hid hN
              clear hN
              go_cut [153] from 122 to 153 (fun v wx => v = .bool false ∧ w17 = wx)
              case first =>
                by_cases hc2 : i < n2
                · obtain ⟨b2, o2, rfl, hcb⟩ := (HJ.out.below HBd.out).at (by omega)
                  have e0 := hcb i hc2
                  have jj : (i : Int) < (n2 : Int) := by omega
                  have jc : (i : Int) ≤ (c2 : Int) := by omega
                  cases hb : os.getD i false with
                  | true =>
                    rw [hb] at e0
                    have qn := n9_eql
                    clear hcb hb
                    go_wp2
                    go_meet
                    exact ⟨rfl, rfl⟩
                  | false =>
                    rw [hb] at e0
                    clear hcb hb
                    go_wp2
                    go_meet
                    exact ⟨rfl, rfl⟩
                · have jj : ¬ (i : Int) < (n2 : Int) := by omega
                  go_wp2
                  go_meet
                  exact ⟨rfl, rfl⟩
              case rest =>
                obtain ⟨rfl, rfl⟩ := hcut
                obtain ⟨aV, cV, vV, hVX⟩ := HV17.out
                have hobW := hVX.ob
                have CPW := Lib.hid (fun (wx : World) (hx : Below w17.heap.size w17 wx) => promised_c wx p s pr ac2 _ 17 ((hx.block p hobW.lt).trans hobW))
                have CL2 := Lib.hid (fun (wx : World) => less_c pr ac2 wx)
                rw [decide_eq_false HR.out.low] at CL2
                have hS0 : w17.drew.cell? ⟨q16, 0, none⟩ = some (.int .i64 ac2.n) ∧ w17.drew.cell? ⟨q16, 1, none⟩ = some (.int .i64 ac2.node) := ⟨HX17.out.at.1, HX17.out.at.2⟩
                clear hVX hobW
                go_upto_region 30 with fail
                go_region_held3 (fun wx => wx.cell? ⟨q16, 0, none⟩ = some (.int .i64 ac2.n) ∧ wx.cell? ⟨q16, 1, none⟩ = some (.int .i64 ac2.node)) (first | (with_reducible exact hS0) | (with_reducible assumption) | fail)
                  (first
                    | (go_at_call 40; (with_reducible refine (CPW.out _ (Below.refl _ _).drew).mono ?_); rintro e w18 ⟨rfl, hb18⟩; have hbw18 := bl_tr (Below.refl w17.heap.size w17).drew hb18; have hS1 := (show w18.cell? ⟨q16, 0, none⟩ = some (.int .i64 ac2.n) ∧ w18.cell? ⟨q16, 1, none⟩ = some (.int .i64 ac2.node) from ⟨(HX17.out.later hbw18).at.1, (HX17.out.later hbw18).at.2⟩))
                    | (go_at_call 42; (with_reducible refine (CL2.out _).mono ?_); rintro e w19 ⟨rfl, hb19⟩; have hbw19 := bl_tr hbw18 hb19; have hS2 := (show w19.cell? ⟨q16, 0, none⟩ = some (.int .i64 ac2.n) ∧ w19.cell? ⟨q16, 1, none⟩ = some (.int .i64 ac2.node) from ⟨(HX17.out.later hbw19).at.1, (HX17.out.later hbw19).at.2⟩))
                    | fail)
                all_goals
                  have HFI := Lib.hid (And.intro (HV17.out.new hbw19).1 HR.out)
                  clear hS0 hS1 hS2 hb18 hb19 hbw18 hbw19 CPW CL2
                  go_wp2
                  go_roundw
                  case rel => exact ⟨i + 1, q', l', pr, ac2, ls', by omega, by omega, by go_num, rfl, HFI⟩
                  case measure => simp [intOf]; omega
      · have ii : ¬ (i : Int) < (n : Int) := by omega
        obtain rfl : i = n := by omega
        have HF := Lib.hid (HB1.out.trans (HS.out.1.bel.mono HB1.out.size))
        clear HS
        go_wp2
        go_ret
        exact ⟨rfl, HF.out⟩
end Go.Proofs.Ytbkpkakjfhkfaaa
