/- Contract of towpathlaw11.FlowOldest: it returns true. No conditions. -/
import Derived.Test.YtbecilepgphpbaaFkB
namespace Go.Proofs.Ytbecilepgphpbaa
open Go Go.RowKit
set_option linter.unusedVariables false
set_option linter.unusedSimpArgs false

def oEn (now : Int) (j : Nat) : En := newE (exF j) 1 1 (now + j)
def oRow (now : Int) (n : Nat) : List En := (List.range n).map (oEn now)
theorem oRow_len (now : Int) (n : Nat) : (oRow now n).length = n := by unfold oRow; simp
theorem oRow_step (now : Int) (n : Nat) : oRow now (n + 1) = oRow now n ++ [oEn now n] := by unfold oRow; rw [List.range_succ, List.map_append]; rfl
theorem oRow_mem {now : Int} {n : Nat} {e : En} (h : e ∈ oRow now n) : ∃ j, j < n ∧ e = oEn now j := by
  unfold oRow at h
  obtain ⟨j, hj, rfl⟩ := List.mem_map.1 h
  exact ⟨j, List.mem_range.1 hj, rfl⟩
theorem exF_good {j : Nat} (h : j ≤ 1000) : GoodF (exF j) := ⟨.inl rfl, by show (0 : Int) ≤ (j : Int); omega, by show (j : Int) < 65536; omega, by show (0 : Int) ≤ 80; omega, by show (80 : Int) < 65536; omega⟩
theorem exF_lt {i j : Nat} (h : i < j) : ltF (exF i) (exF j) := .inr ⟨rfl, .inr ⟨rfl, .inl (by show (i : Int) < (j : Int); omega)⟩⟩
theorem exF_ne {i j : Nat} (h : i ≠ j) : exF i ≠ exF j := fun e => by
  have := congrArg Fl.sp e
  unfold exF at this
  simp only at this
  omega
theorem oRow_un (now : Int) (n : Nat) : unE (oRow now n) = n := by
  unfold unE
  rw [List.countP_eq_length.2]
  · exact oRow_len now n
  · intro e he
    obtain ⟨j, _, rfl⟩ := oRow_mem he
    rfl
theorem ins_last {x : En} {l : List En} (h : ∀ e ∈ l, ltF e.f x.f) : insE x l = l ++ [x] := by
  have := insE_no (x := x) (a := l) [] (fun e he => ltF_asym (h e he))
  rw [List.append_nil] at this
  rw [this]
  rfl
theorem oRow_put {now : Int} {n i : Nat} (hi : i < n) (hn : n ≤ 40) (h0 : 0 ≤ now) (h1 : now ≤ 549755813888) : putE (n : Int) (exF i) 1 1 (now + i) (oRow now i) = (none, 0, oRow now (i + 1)) := by
  rw [put_room (exF_good (by omega)) (by unfold OkN; omega) (findE_none.2 (fun e he => ?_)) (by omega) (by rw [oRow_un]; omega), ins_last (fun e he => ?_), oRow_step]
  · rfl
  · obtain ⟨j, hj, rfl⟩ := oRow_mem he
    exact exF_lt hj
  · obtain ⟨j, hj, rfl⟩ := oRow_mem he
    exact exF_ne (by omega)
def oY (now : Int) (p : Nat) : En := newE (exF p) 1 1 (now + 100)
theorem oRow_find {now : Int} {n p : Nat} (h : p < n) : findE (exF p) (oRow now n) = some (oEn now p) := by
  cases hf : findE (exF p) (oRow now n) with
  | none => exact absurd rfl (findE_none.1 hf (oEn now p) (by unfold oRow; exact List.mem_map.2 ⟨p, List.mem_range.2 h, rfl⟩))
  | some e =>
    obtain ⟨h1, h2⟩ := findE_some hf
    obtain ⟨j, hj, rfl⟩ := oRow_mem h1
    by_cases e : j = p
    · rw [e]
    · exact absurd h2 (exF_ne e)
theorem oRow_touch {now : Int} {n p : Nat} (hp : p < n) (h0 : 0 ≤ now) (h1 : now ≤ 549755813888) : touchE 1 (exF p) 2 (now + 100) (oRow now n) = (true, setE (oY now p) (oRow now n)) := by
  rw [touch_some (oRow_find hp) (by unfold OkN; omega)]
  rfl
theorem set_un (x : En) (hx : x.tr = false) (l : List En) (h : ∀ e ∈ l, e.tr = false) : unE (setE x l) = l.length := by
  unfold unE
  rw [List.countP_eq_length.2, setE_len]
  intro e he
  obtain ⟨a, ha, rfl⟩ := List.mem_map.1 he
  split
  · rw [hx]; rfl
  · rw [h a ha]; rfl
theorem old_keep {b : En} : ∀ {l : List En}, (∀ e ∈ l, ¬ e.la < b.la) → l.foldl oldS (some b) = some b
  | [], _ => rfl
  | e :: l, h => by
    have h1 : oldS (some b) e = some b := by
      unfold oldS
      split
      · rfl
      · exact if_neg (h e List.mem_cons_self)
    rw [List.foldl_cons, h1]
    exact old_keep (fun a ha => h a (List.mem_cons_of_mem _ ha))
theorem oRow_cons (now : Int) (n : Nat) : oRow now (n + 1) = oEn now 0 :: (List.range n).map (fun j => oEn now (j + 1)) := by
  unfold oRow
  rw [List.range_succ_eq_map, List.map_cons, List.map_map]
  rfl
theorem set_miss {x : En} {l : List En} (h : ∀ e ∈ l, e.f ≠ x.f) : setE x l = l := by
  unfold setE
  conv => rhs; rw [← List.map_id l]
  apply List.map_congr_left
  intro e he
  rw [if_neg (h e he)]
  rfl
/-- Who is the oldest. -/
theorem oRow_old {now : Int} {n p : Nat} (hp : p < n) (hn : n ≤ 40) : ∃ o, oldE (setE (oY now p) (oRow now n)) = some o ∧ o.f = exF (if p = 0 ∧ 1 < n then 1 else 0 : Nat) := by
  obtain ⟨k, rfl⟩ : ∃ k, n = k + 1 := ⟨n - 1, by omega⟩
  rw [oRow_cons]
  by_cases h0 : p = 0
  · subst h0
    have hs : setE (oY now 0) (oEn now 0 :: (List.range k).map (fun j => oEn now (j + 1))) = oY now 0 :: (List.range k).map (fun j => oEn now (j + 1)) := by
      have h1 := set_miss (x := oY now 0) (l := (List.range k).map (fun j => oEn now (j + 1))) (fun e he => by
        obtain ⟨j, _, rfl⟩ := List.mem_map.1 he
        exact exF_ne (by omega))
      have h2 : setE (oY now 0) (oEn now 0 :: (List.range k).map (fun j => oEn now (j + 1))) = oY now 0 :: setE (oY now 0) ((List.range k).map (fun j => oEn now (j + 1))) := by
        unfold setE
        rw [List.map_cons]
        rfl
      rw [h2, h1]
    rw [hs]
    by_cases hk : k = 0
    · subst hk
      refine ⟨oY now 0, rfl, ?_⟩
      rw [if_neg (by omega)]
      rfl
    · obtain ⟨i, rfl⟩ : ∃ i, k = i + 1 := ⟨k - 1, by omega⟩
      refine ⟨oEn now 1, ?_, by rw [if_pos (by omega)]; rfl⟩
      unfold oldE
      rw [List.foldl_cons, List.range_succ_eq_map, List.map_cons, List.foldl_cons]
      have h1 : oldS (oldS none (oY now 0)) (oEn now (0 + 1)) = some (oEn now 1) := by
        have h2 : oldS none (oY now 0) = some (oY now 0) := rfl
        rw [h2]
        unfold oldS
        have h3 : (oEn now (0 + 1)).tr = false := rfl
        rw [h3]
        have h4 : (oEn now (0 + 1)).la < (oY now 0).la := by
          show now + ((0 + 1 : Nat) : Int) < now + 100
          omega
        simp only [Bool.false_eq_true, if_false]
        rw [if_pos h4]
      rw [h1]
      refine old_keep (fun e he => ?_)
      obtain ⟨j, hj, rfl⟩ := List.mem_map.1 he
      obtain ⟨i, _, rfl⟩ := List.mem_map.1 hj
      show ¬ now + ((i + 1 + 1 : Nat) : Int) < now + ((1 : Nat) : Int)
      omega
  · refine ⟨oEn now 0, ?_, by rw [if_neg (by omega)]; rfl⟩
    have h2 : setE (oY now p) (oEn now 0 :: (List.range k).map (fun j => oEn now (j + 1))) = oEn now 0 :: setE (oY now p) ((List.range k).map (fun j => oEn now (j + 1))) := by
      have hne : ¬ (oEn now 0).f = (oY now p).f := exF_ne (i := 0) (j := p) (by omega)
      unfold setE
      rw [List.map_cons, if_neg hne]
    rw [h2]
    unfold oldE
    rw [List.foldl_cons]
    have h3 : oldS none (oEn now 0) = some (oEn now 0) := rfl
    rw [h3]
    refine old_keep (fun e he => ?_)
    obtain ⟨a, ha, rfl⟩ := List.mem_map.1 he
    obtain ⟨j, _, rfl⟩ := List.mem_map.1 ha
    split
    · show ¬ now + 100 < now + ((0 : Nat) : Int)
      omega
    · show ¬ now + ((j + 1 : Nat) : Int) < now + ((0 : Nat) : Int)
      omega
theorem oRow_last {now : Int} {n p : Nat} (hp : p < n) (hn : n ≤ 40) (h0 : 0 ≤ now) (h1 : now ≤ 549755813888) : ∃ o l', putE (n : Int) (exF 1000) 2 2 (now + 101) (setE (oY now p) (oRow now n)) = (some o, 0, l') ∧ o.f = exF (if p = 0 ∧ 1 < n then 1 else 0 : Nat) := by
  obtain ⟨o, ho, hf⟩ := oRow_old (now := now) hp hn
  refine ⟨o, _, put_full (exF_good (j := 1000) (by omega)) (by unfold OkN; omega) (findE_none.2 (fun e he => ?_)) (by omega) ?_ ho, hf⟩
  · obtain ⟨a, ha, rfl⟩ := List.mem_map.1 he
    obtain ⟨j, hj, rfl⟩ := oRow_mem ha
    split
    · exact exF_ne (i := p) (j := 1000) (by omega)
    · exact exF_ne (i := j) (j := 1000) (by omega)
  · rw [set_un _ rfl _ (fun e he => by obtain ⟨j, _, rfl⟩ := oRow_mem he; rfl), oRow_len]
    omega
set_option maxRecDepth 100000 in
set_option maxHeartbeats 8000000 in
theorem flowOldest_t (n pick now : Int) (w : World) (h1 : InN n) (h2 : InN pick) (h3 : InN now) :
    Calls Try.prog 7 #[.int .i64 n, .int .i64 pick, .int .i64 now] w fun e w' => e = .returned (.bool true) ∧ Below w.heap.size w w' := by
  have en := nilNe
  have ee := nilEl
  have CA := Lib.hid (alive11_any w)
  have CE := Lib.hid ex_c
  unfold InN at h1 h2 h3
  go_enter Try.func7, Try.ntmps7
  go_wp2_with fail
  refine CA.out.mono ?_
  rintro e w1 ⟨rfl, hb⟩
  have HB1 := Lib.hid hb
  clear hb CA
  go_upto_region 4 with fail
  obtain ⟨M, hM⟩ : ∃ s, s = wrap64 (1 + wrap64 ((IntKind.u64.wrap n).tmod 40)) := ⟨_, rfl⟩
  have hMr : 1 ≤ M ∧ M ≤ 40 := by
    have h0 : 0 ≤ IntKind.u64.wrap n := by rw [IntKind.wrap_u64]; omega
    rw [hM, Int.tmod_eq_emod_of_nonneg h0, IntWalk.wrap64_in ((IntKind.u64.wrap n) % 40) (by omega), IntWalk.wrap64_in _ (by omega)]
    omega
  rw [← hM]
  clear hM
  obtain ⟨N, rfl⟩ : ∃ N : Nat, M = N := ⟨M.toNat, by omega⟩
  have hN1 : 1 ≤ N := by omega
  have hN2 : N ≤ 40 := by omega
  clear hMr
  by_cases n0 : now < 0
  · go_wp2
    go_ret
    exact ⟨rfl, HB1.out⟩
  · by_cases n1 : 549755813888 < now
    · go_wp2
      go_ret
      exact ⟨rfl, HB1.out⟩
    · have HNW : Hid (0 ≤ now ∧ now ≤ 549755813888) := Lib.hid (by omega)
      have CN := Lib.hid (tnew_t 1 N w1 (by unfold InN; omega) (by unfold InN; omega))
      go_wp2_with fail
      refine CN.out.mono ?_
      rintro e w2 hW
      obtain ⟨p, rfl, hO⟩ := TOn.made (by unfold OkQ; omega) hW
      have HO0 : Hid (TOn w1 w2 p 1 N (oRow now 0) (fun k => k < w1.heap.size)) := Lib.hid hO
      clear CN hW hO
      go_wp2
      go_loopw [9] (fun iv wr => ∃ i : Nat, i ≤ N ∧ iv = .int .i64 i ∧ Hid (TOn w1 wr p 1 N (oRow now i) (fun k => k < w1.heap.size))) (fun iv _ => N - (intOf iv).toNat)
      case atStart => exact ⟨0, by omega, rfl, HO0⟩
      case round =>
        obtain ⟨i, hi, rfl, HO⟩ := hrel
        obtain ⟨w3, rfl⟩ : ∃ v, v = wr := ⟨_, rfl⟩
        clear HO0
        by_cases hlt : i < N
        · have ii : (i : Int) < (N : Int) := by omega
          go_wp2_with fail
          refine (CE.out i w3).mono ?_
          rintro e w4 ⟨rfl, hb⟩
          have CP := Lib.hid (((HO.out.new hb).1).put (exF i) 1 1 (now + i) (by rw [oRow_len]; omega) (exF_fit (by unfold InN; omega)) (by unfold In32; omega) (by unfold InN; omega) (by have := HNW.out; unfold InN; omega))
          rw [oRow_put hlt hN2 HNW.out.1 HNW.out.2, putV_none] at CP
          clear HO hb
          go_wp2_with fail
          refine CP.out.mono ?_
          rintro e w5 ⟨rfl, hO, _⟩
          have HO := Lib.hid hO
          clear CP hO
          go_wp2
          go_roundw
          case rel => exact ⟨i + 1, by omega, by go_num, HO⟩
          case measure => simp [intOf]; omega
        · obtain rfl : i = N := by omega
          have ii : ¬ (i : Int) < (i : Int) := by omega
          go_upto_region 14 with fail
          obtain ⟨P, hP⟩ : ∃ s, s = wrap64 ((IntKind.u64.wrap pick).tmod (i : Int)) := ⟨_, rfl⟩
          have hPr : 0 ≤ P ∧ P < i := by
            have h0 : 0 ≤ IntKind.u64.wrap pick := by rw [IntKind.wrap_u64]; omega
            have h5 := Int.emod_nonneg (IntKind.u64.wrap pick) (show (i : Int) ≠ 0 by omega)
            have h6 := Int.emod_lt_of_pos (IntKind.u64.wrap pick) (show (0 : Int) < i by omega)
            rw [hP, Int.tmod_eq_emod_of_nonneg h0, IntWalk.wrap64_in _ (by omega)]
            omega
          rw [← hP]
          clear hP
          obtain ⟨j, rfl⟩ : ∃ j : Nat, P = j := ⟨P.toNat, by omega⟩
          have hji : j < i := by omega
          clear hPr
          go_wp2_with fail
          refine (CE.out j w3).mono ?_
          rintro e w4 ⟨rfl, hb⟩
          have CT := Lib.hid (((HO.out.new hb).1).touch (exF j) 2 (now + 100) (by rw [oRow_len]; omega) (exF_fit (by unfold InN; omega)) (by unfold InN; omega) (by have := HNW.out; unfold InN; omega))
          rw [oRow_touch hji HNW.out.1 HNW.out.2] at CT
          clear HO hb
          go_wp2_with fail
          refine CT.out.mono ?_
          rintro e w5 ⟨rfl, hO, _⟩
          have HO5 := Lib.hid hO
          obtain ⟨o, l', hlp, hof⟩ := oRow_last hji hN2 HNW.out.1 HNW.out.2
          have HLP := Lib.hid hlp
          clear CT hO hlp
          by_cases hj : j = 0
          · by_cases hi1 : 1 < i
            · rw [if_pos ⟨hj, hi1⟩] at hof
              have hjb : ((j : Int) == 0) = true := by simp [hj]
              have hii : (1 : Int) < (i : Int) := by omega
              clear hj hi1
              have hq := flow_eql o.f (exF 1)
              rw [show eqF o.f (exF 1) = true by rw [eqF_is]; exact decide_eq_true hof] at hq
              clear hof
              go_wp2_with fail
              refine (CE.out 1000 w5).mono ?_
              rintro e w6 ⟨rfl, hb⟩
              have CP := Lib.hid (((HO5.out.new hb).1).put (exF 1000) 2 2 (now + 101) (by rw [setE_len, oRow_len]; omega) (exF_fit (by unfold InN; omega)) (by unfold In32; omega) (by unfold InN; omega) (by have := HNW.out; unfold InN; omega))
              rw [HLP.out, putV_some] at CP
              clear hb HO5 HLP
              go_wp2_with fail
              refine CP.out.mono ?_
              rintro e w7 ⟨rfl, hO, _⟩
              obtain ⟨X, hX⟩ : ∃ X, X = w7.alloc o.obj := ⟨_, rfl⟩
              have hbX : Below w7.heap.size w7 X := by rw [hX]; exact bl_al (Below.refl _ _) _
              have hx : BxE X w7.heap.size o := by rw [hX]; exact BxE.new w7 o
              obtain ⟨x, hxe⟩ : ∃ x, x = w7.heap.size := ⟨_, rfl⟩
              rw [← hxe] at hx
              have HX := Lib.hid (And.intro hX hxe)
              have HXB := Lib.hid hx
              have HBX := Lib.hid (HB1.out.trans ((bl_tr hO.bel hbX).mono HB1.out.size))
              clear CP hO hbX hX hxe hx
              go_upto_region 19 with fail
              rw [← HX.out.1, ← HX.out.2]
              clear HX
              have hd0 : Below X.heap.size X X.drew := (Below.refl _ _).drew
              have HBx := Lib.hid (show ∀ wx, Below X.heap.size X wx → wx.cell? ⟨x, 0, none⟩ = some (.int .i64 o.f.p) ∧ wx.cell? ⟨x, 1, none⟩ = some (.int .u32 o.f.s) ∧ wx.cell? ⟨x, 2, none⟩ = some (.int .i64 o.f.sp) ∧ wx.cell? ⟨x, 3, none⟩ = some (.int .u32 o.f.d) ∧ wx.cell? ⟨x, 4, none⟩ = some (.int .i64 o.f.dp) from fun wx h => by
                obtain ⟨x0, x1, x2, x3, x4, _⟩ := (HXB.out.keep (tch_new h) (fun h => h)).cs
                exact ⟨x0, x1, x2, x3, x4⟩)
              have hS0 := HBx.out _ hd0
              have CE1 := Lib.hid (CE.out 1)
              clear CE
              go_region_held3 (fun wx => wx.cell? ⟨x, 0, none⟩ = some (.int .i64 o.f.p) ∧ wx.cell? ⟨x, 1, none⟩ = some (.int .u32 o.f.s) ∧ wx.cell? ⟨x, 2, none⟩ = some (.int .i64 o.f.sp) ∧ wx.cell? ⟨x, 3, none⟩ = some (.int .u32 o.f.d) ∧ wx.cell? ⟨x, 4, none⟩ = some (.int .i64 o.f.dp)) (first | (with_reducible exact hS0) | (with_reducible exact hS1) | (with_reducible assumption) | fail)
                (first | (go_at_call 30; (with_reducible refine (CE1.out _).mono ?_); rintro e w11 ⟨rfl, hb⟩; have hb7 := bl_tr hd0 hb; have hS1 := HBx.out _ hb7) | fail)
              all_goals
                have HQ := Lib.hid (HBX.out.trans (hb7.mono HBX.out.size))
                go_wp2
                go_ret
                exact ⟨rfl, HQ.out⟩
            · rw [if_neg (fun h => hi1 h.2)] at hof
              have hjb : ((j : Int) == 0) = true := by simp [hj]
              have hii : ¬ (1 : Int) < (i : Int) := by omega
              clear hj hi1
              have hq := flow_eql o.f (exF 0)
              rw [show eqF o.f (exF 0) = true by rw [eqF_is]; exact decide_eq_true hof] at hq
              clear hof
              go_wp2_with fail
              refine (CE.out 1000 w5).mono ?_
              rintro e w6 ⟨rfl, hb⟩
              have CP := Lib.hid (((HO5.out.new hb).1).put (exF 1000) 2 2 (now + 101) (by rw [setE_len, oRow_len]; omega) (exF_fit (by unfold InN; omega)) (by unfold In32; omega) (by unfold InN; omega) (by have := HNW.out; unfold InN; omega))
              rw [HLP.out, putV_some] at CP
              clear hb HO5 HLP
              go_wp2_with fail
              refine CP.out.mono ?_
              rintro e w7 ⟨rfl, hO, _⟩
              obtain ⟨X, hX⟩ : ∃ X, X = w7.alloc o.obj := ⟨_, rfl⟩
              have hbX : Below w7.heap.size w7 X := by rw [hX]; exact bl_al (Below.refl _ _) _
              have hx : BxE X w7.heap.size o := by rw [hX]; exact BxE.new w7 o
              obtain ⟨x, hxe⟩ : ∃ x, x = w7.heap.size := ⟨_, rfl⟩
              rw [← hxe] at hx
              have HX := Lib.hid (And.intro hX hxe)
              have HXB := Lib.hid hx
              have HBX := Lib.hid (HB1.out.trans ((bl_tr hO.bel hbX).mono HB1.out.size))
              clear CP hO hbX hX hxe hx
              go_upto_region 19 with fail
              rw [← HX.out.1, ← HX.out.2]
              clear HX
              have hd0 : Below X.heap.size X X.drew := (Below.refl _ _).drew
              have HBx := Lib.hid (show ∀ wx, Below X.heap.size X wx → wx.cell? ⟨x, 0, none⟩ = some (.int .i64 o.f.p) ∧ wx.cell? ⟨x, 1, none⟩ = some (.int .u32 o.f.s) ∧ wx.cell? ⟨x, 2, none⟩ = some (.int .i64 o.f.sp) ∧ wx.cell? ⟨x, 3, none⟩ = some (.int .u32 o.f.d) ∧ wx.cell? ⟨x, 4, none⟩ = some (.int .i64 o.f.dp) from fun wx h => by
                obtain ⟨x0, x1, x2, x3, x4, _⟩ := (HXB.out.keep (tch_new h) (fun h => h)).cs
                exact ⟨x0, x1, x2, x3, x4⟩)
              have hS0 := HBx.out _ hd0
              have CE1 := Lib.hid (CE.out 0)
              clear CE
              go_region_held3 (fun wx => wx.cell? ⟨x, 0, none⟩ = some (.int .i64 o.f.p) ∧ wx.cell? ⟨x, 1, none⟩ = some (.int .u32 o.f.s) ∧ wx.cell? ⟨x, 2, none⟩ = some (.int .i64 o.f.sp) ∧ wx.cell? ⟨x, 3, none⟩ = some (.int .u32 o.f.d) ∧ wx.cell? ⟨x, 4, none⟩ = some (.int .i64 o.f.dp)) (first | (with_reducible exact hS0) | (with_reducible exact hS1) | (with_reducible assumption) | fail)
                (first | (go_at_call 30; (with_reducible refine (CE1.out _).mono ?_); rintro e w11 ⟨rfl, hb⟩; have hb7 := bl_tr hd0 hb; have hS1 := HBx.out _ hb7) | fail)
              all_goals
                have HQ := Lib.hid (HBX.out.trans (hb7.mono HBX.out.size))
                go_wp2
                go_ret
                exact ⟨rfl, HQ.out⟩
          · rw [if_neg (fun h => hj h.1)] at hof
            have hjb : ((j : Int) == 0) = false := by rw [beq_eq_false_iff_ne]; omega
            clear hj
            have hq := flow_eql o.f (exF 0)
            rw [show eqF o.f (exF 0) = true by rw [eqF_is]; exact decide_eq_true hof] at hq
            clear hof
            go_wp2_with fail
            refine (CE.out 1000 w5).mono ?_
            rintro e w6 ⟨rfl, hb⟩
            have CP := Lib.hid (((HO5.out.new hb).1).put (exF 1000) 2 2 (now + 101) (by rw [setE_len, oRow_len]; omega) (exF_fit (by unfold InN; omega)) (by unfold In32; omega) (by unfold InN; omega) (by have := HNW.out; unfold InN; omega))
            rw [HLP.out, putV_some] at CP
            clear hb HO5 HLP
            go_wp2_with fail
            refine CP.out.mono ?_
            rintro e w7 ⟨rfl, hO, _⟩
            obtain ⟨X, hX⟩ : ∃ X, X = w7.alloc o.obj := ⟨_, rfl⟩
            have hbX : Below w7.heap.size w7 X := by rw [hX]; exact bl_al (Below.refl _ _) _
            have hx : BxE X w7.heap.size o := by rw [hX]; exact BxE.new w7 o
            obtain ⟨x, hxe⟩ : ∃ x, x = w7.heap.size := ⟨_, rfl⟩
            rw [← hxe] at hx
            have HX := Lib.hid (And.intro hX hxe)
            have HXB := Lib.hid hx
            have HBX := Lib.hid (HB1.out.trans ((bl_tr hO.bel hbX).mono HB1.out.size))
            clear CP hO hbX hX hxe hx
            go_upto_region 19 with fail
            rw [← HX.out.1, ← HX.out.2]
            clear HX
            have hd0 : Below X.heap.size X X.drew := (Below.refl _ _).drew
            have HBx := Lib.hid (show ∀ wx, Below X.heap.size X wx → wx.cell? ⟨x, 0, none⟩ = some (.int .i64 o.f.p) ∧ wx.cell? ⟨x, 1, none⟩ = some (.int .u32 o.f.s) ∧ wx.cell? ⟨x, 2, none⟩ = some (.int .i64 o.f.sp) ∧ wx.cell? ⟨x, 3, none⟩ = some (.int .u32 o.f.d) ∧ wx.cell? ⟨x, 4, none⟩ = some (.int .i64 o.f.dp) from fun wx h => by
              obtain ⟨x0, x1, x2, x3, x4, _⟩ := (HXB.out.keep (tch_new h) (fun h => h)).cs
              exact ⟨x0, x1, x2, x3, x4⟩)
            have hS0 := HBx.out _ hd0
            have CE1 := Lib.hid (CE.out 0)
            clear CE
            go_region_held3 (fun wx => wx.cell? ⟨x, 0, none⟩ = some (.int .i64 o.f.p) ∧ wx.cell? ⟨x, 1, none⟩ = some (.int .u32 o.f.s) ∧ wx.cell? ⟨x, 2, none⟩ = some (.int .i64 o.f.sp) ∧ wx.cell? ⟨x, 3, none⟩ = some (.int .u32 o.f.d) ∧ wx.cell? ⟨x, 4, none⟩ = some (.int .i64 o.f.dp)) (first | (with_reducible exact hS0) | (with_reducible exact hS1) | (with_reducible assumption) | fail)
              (first | (go_at_call 30; (with_reducible refine (CE1.out _).mono ?_); rintro e w11 ⟨rfl, hb⟩; have hb7 := bl_tr hd0 hb; have hS1 := HBx.out _ hb7) | fail)
            all_goals
              have HQ := Lib.hid (HBX.out.trans (hb7.mono HBX.out.size))
              go_wp2
              go_ret
              exact ⟨rfl, HQ.out⟩
end Go.Proofs.Ytbecilepgphpbaa
