/- Contract of towpathlaw10.WheelNext: it returns true. Conditions: the times came in. -/
import Derived.Test.YthoegmcdohppoaaWkT
namespace Go.Proofs.Ythoegmcdohppoaa
open Go Go.RowKit
set_option linter.unusedVariables false
set_option linter.unusedSimpArgs false

theorem nilEql (w : World) : (binOp .eql 26 .nilIface .nilIface).run Try.prog w = .ok (.bool true) w := by kernel_rfl
theorem fourNil (w : World) : (binOp .eql 26 (errnoT 4) .nilIface).run Try.prog w = .ok (.bool false) w := by kernel_rfl
/-- Keys set so far. -/
structure NxS (W : World) (p : Nat) (l : List Int) (j : Nat) (a : Option Addr) (n c : Nat) (wr : World) : Prop where
  on : WOn W wr p (addT l j)
  row : InI wr a n c l
set_option maxRecDepth 100000 in
set_option maxHeartbeats 8000000 in
theorem wheelNext_t (slots now : Int) (l : List Int) (a : Option Addr) (n c : Nat) (w : World) (hI : InI w a n c l) (hn : n ≤ 4611686018427387904) (hs : I64 slots) (hw : I64 now) :
    Calls Try.prog 8 #[.int .i64 slots, .slice a n c, .int .i64 now] w fun e w' => e = .returned (.bool true) ∧ Below w.heap.size w w' := by
  have en := nilEq
  have eq0 := nilEql
  have eq4 := fourNil
  have CA := Lib.hid (alive10_any w)
  have HI := Lib.hid hI
  have HW := Lib.hid hw
  have HS := Lib.hid hs
  clear hI hw
  unfold I64 at hs
  go_enter Try.func8, Try.ntmps8
  go_wp2_with fail
  refine CA.out.mono ?_
  rintro e w1 ⟨rfl, hb⟩
  have HB1 := Lib.hid hb
  have CN := Lib.hid (wnew_t slots w1 HS.out)
  clear hb CA
  by_cases q : slots < 1 ∨ 1024 < slots ∨ (200 : Int) < (n : Int)
  · go_upto_region 4 with fail
    all_goals go_wp2
    all_goals first
      | (go_ret; exact ⟨rfl, HB1.out⟩)
      | (exfalso; omega)
  obtain ⟨q1, q2, q3⟩ : 1 ≤ slots ∧ slots ≤ 1024 ∧ (n : Int) ≤ 200 := by omega
  clear q
  go_upto_region 5 with fail
  have hOS : OkS slots := ⟨q1, q2⟩
  have hn2 : n ≤ 200 := by omega
  clear q1 q2 q3 hs hn
  go_wp2_with fail
  refine CN.out.mono ?_
  rintro e w2 hW
  obtain ⟨p, rfl, hO⟩ := WOn.made hOS hW
  have S0 := Lib.hid (show NxS w1 p l 0 a n c w2 from ⟨hO, (HI.out.below HB1.out).below hO.bel⟩)
  clear hW hO CN hOS
  go_wp2
  go_loopw [9, 10, 41] (fun lv tv iv wr => ∃ (j : Nat) (o : Option Int), j ≤ n ∧ iv = .int .i64 j ∧ lv = .int .i64 (o.getD 0) ∧ tv = .bool o.isSome ∧ Hid (nextT (addT l j) = o) ∧ Hid (NxS w1 p l j a n c wr)) (fun _ _ iv _ => n - (intOf iv).toNat)
  case atStart => exact ⟨0, none, by omega, rfl, rfl, rfl, Lib.hid rfl, S0⟩
  case round =>
    obtain ⟨j, o, hj, rfl, rfl, rfl, HO, HN⟩ := hrel
    clear S0
    by_cases hlj : j < n
    · obtain ⟨b1, o1, rfl⟩ := in_blockI HI.out (by omega)
      have c1 := in_cellI HN.out.row j hlj
      have ilj : (j : Int) < (n : Int) := by omega
      have j0 : (0 : Int) ≤ (j : Int) := by omega
      obtain ⟨x, hx⟩ : ∃ x, x = l.getD j 0 := ⟨_, rfl⟩
      have hxI : I64 x := by rw [hx]; have := fitI_at HI.out.fit (j := j) (by rw [HI.out.len]; exact hlj); unfold I64; omega
      have CS := Lib.hid (WOn.set HN.out.on (bl_al (Below.refl _ _) (.cells #[.int .i64 j] 3)) x [(j : Int)] 1 1 (in_oneT wr j (by omega)) (by have := addT_len (l := l) (j := j); omega) hxI)
      have hset := addT_set l j
      rw [← hx] at hset c1
      rw [hset] at CS
      have HX := Lib.hid hx
      clear hset hx hxI
      go_wp2_with fail
      refine CS.out.mono ?_
      rintro e w3 ⟨rfl, hO⟩
      have HN3 := Lib.hid (show NxS w1 p l (j + 1) (some ⟨b1, o1, none⟩) n c w3 from ⟨hO, HI.out.below (HB1.out.trans (hO.bel.mono HB1.out.size))⟩)
      clear hO CS c1
      by_cases hA : OkA x
      · rw [if_pos hA, show errT 0 = Value.nilIface from rfl]
        cases o with
        | none =>
          have HO3 := Lib.hid (show nextT (addT l (j + 1)) = some x by rw [HX.out]; exact addT_first (by rw [← HX.out]; exact hA) HO.out)
          rw [Option.isSome_none]
          clear hA HO HN
          go_wp2
          go_roundw
          case rel => exact ⟨j + 1, some x, by omega, by go_num, rfl, rfl, HO3, HN3⟩
          case measure => simp [intOf]; omega
        | some y =>
          rw [Option.isSome_some, Option.getD_some]
          by_cases hxy : x < y
          · have HO3 := Lib.hid (show nextT (addT l (j + 1)) = some x by rw [HX.out]; exact addT_less (by rw [← HX.out]; exact hA) HO.out (by rw [← HX.out]; exact hxy))
            clear hA HO HN
            go_wp2
            go_roundw
            case rel => exact ⟨j + 1, some x, by omega, by go_num, rfl, rfl, HO3, HN3⟩
            case measure => simp [intOf]; omega
          · have HO3 := Lib.hid (show nextT (addT l (j + 1)) = some y from addT_more (by rw [← HX.out]; exact hA) HO.out (by rw [← HX.out]; exact hxy))
            clear hA HO HN
            go_wp2
            go_roundw
            case rel => exact ⟨j + 1, some y, by omega, by go_num, rfl, rfl, HO3, HN3⟩
            case measure => simp [intOf]; omega
      · rw [if_neg hA, show errT 4 = errnoT 4 from rfl]
        have HO3 := Lib.hid (show nextT (addT l (j + 1)) = o by rw [addT_no (by rw [← HX.out]; exact hA)]; exact HO.out)
        clear hA HO HN
        go_wp2
        go_roundw
        case rel => exact ⟨j + 1, o, by omega, by go_num, rfl, rfl, HO3, HN3⟩
        case measure => simp [intOf]; omega
    · have hjn : j = n := by omega
      subst hjn
      have ilj : ¬ ((j : Int) < (j : Int)) := by omega
      have hle := addT_len (l := l) (j := j)
      have C1 := Lib.hid (WOn.next HN.out.on (by omega))
      rw [HO.out] at C1
      obtain ⟨ts, hts⟩ : ∃ ts, ts = addT l j := ⟨_, rfl⟩
      rw [← hts] at C1 hle
      clear HO HN hj hlj
      go_wp2_with fail
      refine C1.out.mono ?_
      rintro e w3 ⟨rfl, hO⟩
      unfold atR
      have C2 := Lib.hid (hO.due now (by omega) HW.out)
      clear hO C1
      go_wp2_with fail
      refine C2.out.mono ?_
      rintro e w4 ⟨a4, c4, rfl, _, hO⟩
      have hle2 := leftT_len now ts
      have C3 := Lib.hid (hO.next (by omega))
      clear hO C2
      go_wp2_with fail
      refine C3.out.mono ?_
      rintro e w5 ⟨rfl, hO⟩
      unfold atR
      have C4 := Lib.hid (hO.len (by omega))
      have hp := next_pos (ts := leftT now ts)
      have HL := Lib.hid (fun m (h : nextT (leftT now ts) = some m) => left_next h)
      obtain ⟨k, hk⟩ : ∃ k, k = (leftT now ts).length := ⟨_, rfl⟩
      obtain ⟨r, hr⟩ : ∃ r, r = nextT (leftT now ts) := ⟨_, rfl⟩
      rw [← hk] at hp C4 hle2
      rw [← hr] at hp HL ⊢
      clear hO C3 hts hr hk
      go_wp2_with fail
      refine C4.out.mono ?_
      rintro e w6 ⟨rfl, hO⟩
      have HB := Lib.hid (WOn.lower HB1.out hO)
      clear hO C4
      cases r with
      | none =>
        rw [Option.isSome_none] at hp
        have hk0 : ¬ (0 : Int) < (k : Int) := by simpa using hp.symm
        clear hp HL
        go_wp2
        go_ret
        exact ⟨rfl, HB.out⟩
      | some m =>
        rw [Option.isSome_some] at hp
        rw [Option.getD_some]
        have hk0 : (0 : Int) < (k : Int) := by simpa using hp.symm
        have hm : now < m := HL.out m rfl
        clear hp HL
        go_wp2
        go_ret
        exact ⟨rfl, HB.out⟩
end Go.Proofs.Ythoegmcdohppoaa
