/- The lanes' Take over their Len and Get. -/
import Derived.Test.YtdjeacmonlgdhaaQdG
import Derived.Test.YtdjeacmonlgdhaaRqT
import Derived.Deep.AppendLies
namespace Go.Proofs.Ytdjeacmonlgdhaa
open Go Go.RowKit
set_option linter.unusedVariables false
set_option linter.unusedSimpArgs false

/-- Behind j rows of Take. -/
structure LtI (w0 w : World) (B : Nat) (F : Nat → Prop) (l size : Nat) (us : List Value) (pu : List (List Int)) (vs : List Value) (pp : List (List Int)) (j : Nat) (ao : Option Addr) (c : Nat) : Prop where
  out : w.ownsRow w0.heap.size 42 1 (.slice ao j c) j ((us ++ vs).take j)
  st : LSt w B F l size (us.drop j) (pu.drop j) (vs.drop (j - us.length)) (pp.drop (j - us.length))
  tch : Tch F w0 w
/-- Get number j. -/
theorem lt_get {w : World} {B : Nat} {F : Nat → Prop} {l size : Nat} {us : List Value} {pu : List (List Int)} {vs : List Value} {pp : List (List Int)} {j : Nat} (h : LSt w B F l size (us.drop j) (pu.drop j) (vs.drop (j - us.length)) (pp.drop (j - us.length))) (hU : us.length = pu.length) (hP : vs.length = pp.length) (hj : j < us.length + vs.length) :
    Calls Try.prog 27 #[.pointer (some ⟨l, 0, none⟩)] w fun e w' => ∃ b, e = .returned (.tuple #[(us ++ vs).getD j undef, .bool b, .bool true]) ∧ LSt w' B F l size (us.drop (j + 1)) (pu.drop (j + 1)) (vs.drop (j + 1 - us.length)) (pp.drop (j + 1 - us.length)) ∧ Tch F w w' := by
  by_cases hju : j < us.length
  · have e1 : j - us.length = 0 := by omega
    have e2 : j + 1 - us.length = 0 := by omega
    rw [getD_app, if_pos hju, e2]
    rw [e1, drop_head us undef hju, drop_head pu [] (by omega)] at h
    refine (lgetU_q B F l size _ _ _ _ _ _ w h).mono ?_
    rintro e w1 ⟨rfl, h1, h2, _⟩
    exact ⟨_, rfl, h1, h2⟩
  · have e2 : j + 1 - us.length = j - us.length + 1 := by omega
    have d1 : us.drop j = [] := List.drop_eq_nil_of_le (by omega)
    have d2 : pu.drop j = [] := List.drop_eq_nil_of_le (by omega)
    have d3 : us.drop (j + 1) = [] := List.drop_eq_nil_of_le (by omega)
    have d4 : pu.drop (j + 1) = [] := List.drop_eq_nil_of_le (by omega)
    rw [getD_app, if_neg hju, e2, d3, d4]
    rw [d1, d2, drop_head vs undef (by omega), drop_head pp [] (by omega)] at h
    refine (lgetP_q B F l size _ _ _ _ w h).mono ?_
    rintro e w1 ⟨rfl, h1, h2, _⟩
    exact ⟨_, rfl, h1, h2⟩
theorem LtI.step {w0 w w1 w8 : World} {B : Nat} {F : Nat → Prop} {l size : Nat} {us : List Value} {pu : List (List Int)} {vs : List Value} {pp : List (List Int)} {j c g8 c8 : Nat} {ao : Option Addr} (h : LtI w0 w B F l size us pu vs pp j ao c) (hF : ∀ k, F k → k < w0.heap.size) (hv : ∀ v ∈ us ++ vs, ∀ k, v.ownBlock = some k → k < w0.heap.size)
    (hQ : LSt w1 B F l size (us.drop (j + 1)) (pu.drop (j + 1)) (vs.drop (j + 1 - us.length)) (pp.drop (j + 1 - us.length))) (ht : Tch F w w1) (h8 : w8.ownsRow w0.heap.size 42 1 (.slice (some ⟨g8, 0, none⟩) (j + 1) c8) (j + 1) ((us ++ vs).take (j + 1))) (ht8 : Tch (fun k => (Value.slice ao j c).ownBlock = some k) w1 w8) : LtI w0 w8 B F l size us pu vs pp (j + 1) (some ⟨g8, 0, none⟩) c8 := by
  have f1 : ∀ k, (Value.slice ao j c).ownBlock = some k → w0.heap.size ≤ k := fun k hk => (h.out.lt k hk).1
  refine ⟨h8, hQ.keep ht8 (fun k hk e => ?_), (h.tch.trans ht).trans' ht8 (fun k hk e => by have := f1 k e; omega)⟩
  have g1 := f1 k e
  rcases hk with hk | ⟨v, hm, hk⟩
  · have := hF k hk; omega
  · have hm2 : v ∈ us ++ vs := by
      rcases List.mem_append.1 hm with hm | hm
      · exact List.mem_append_left _ (List.mem_of_mem_drop hm)
      · exact List.mem_append_right _ (List.mem_of_mem_drop hm)
    have := hv v hm2 k hk
    omega
theorem lt_end {w w' : World} {B : Nat} {F : Nat → Prop} {l size : Nat} {us : List Value} {pu : List (List Int)} {vs : List Value} {pp : List (List Int)} {j c K : Nat} {ao : Option Addr} (h : LtI w w' B F l size us pu vs pp j ao c) (hj : j = K) : LTak w B F l size us pu vs pp K (.returned (.slice ao j c)) w' := by
  subst hj
  exact ⟨ao, c, rfl, h.out, h.st, h.tch⟩
set_option maxRecDepth 100000 in
set_option maxHeartbeats 4000000 in
theorem ltake_q (B : Nat) (F : Nat → Prop) (l size : Nat) (us : List Value) (pu : List (List Int)) (vs : List Value) (pp : List (List Int)) (n : Int) (hn : -9223372036854775808 ≤ n ∧ n ≤ 9223372036854775807) (w : World) (hL : LSt w B F l size us pu vs pp) (hs : size ≤ 4096) :
    Calls Try.prog 29 #[.pointer (some ⟨l, 0, none⟩), .int .i64 n] w (LTak w B F l size us pu vs pp (tkn n (pu.length + pp.length))) := by
  obtain ⟨j0', hj0', hy0, hy1, hy2⟩ := info_parts info26
  have CL := Lib.hid (llen_q B F l size us pu vs pp w hL hs)
  have HU : Hid (us.length = pu.length) := Lib.hid hL.urg.len
  have HP : Hid (vs.length = pp.length) := Lib.hid hL.pla.len
  have HF : Hid (∀ k, F k → k < w.heap.size) := Lib.hid (fun k hk => (hL.base k hk).2)
  have HV : Hid (∀ v ∈ us ++ vs, ∀ k, v.ownBlock = some k → k < w.heap.size) := Lib.hid (fun v hv k hk => (List.mem_append.1 hv).elim (fun h => (hL.urg.blocks v h k hk).2) (fun h => (hL.pla.blocks v h k hk).2))
  have HR : Hid (∀ j, j < us.length + vs.length → ∃ a n c, (us ++ vs).getD j undef = .slice a n c) := Lib.hid (fun j hj => by
    rw [getD_app]
    split
    · rename_i hh
      obtain ⟨a, c, e⟩ := own_form (hL.urg.at (j := j) (by have := HU.out; omega)).1
      exact ⟨a, _, c, e⟩
    · rename_i hh
      obtain ⟨a, c, e⟩ := own_form (hL.pla.at (j := j - us.length) (by have := HU.out; have := HP.out; omega)).1
      exact ⟨a, _, c, e⟩)
  have T0 : Hid (∀ w1, Tch Non w w1 → LtI w w1 B F l size us pu vs pp 0 none 0) := Lib.hid (fun w1 ht => ⟨World.ownsRow_nil _ _ _ _, by
    have := hL.keep ht (fun _ _ h => h)
    simpa using this, ht.mono (fun _ h => h.elim)⟩)
  obtain ⟨T, hT⟩ : ∃ T, T = pu.length + pp.length := ⟨_, rfl⟩
  have HT : Hid (us.length + vs.length = T) := Lib.hid (by have := HU.out; have := HP.out; omega)
  have h4 : T ≤ 8192 := by have := hL.leU; have := hL.leP; omega
  rw [← hT] at CL
  rw [← hT]
  obtain ⟨K, hK⟩ : ∃ K, K = tkn n T := ⟨_, rfl⟩
  have HK : Hid (K = min n.toNat T) := Lib.hid hK
  rw [← hK]
  clear hL hs hT hK
  go_enter Try.func29, Try.ntmps29
  rcases Int.lt_trichotomy n (T : Int) with hmn | hmn | hmn
  · go_wp2_with fail
    refine CL.out.mono ?_
    rintro e w0 ⟨rfl, ht0⟩
    have T1 := Lib.hid (T0.out w0 ht0)
    clear ht0 CL T0
    go_wp2
    go_loopw [5, 13] (fun v i wr => ∃ (j : Nat) (ao : Option Addr) (c : Nat), j ≤ K ∧ v = .slice ao j c ∧ i = .int .i64 j ∧ Hid (LtI w wr B F l size us pu vs pp j ao c)) (fun v _ _ => K - lenV v)
    case atStart => exact ⟨0, none, 0, by omega, rfl, rfl, T1⟩
    case round =>
      obtain ⟨j, ao, c, hj, rfl, rfl, HD⟩ := hrel
      clear T1
      by_cases hjn : (j : Int) < n
      · have hjt : j < us.length + vs.length := by have := HT.out; omega
        have HJK : Hid (j + 1 ≤ K) := Lib.hid (by have := HK.out; omega)
        have CG := Lib.hid (lt_get HD.out.st HU.out HP.out hjt)
        obtain ⟨av, nv, cv, hv⟩ := HR.out j hjt
        rw [hv] at CG
        have hj8 : j ≤ 8192 := by omega
        have HT8 : Hid ((us ++ vs).take (j + 1) = (us ++ vs).take j ++ [.slice av nv cv]) := Lib.hid (by rw [take_moreL (us ++ vs) undef (by rw [List.length_append]; omega), hv])
        clear hv
        go_upto_region 4 with fail
        go_wp2_with fail
        refine CG.out.mono ?_
        rintro e w1 ⟨b1, rfl, hQ1, ht1⟩
        have HQ1 := Lib.hid hQ1
        have HT1 := Lib.hid ht1
        have HO : Hid (w1.ownsRow w.heap.size 42 1 (.slice ao j c) j ((us ++ vs).take j)) := Lib.hid (ht1.own HD.out.out (fun k hk e => by have := (HD.out.out.lt k hk).1; have := HF.out k e; omega))
        have HS1 : Hid (w.heap.size ≤ w1.heap.size) := Lib.hid (Nat.le_trans HD.out.tch.size ht1.size)
        clear hQ1 ht1 CG
        go_wp2_with (at_builtin; refine wpList_append_lies _ rfl (.tmp 21) (.tmp 23) 33 rfl w.heap.size 42 j0' (.slice none 0 0) 1 24 Try.underlying33 hj0' hy0 hy1 hy2 rfl (by decide) _ j ((us ++ vs).take j) rfl (HO.out.alloc _) ⟨w1.heap.size, 0, none⟩ 1 1 [.slice av nv cv] rfl rfl (cell_one_new w1 _ _) ?c1 (by decide) ?c2 ?c3 ?c4 _ rfl ?_)
        case c1 => first | rfl | (intro u hu; simp at hu; subst hu; rfl)
        case c2 => unfold maxLen; omega
        case c3 => omega
        case c4 => have := HS1.out; simp; omega
        intro g8 c8 w8 hown hg hlie hlt
        rw [← HT8.out] at hown
        have HD9 := Lib.hid (HD.out.step HF.out HV.out HQ1.out HT1.out hown (((tch_new (bl_al (Below.refl w1.heap.size w1) (.cells #[.slice av nv cv] 42))).mono (fun _ h => h.elim)).trans ((tch_grown hg).mono (fun k hk => hk.symm))))
        have HKJ := HJK.out
        clear hown hg hlie hlt HQ1 HT1 HO HS1 HD HT8
        go_wp2
        go_roundw
        case rel => exact ⟨j + 1, _, _, by omega, rfl, by go_num, HD9⟩
        case measure => simp [lenV]; omega
      · have HE := Lib.hid (lt_end HD.out (show j = K by have := HK.out; omega))
        clear HD
        go_wp2
        go_ret
        exact HE.out
  · subst hmn
    go_wp2_with fail
    refine CL.out.mono ?_
    rintro e w0 ⟨rfl, ht0⟩
    have T1 := Lib.hid (T0.out w0 ht0)
    clear ht0 CL T0
    go_wp2
    go_loopw [5, 13] (fun v i wr => ∃ (j : Nat) (ao : Option Addr) (c : Nat), j ≤ K ∧ v = .slice ao j c ∧ i = .int .i64 j ∧ Hid (LtI w wr B F l size us pu vs pp j ao c)) (fun v _ _ => K - lenV v)
    case atStart => exact ⟨0, none, 0, by omega, rfl, rfl, T1⟩
    case round =>
      obtain ⟨j, ao, c, hj, rfl, rfl, HD⟩ := hrel
      clear T1
      by_cases hjn : (j : Int) < (T : Int)
      · have hjt : j < us.length + vs.length := by have := HT.out; omega
        have HJK : Hid (j + 1 ≤ K) := Lib.hid (by have := HK.out; omega)
        have CG := Lib.hid (lt_get HD.out.st HU.out HP.out hjt)
        obtain ⟨av, nv, cv, hv⟩ := HR.out j hjt
        rw [hv] at CG
        have hj8 : j ≤ 8192 := by omega
        have HT8 : Hid ((us ++ vs).take (j + 1) = (us ++ vs).take j ++ [.slice av nv cv]) := Lib.hid (by rw [take_moreL (us ++ vs) undef (by rw [List.length_append]; omega), hv])
        clear hv
        go_upto_region 4 with fail
        go_wp2_with fail
        refine CG.out.mono ?_
        rintro e w1 ⟨b1, rfl, hQ1, ht1⟩
        have HQ1 := Lib.hid hQ1
        have HT1 := Lib.hid ht1
        have HO : Hid (w1.ownsRow w.heap.size 42 1 (.slice ao j c) j ((us ++ vs).take j)) := Lib.hid (ht1.own HD.out.out (fun k hk e => by have := (HD.out.out.lt k hk).1; have := HF.out k e; omega))
        have HS1 : Hid (w.heap.size ≤ w1.heap.size) := Lib.hid (Nat.le_trans HD.out.tch.size ht1.size)
        clear hQ1 ht1 CG
        go_wp2_with (at_builtin; refine wpList_append_lies _ rfl (.tmp 21) (.tmp 23) 33 rfl w.heap.size 42 j0' (.slice none 0 0) 1 24 Try.underlying33 hj0' hy0 hy1 hy2 rfl (by decide) _ j ((us ++ vs).take j) rfl (HO.out.alloc _) ⟨w1.heap.size, 0, none⟩ 1 1 [.slice av nv cv] rfl rfl (cell_one_new w1 _ _) ?c1 (by decide) ?c2 ?c3 ?c4 _ rfl ?_)
        case c1 => first | rfl | (intro u hu; simp at hu; subst hu; rfl)
        case c2 => unfold maxLen; omega
        case c3 => omega
        case c4 => have := HS1.out; simp; omega
        intro g8 c8 w8 hown hg hlie hlt
        rw [← HT8.out] at hown
        have HD9 := Lib.hid (HD.out.step HF.out HV.out HQ1.out HT1.out hown (((tch_new (bl_al (Below.refl w1.heap.size w1) (.cells #[.slice av nv cv] 42))).mono (fun _ h => h.elim)).trans ((tch_grown hg).mono (fun k hk => hk.symm))))
        have HKJ := HJK.out
        clear hown hg hlie hlt HQ1 HT1 HO HS1 HD HT8
        go_wp2
        go_roundw
        case rel => exact ⟨j + 1, _, _, by omega, rfl, by go_num, HD9⟩
        case measure => simp [lenV]; omega
      · have HE := Lib.hid (lt_end HD.out (show j = K by have := HK.out; omega))
        clear HD
        go_wp2
        go_ret
        exact HE.out
  · go_wp2_with fail
    refine CL.out.mono ?_
    rintro e w0 ⟨rfl, ht0⟩
    have T1 := Lib.hid (T0.out w0 ht0)
    clear ht0 CL T0
    go_wp2
    go_loopw [5, 13] (fun v i wr => ∃ (j : Nat) (ao : Option Addr) (c : Nat), j ≤ K ∧ v = .slice ao j c ∧ i = .int .i64 j ∧ Hid (LtI w wr B F l size us pu vs pp j ao c)) (fun v _ _ => K - lenV v)
    case atStart => exact ⟨0, none, 0, by omega, rfl, rfl, T1⟩
    case round =>
      obtain ⟨j, ao, c, hj, rfl, rfl, HD⟩ := hrel
      clear T1
      by_cases hjn : (j : Int) < (T : Int)
      · have hjt : j < us.length + vs.length := by have := HT.out; omega
        have HJK : Hid (j + 1 ≤ K) := Lib.hid (by have := HK.out; omega)
        have CG := Lib.hid (lt_get HD.out.st HU.out HP.out hjt)
        obtain ⟨av, nv, cv, hv⟩ := HR.out j hjt
        rw [hv] at CG
        have hj8 : j ≤ 8192 := by omega
        have HT8 : Hid ((us ++ vs).take (j + 1) = (us ++ vs).take j ++ [.slice av nv cv]) := Lib.hid (by rw [take_moreL (us ++ vs) undef (by rw [List.length_append]; omega), hv])
        clear hv
        go_upto_region 4 with fail
        go_wp2_with fail
        refine CG.out.mono ?_
        rintro e w1 ⟨b1, rfl, hQ1, ht1⟩
        have HQ1 := Lib.hid hQ1
        have HT1 := Lib.hid ht1
        have HO : Hid (w1.ownsRow w.heap.size 42 1 (.slice ao j c) j ((us ++ vs).take j)) := Lib.hid (ht1.own HD.out.out (fun k hk e => by have := (HD.out.out.lt k hk).1; have := HF.out k e; omega))
        have HS1 : Hid (w.heap.size ≤ w1.heap.size) := Lib.hid (Nat.le_trans HD.out.tch.size ht1.size)
        clear hQ1 ht1 CG
        go_wp2_with (at_builtin; refine wpList_append_lies _ rfl (.tmp 21) (.tmp 23) 33 rfl w.heap.size 42 j0' (.slice none 0 0) 1 24 Try.underlying33 hj0' hy0 hy1 hy2 rfl (by decide) _ j ((us ++ vs).take j) rfl (HO.out.alloc _) ⟨w1.heap.size, 0, none⟩ 1 1 [.slice av nv cv] rfl rfl (cell_one_new w1 _ _) ?c1 (by decide) ?c2 ?c3 ?c4 _ rfl ?_)
        case c1 => first | rfl | (intro u hu; simp at hu; subst hu; rfl)
        case c2 => unfold maxLen; omega
        case c3 => omega
        case c4 => have := HS1.out; simp; omega
        intro g8 c8 w8 hown hg hlie hlt
        rw [← HT8.out] at hown
        have HD9 := Lib.hid (HD.out.step HF.out HV.out HQ1.out HT1.out hown (((tch_new (bl_al (Below.refl w1.heap.size w1) (.cells #[.slice av nv cv] 42))).mono (fun _ h => h.elim)).trans ((tch_grown hg).mono (fun k hk => hk.symm))))
        have HKJ := HJK.out
        clear hown hg hlie hlt HQ1 HT1 HO HS1 HD HT8
        go_wp2
        go_roundw
        case rel => exact ⟨j + 1, _, _, by omega, rfl, by go_num, HD9⟩
        case measure => simp [lenV]; omega
      · have HE := Lib.hid (lt_end HD.out (show j = K by have := HK.out; omega))
        clear HD
        go_wp2
        go_ret
        exact HE.out
end Go.Proofs.Ytdjeacmonlgdhaa
