/- Send and Copy. -/
import Derived.Test.YtkiccdgfhahdlaaFdF
namespace Go.Proofs.Ytkiccdgfhahdlaa
open Go Go.RowKit
set_option linter.unusedVariables false
set_option linter.unusedSimpArgs false

set_option maxRecDepth 100000 in
theorem isNode_yes (n : Int) (h : IsNode n) (w : World) : Calls Try.prog 33 #[.int .i64 n] w fun e w' => e = .returned (.bool true) ∧ w = w' := by
  have CK := Lib.hid (kind_ok n h w)
  clear h
  go_enter Try.func33, Try.ntmps33
  go_wp2_with fail
  refine CK.out.mono ?_
  rintro e w1 ⟨rfl, rfl⟩
  clear CK
  go_wp2
  go_ret
  exact ⟨rfl, rfl⟩
set_option maxRecDepth 100000 in
theorem isNode_no (n : Int) (hm : n ≤ 9223372036854775807) (h : ¬ IsNode n) (w : World) : Calls Try.prog 33 #[.int .i64 n] w fun e w' => e = .returned (.bool false) ∧ w = w' := by
  have CK := Lib.hid (kind_no n hm h w)
  clear h hm
  go_enter Try.func33, Try.ntmps33
  go_wp2_with fail
  refine CK.out.mono ?_
  rintro e w1 ⟨rfl, rfl⟩
  clear CK
  go_wp2
  go_ret
  exact ⟨rfl, rfl⟩
set_option maxRecDepth 100000 in
theorem fsendF_c (P : Option Addr) (frm dst : Int) (ctl : Bool) (v : Value) (w : World) (h1 : IsNode frm) (h2 : IsNode dst) (hP : Calls Try.prog 34 #[.pointer P] w fun e w' => e = .returned (.bool true) ∧ w = w') :
    Calls Try.prog 13 #[.pointer P, .int .i64 frm, .int .i64 dst, .bool ctl, v] w fun e w' => e = .returned (.tuple #[.int .i64 0, errnoF 5]) ∧ w = w' := by
  have C1 := Lib.hid (isNode_yes frm h1 w)
  have C2 := Lib.hid (isNode_yes dst h2 w)
  have CF := Lib.hid hP
  clear h1 h2 hP
  go_enter Try.func13, Try.ntmps13
  go_wp2_with fail
  refine C1.out.mono ?_
  rintro e w1 ⟨rfl, rfl⟩
  go_wp2_with fail
  refine C2.out.mono ?_
  rintro e w1 ⟨rfl, rfl⟩
  go_wp2_with fail
  refine CF.out.mono ?_
  rintro e w1 ⟨rfl, rfl⟩
  clear C1 C2 CF
  go_wp2
  go_ret2
  exact ⟨rfl, rfl⟩
set_option maxRecDepth 100000 in
set_option maxHeartbeats 1000000 in
theorem fsend1_c (B f last : Nat) (F : Nat → Prop) (ls : List Lt) (frm dst : Int) (ctl : Bool) (bs : List Int) (a : Option Addr) (k c : Nat) (w : World) (hL : FSt w B F f ls last) (hB : B ≤ w.heap.size) (h4 : ls.length < 4096) (hl : last ≤ 1000000) (h1 : IsNode frm) (h2 : IsNode dst) (hI : In w a k c bs) (hk : k ≤ 1048576) (K : Nat) (hK : K = last + 1) :
    Calls Try.prog 13 #[.pointer (some ⟨f, 0, none⟩), .int .i64 frm, .int .i64 dst, .bool ctl, .slice a k c] w fun e w' => e = .returned (.tuple #[.int .i64 (K : Int), .nilIface]) ∧ ∃ F2, FTo w B F f (ls ++ [⟨(K : Int), frm, dst, ctl, bs⟩]) K F2 w' := by
  have C1 := Lib.hid (isNode_yes frm h1 w)
  have C2 := Lib.hid (isNode_yes dst h2 w)
  have CF := Lib.hid (ffull_no B f last F ls w hL h4)
  have CC := Lib.hid (bclone_t bs a k c w hI (by omega))
  have HL := Lib.hid hL
  have HI := Lib.hid (And.intro hI.len hI.fit)
  have HB := Lib.hid (And.intro hB (And.intro h4 (And.intro hl hK)))
  clear h1 h2 hL h4 hI hB hl hK
  go_enter Try.func13, Try.ntmps13
  go_wp2_with fail
  refine C1.out.mono ?_
  rintro e w1 ⟨rfl, rfl⟩
  go_wp2_with fail
  refine C2.out.mono ?_
  rintro e w1 ⟨rfl, rfl⟩
  go_wp2_with fail
  refine CF.out.mono ?_
  rintro e w1 ⟨rfl, rfl⟩
  clear C1 C2 CF
  go_wp2_with fail
  refine CC.out.mono ?_
  rintro e w1 ⟨a7, c7, rfl, ho, hb⟩
  clear CC
  have hL1 := HL.out.keep (tch_new hb) (fun _ _ h => h)
  have hfl : f < w.heap.size := (HL.out.blocks f (by obtain ⟨_, _, _, _, _, hF⟩ := HL.out.here; exact (hF f).2 (.inl rfl))).2
  have CA := Lib.hid (add_c B f last F ls ⟨0, frm, dst, ctl, bs⟩ a7 k c7 w1 hL1 (Nat.le_trans HB.out.1 hb.size) K HB.out.2.2.2 HB.out.2.1 HB.out.2.2.1 (by have := own_base ho HB.out.1; rw [← HI.out.1] at this ⊢; exact this) (fun e => by have := (ho.lt f e).1; omega) HI.out.2)
  have HO := Lib.hid (And.intro ho hb)
  unfold Lt.val at CA
  clear hL1 hfl ho hb
  go_wp2_with fail
  refine CA.out.mono ?_
  rintro e w2 ⟨rfl, F2, h2, h3, h5⟩
  have HE : Hid (∃ F2, FTo w B F f (ls ++ [⟨(K : Int), frm, dst, ctl, bs⟩]) K F2 w2) := Lib.hid ⟨F2, h2, fun x hx => by
    rcases h3 x hx with h | h | h
    · exact .inl h
    · exact .inr (Nat.le_trans HO.out.2.size h)
    · exact .inr (HO.out.1.lt x h).1, ((tch_new HO.out.2).mono (fun _ h => h.elim)).trans h5⟩
  clear CA h2 h3 h5
  go_wp2
  go_ret2
  exact ⟨rfl, HE.out⟩
set_option maxRecDepth 100000 in
theorem fsend0_c (P : Option Addr) (frm dst : Int) (ctl : Bool) (v : Value) (w : World) (hf : I64 frm) (hd : I64 dst) (h : ¬ (IsNode frm ∧ IsNode dst)) :
    Calls Try.prog 13 #[.pointer P, .int .i64 frm, .int .i64 dst, .bool ctl, v] w fun e w' => e = .returned (.tuple #[.int .i64 0, errnoF 12]) ∧ w = w' := by
  by_cases h1 : IsNode frm
  · have C1 := Lib.hid (isNode_yes frm h1 w)
    have C2 := Lib.hid (isNode_no dst hd.2 (fun h2 => h ⟨h1, h2⟩) w)
    clear hf hd h h1
    go_enter Try.func13, Try.ntmps13
    go_wp2_with fail
    refine C1.out.mono ?_
    rintro e w1 ⟨rfl, rfl⟩
    go_wp2_with fail
    refine C2.out.mono ?_
    rintro e w1 ⟨rfl, rfl⟩
    clear C1 C2
    go_wp2
    go_ret2
    exact ⟨rfl, rfl⟩
  · have C1 := Lib.hid (isNode_no frm hf.2 h1 w)
    clear hf hd h h1
    go_enter Try.func13, Try.ntmps13
    go_wp2_with fail
    refine C1.out.mono ?_
    rintro e w1 ⟨rfl, rfl⟩
    clear C1
    go_wp2
    go_ret2
    exact ⟨rfl, rfl⟩
theorem fsend_c (B f last : Nat) (F : Nat → Prop) (ls : List Lt) (frm dst : Int) (ctl : Bool) (bs : List Int) (a : Option Addr) (k c : Nat) (w : World) (hL : FSt w B F f ls last) (hB : B ≤ w.heap.size) (h4 : ls.length ≤ 4096) (hl : last ≤ 1000000) (hf : I64 frm) (hd : I64 dst) (hI : In w a k c bs) (hk : k ≤ 1048576) :
    Calls Try.prog 13 #[.pointer (some ⟨f, 0, none⟩), .int .i64 frm, .int .i64 dst, .bool ctl, .slice a k c] w (FSnt w B F f (sendR ls last frm dst ctl bs)) := by
  unfold sendR
  split
  · rename_i h
    unfold putR
    split
    · rename_i h9
      refine (fsendF_c _ frm dst ctl _ w h.1 h.2 (ffull_yes B f last F ls w hL h9)).mono ?_
      rintro e w' ⟨rfl, rfl⟩
      exact ⟨rfl, F, hL, fun x h => .inl h, Tch.refl _ _⟩
    · rename_i h9
      refine (fsend1_c B f last F ls frm dst ctl bs a k c w hL hB (by omega) hl h.1 h.2 hI hk (last + 1) rfl).mono ?_
      rintro e w' ⟨rfl, F2, h2⟩
      exact ⟨rfl, F2, h2⟩
  · rename_i h
    refine (fsend0_c _ frm dst ctl _ w hf hd h).mono ?_
    rintro e w' ⟨rfl, rfl⟩
    exact ⟨rfl, F, hL, fun x h => .inl h, Tch.refl _ _⟩
set_option maxRecDepth 100000 in
theorem fcopy0_c (P : Option Addr) (n : Int) (w : World) (hP : Calls Try.prog 39 #[.pointer P, .int .i64 n] w fun e w' => e = .returned (.tuple #[.int .i64 0, errnoF 6]) ∧ w = w') :
    Calls Try.prog 21 #[.pointer P, .int .i64 n] w fun e w' => e = .returned (.tuple #[.int .i64 0, errnoF 6]) ∧ w = w' := by
  have CP := Lib.hid hP
  clear hP
  go_enter Try.func21, Try.ntmps21
  go_wp2_with fail
  refine CP.out.mono ?_
  rintro e w1 ⟨rfl, rfl⟩
  clear CP
  go_wp2
  go_ret2
  exact ⟨rfl, rfl⟩
set_option maxRecDepth 100000 in
theorem fcopyF_c (B f last : Nat) (F : Nat → Prop) (ls : List Lt) (n : Int) (w : World) (hL : FSt w B F f ls last) (h0 : 0 < ls.length) (h4 : ls.length ≤ 4096) (h9 : 4096 ≤ ls.length) :
    Calls Try.prog 21 #[.pointer (some ⟨f, 0, none⟩), .int .i64 n] w fun e w' => e = .returned (.tuple #[.int .i64 0, errnoF 5]) ∧ w = w' := by
  have CP := Lib.hid (place_c B f last F ls n w hL h0 h4)
  have CF := Lib.hid (ffull_yes B f last F ls w hL h9)
  clear hL h0 h4 h9
  go_enter Try.func21, Try.ntmps21
  go_wp2_with fail
  refine CP.out.mono ?_
  rintro e w1 ⟨rfl, rfl⟩
  clear CP
  go_wp2_with fail
  refine CF.out.mono ?_
  rintro e w1 ⟨rfl, rfl⟩
  clear CF
  go_wp2
  go_ret2
  exact ⟨rfl, rfl⟩
set_option maxRecDepth 100000 in
set_option maxHeartbeats 1000000 in
theorem fcopy1_c (B f last : Nat) (F : Nat → Prop) (ls : List Lt) (n : Int) (w : World) (hL : FSt w B F f ls last) (hB : B ≤ w.heap.size) (h0 : 0 < ls.length) (h4 : ls.length < 4096) (hl : last ≤ 1000000) (K : Nat) (hK : K = last + 1) :
    Calls Try.prog 21 #[.pointer (some ⟨f, 0, none⟩), .int .i64 n] w fun e w' => e = .returned (.tuple #[.int .i64 (K : Int), .nilIface]) ∧ ∃ F2, FTo w B F f (ls ++ [{ ls.getD (plc n ls.length) lt0 with id := (K : Int) }]) K F2 w' := by
  have hj := plc_lt n h0
  have hfit := hL.fits
  obtain ⟨ao, k, c, vs, g, hM, hF, rfl, hk, hkc, hmem, hc, ho⟩ := hL.nthv hj
  have CP := Lib.hid (place_c B f last F ls n w hL h0 (by omega))
  have CF := Lib.hid (ffull_no B f last F ls w hL h4)
  have e0 := hM.c0
  have hT : Tch Non w w := Tch.refl _ _
  obtain ⟨j, hjd⟩ : ∃ j, j = plc n ls.length := ⟨_, rfl⟩
  rw [← hjd] at hj hmem hc ho CP
  rw [← hjd]
  have hc0 := hT.cell (hc 0 (by omega)) (fun h => h)
  have hc1 := hT.cell (hc 1 (by omega)) (fun h => h)
  have hc2 := hT.cell (hc 2 (by omega)) (fun h => h)
  have hc3 := hT.cell (hc 3 (by omega)) (fun h => h)
  have hc4 := hT.cell (hc 4 (by omega)) (fun h => h)
  have hlm : ls.getD j lt0 ∈ ls := by rw [List.getD_eq_getElem?_getD, List.getElem?_eq_getElem hj]; exact List.getElem_mem hj
  have hlf := hfit _ hlm
  have hvm := hM.away _ hmem
  obtain ⟨l, hl2⟩ : ∃ l, l = ls.getD j lt0 := ⟨_, rfl⟩
  obtain ⟨v, hv⟩ : ∃ v, v = vs.getD j undef := ⟨_, rfl⟩
  rw [← hl2] at hc0 hc1 hc2 hc3 hlf
  rw [← hv] at hc4 hvm hmem
  rw [Nat.add_zero] at hc0
  rw [← hl2, ← hv] at ho
  rw [← hl2]
  obtain ⟨av, cv, hv2⟩ := own_form ho
  obtain ⟨nb, hnb⟩ : ∃ k, k = l.bs.length := ⟨_, rfl⟩
  rw [← hnb] at hv2
  rw [hv2] at hc4 ho hvm hmem
  have CA := Lib.hid (add_c B f last F ls l av nb cv w hL hB K hK h4 hl ho hvm hlf)
  have HV : Hid (∀ x, (Value.slice av nb cv).ownBlock = some x → F x) := Lib.hid (fun x hx => (hF x).2 (.inr (.inr ⟨_, hmem, hx⟩)))
  have ij : (j : Int) < (k : Int) := by omega
  have i0 : (0 : Int) ≤ (j : Int) := by omega
  clear hfit hT
  clear hM hF hL hmem hc ho hjd hl2 hv hv2 hnb v hlm hlf hvm hj hk h0 h4 hl hB hK
  unfold Lt.val at CA
  go_enter Try.func21, Try.ntmps21
  go_wp2_with fail
  refine CP.out.mono ?_
  rintro e w1 ⟨rfl, rfl⟩
  clear CP
  go_wp2_with fail
  refine CF.out.mono ?_
  rintro e w1 ⟨rfl, rfl⟩
  clear CF
  go_wp2_with fail
  refine CA.out.mono ?_
  rintro e w2 ⟨rfl, F2, h2, h3, h5⟩
  have HE : Hid (∃ F2, FTo w B F f (ls ++ [{ l with id := (K : Int) }]) K F2 w2) := Lib.hid ⟨F2, h2, fun x hx => by
    rcases h3 x hx with h | h | h
    · exact .inl h
    · exact .inr h
    · exact .inl (HV.out x h), h5⟩
  clear CA h2 h3 h5 e0 hc0 hc1 hc2 hc3 hc4
  go_wp2
  go_ret2
  exact ⟨rfl, HE.out⟩
theorem fcopyN_c (n : Int) (hn : I64 n) (w : World) : Calls Try.prog 21 #[.pointer none, .int .i64 n] w fun e w' => (∃ v, e = .returned (.tuple #[v, errnoF 6])) ∧ Below w.heap.size w w' :=
  (fcopy0_c none n w (placeN_c n w)).mono (fun e w' h => ⟨⟨_, h.1⟩, by rw [← h.2]; exact Below.refl _ _⟩)
theorem fcopy_c (B f last : Nat) (F : Nat → Prop) (ls : List Lt) (n : Int) (w : World) (hL : FSt w B F f ls last) (hB : B ≤ w.heap.size) (h4 : ls.length ≤ 4096) (hl : last ≤ 1000000) :
    Calls Try.prog 21 #[.pointer (some ⟨f, 0, none⟩), .int .i64 n] w (FSnt w B F f (copyR ls last n)) := by
  unfold copyR
  split
  · rename_i h
    subst h
    refine (fcopy0_c _ n w (place0_c B f last F n w hL)).mono ?_
    rintro e w' ⟨rfl, rfl⟩
    exact ⟨rfl, F, hL, fun x h => .inl h, Tch.refl _ _⟩
  · rename_i h
    unfold putR
    split
    · rename_i h9
      refine (fcopyF_c B f last F ls n w hL (List.length_pos_iff.2 h) h4 h9).mono ?_
      rintro e w' ⟨rfl, rfl⟩
      exact ⟨rfl, F, hL, fun x h => .inl h, Tch.refl _ _⟩
    · rename_i h9
      refine (fcopy1_c B f last F ls n w hL hB (List.length_pos_iff.2 h) (by omega) hl (last + 1) rfl).mono ?_
      rintro e w' ⟨rfl, F2, h2⟩
      exact ⟨rfl, F2, h2⟩
end Go.Proofs.Ytkiccdgfhahdlaa
