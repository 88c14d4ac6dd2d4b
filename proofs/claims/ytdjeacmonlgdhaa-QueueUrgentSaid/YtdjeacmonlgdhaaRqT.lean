/- The document's Take of lanes. Conditions: those stated. -/
import Derived.Test.YtdjeacmonlgdhaaRqL
import Derived.Deep.AppendLies
import Derived.Deep.CutRange
namespace Go.Proofs.Ytdjeacmonlgdhaa
open Go Go.RowKit
set_option linter.unusedVariables false
set_option linter.unusedSimpArgs false

theorem getD_app {α : Type} (l m : List α) (d : α) (j : Nat) : (l ++ m).getD j d = if j < l.length then l.getD j d else m.getD (j - l.length) d := by
  by_cases h : j < l.length
  · rw [if_pos h, List.getD_eq_getElem?_getD, List.getD_eq_getElem?_getD, List.getElem?_append_left h]
  · rw [if_neg h, List.getD_eq_getElem?_getD, List.getD_eq_getElem?_getD, List.getElem?_append_right (by omega)]
/-- Get number j. -/
theorem rl_step (B m size j : Nat) (aU : Option Addr) (nU cU : Nat) (wU : List Value) (pU : List (List Int)) (aP : Option Addr) (nP cP : Nat) (wP : List Value) (pP : List (List Int)) (w : World) (hU : pU.length = wU.length) (hP : pP.length = wP.length) (hj : j < wU.length + wP.length) (bU : wU.length ≤ 4096) (bP : wP.length ≤ 4096) (hB : B ≤ w.heap.size)
    (h : RfL w B m size aU nU cU (wU.drop j) (pU.drop j) aP nP cP (wP.drop (j - wU.length)) (pP.drop (j - wU.length))) :
    Calls Try.prog 28 #[.pointer (some ⟨m, 0, none⟩)] w (GotL w B m size (RLB aU nU cU (wU.drop j) aP nP cP (wP.drop (j - wU.length))) ((wU ++ wP).getD j undef) (decide (j < wU.length)) (wU.drop (j + 1)) (pU.drop (j + 1)) (wP.drop (j + 1 - wU.length)) (pP.drop (j + 1 - wU.length))) := by
  have l1 := h.u.len
  have l2 := h.p.len
  rw [List.length_drop] at l1 l2
  by_cases hju : j < wU.length
  · have e1 : j - wU.length = 0 := by omega
    have e2 : j + 1 - wU.length = 0 := by omega
    obtain ⟨kU, rfl⟩ : ∃ k, nU = k + 1 := ⟨nU - 1, by omega⟩
    rw [getD_app, if_pos hju, decide_eq_true hju, e2]
    rw [e1] at h ⊢
    rw [drop_head wU undef hju, drop_head pU [] (by omega)] at h
    rw [drop_head wU undef hju]
    exact refLGet_u B m size kU aU cU _ _ _ _ aP nP cP _ _ w h hB (by omega)
  · have e2 : j + 1 - wU.length = j - wU.length + 1 := by omega
    have d1 : wU.drop j = [] := List.drop_eq_nil_of_le (by omega)
    have d2 : pU.drop j = [] := List.drop_eq_nil_of_le (by omega)
    have d3 : wU.drop (j + 1) = [] := List.drop_eq_nil_of_le (by omega)
    have d4 : pU.drop (j + 1) = [] := List.drop_eq_nil_of_le (by omega)
    obtain rfl : nU = 0 := by omega
    obtain ⟨kP, rfl⟩ : ∃ k, nP = k + 1 := ⟨nP - 1, by omega⟩
    rw [getD_app, if_neg hju, decide_eq_false hju, e2, d1, d3, d4]
    rw [d1, d2, drop_head wP undef (by omega), drop_head pP [] (by omega)] at h
    rw [drop_head wP undef (by omega)]
    exact refLGet_p B m size kP aU cU _ _ _ _ aP cP w h hB (by omega)
theorem rl_end (B m size j : Nat) (aU : Option Addr) (nU cU : Nat) (wU : List Value) (pU : List (List Int)) (aP : Option Addr) (nP cP : Nat) (wP : List Value) (pP : List (List Int)) (w : World) (hU : pU.length = wU.length) (hP : pP.length = wP.length) (hj : wU.length + wP.length ≤ j)
    (h : RfL w B m size aU nU cU (wU.drop j) (pU.drop j) aP nP cP (wP.drop (j - wU.length)) (pP.drop (j - wU.length))) :
    Calls Try.prog 28 #[.pointer (some ⟨m, 0, none⟩)] w fun e w' => e = .returned (.tuple #[.slice none 0 0, .bool false, .bool false]) ∧ w = w' := by
  have l1 := h.u.len
  have l2 := h.p.len
  rw [List.length_drop] at l1 l2
  obtain rfl : nU = 0 := by omega
  obtain rfl : nP = 0 := by omega
  rw [List.drop_eq_nil_of_le (show wU.length ≤ j by omega), List.drop_eq_nil_of_le (show pU.length ≤ j by omega), List.drop_eq_nil_of_le (show wP.length ≤ j - wU.length by omega), List.drop_eq_nil_of_le (show pP.length ≤ j - wU.length by omega)] at h
  exact refLGet_0 B m size aU cU aP cP w h
def lenV : Value → Nat | .slice _ n _ => n | _ => 0
/-- How many Take takes of t rows. -/
def tkn (n : Int) (t : Nat) : Nat := min n.toNat t
/-- Behind j rows of the document's Take: what it holds. -/
structure TkI (w0 w : World) (B m size : Nat) (L : Nat → Prop) (wU : List Value) (pU : List (List Int)) (wP : List Value) (pP : List (List Int)) (j : Nat) (ao : Option Addr) (c : Nat) (aU : Option Addr) (nU cU : Nat) (aP : Option Addr) (nP cP : Nat) : Prop where
  out : w.ownsRow w0.heap.size 42 1 (.slice ao j c) j ((wU ++ wP).take j)
  st : RfL w B m size aU nU cU (wU.drop j) (pU.drop j) aP nP cP (wP.drop (j - wU.length)) (pP.drop (j - wU.length))
  tch : Tch (· = m) w0 w
  lb : ∀ k, RLB aU nU cU (wU.drop j) aP nP cP (wP.drop (j - wU.length)) k → L k ∨ w0.heap.size ≤ k
  far : ∀ k, (Value.slice ao j c).ownBlock = some k → ¬ RLB aU nU cU (wU.drop j) aP nP cP (wP.drop (j - wU.length)) k
/-- Behind a Get of it, and the row laid down. -/
theorem TkI.step {w0 w w1 w8 : World} {B m size : Nat} {L : Nat → Prop} {wU : List Value} {pU : List (List Int)} {wP : List Value} {pP : List (List Int)} {j : Nat} {ao : Option Addr} {c : Nat} {aU : Option Addr} {nU cU : Nat} {aP : Option Addr} {nP cP : Nat} {a1 : Option Addr} {n1 c1 : Nat} {a2 : Option Addr} {n2 c2 : Nat} {g8 c8 : Nat} (h : TkI w0 w B m size L wU pU wP pP j ao c aU nU cU aP nP cP) (hm : m < w0.heap.size)
    (hR : RfL w1 B m size a1 n1 c1 (wU.drop (j + 1)) (pU.drop (j + 1)) a2 n2 c2 (wP.drop (j + 1 - wU.length)) (pP.drop (j + 1 - wU.length))) (ht : Tch (· = m) w w1) (hl : ∀ k, RLB a1 n1 c1 (wU.drop (j + 1)) a2 n2 c2 (wP.drop (j + 1 - wU.length)) k → RLB aU nU cU (wU.drop j) aP nP cP (wP.drop (j - wU.length)) k ∨ w.heap.size ≤ k)
    (h8 : w8.ownsRow w0.heap.size 42 1 (.slice (some ⟨g8, 0, none⟩) (j + 1) c8) (j + 1) ((wU ++ wP).take (j + 1))) (ht8 : Tch (fun k => (Value.slice ao j c).ownBlock = some k) w1 w8) (hg : (Value.slice ao j c).ownBlock = some g8 ∨ w1.heap.size ≤ g8) : TkI w0 w8 B m size L wU pU wP pP (j + 1) (some ⟨g8, 0, none⟩) c8 a1 n1 c1 a2 n2 c2 := by
  have f1 : ∀ k, (Value.slice ao j c).ownBlock = some k → w0.heap.size ≤ k ∧ k < w.heap.size := fun k hk => h.out.lt k hk
  have f2 : ∀ k, (Value.slice ao j c).ownBlock = some k → ¬ RLB a1 n1 c1 (wU.drop (j + 1)) a2 n2 c2 (wP.drop (j + 1 - wU.length)) k := fun k hk e => by
    rcases hl k e with e | e
    · exact h.far k hk e
    · have := (f1 k hk).2; omega
  refine ⟨h8, hR.keep ht8 (fun e => by have := (f1 m e).1; omega) (fun k hk e => f2 k e hk), (h.tch.trans ht).trans' ht8 (fun k hk e => by have := (f1 k e).1; omega), fun k hk => ?_, fun k hk e => ?_⟩
  · rcases hl k hk with e | e
    · exact h.lb k e
    · right
      have := h.tch.size
      omega
  · cases hk
    rcases hg with hg | hg
    · exact f2 g8 hg e
    · have := (hR.blocks g8 e).2; omega
/-- What the document's Take leaves. -/
def TkL (w : World) (B m size : Nat) (L : Nat → Prop) (wU : List Value) (pU : List (List Int)) (wP : List Value) (pP : List (List Int)) (K : Nat) (e : Ending) (w' : World) : Prop :=
  ∃ ao c aU nU cU aP nP cP, e = .returned (.slice ao K c) ∧ TkI w w' B m size L wU pU wP pP K ao c aU nU cU aP nP cP
theorem tk_end {w w' : World} {B m size j K : Nat} {L : Nat → Prop} {wU : List Value} {pU : List (List Int)} {wP : List Value} {pP : List (List Int)} {ao : Option Addr} {c : Nat} {aU : Option Addr} {nU cU : Nat} {aP : Option Addr} {nP cP : Nat} (h : TkI w w' B m size L wU pU wP pP j ao c aU nU cU aP nP cP) (hj : j = K) : TkL w B m size L wU pU wP pP K (.returned (.slice ao j c)) w' := by
  subst hj
  exact ⟨_, _, _, _, _, _, _, _, rfl, h⟩
set_option maxRecDepth 100000 in
set_option maxHeartbeats 2000000 in
theorem refLTake_t (B m size : Nat) (aU : Option Addr) (nU cU : Nat) (wU : List Value) (pU : List (List Int)) (aP : Option Addr) (nP cP : Nat) (wP : List Value) (pP : List (List Int)) (n : Int) (w : World) (hL : RfL w B m size aU nU cU wU pU aP nP cP wP pP) (hB : B ≤ w.heap.size) (bU : pU.length ≤ 4096) (bP : pP.length ≤ 4096) :
    Calls Try.prog 30 #[.pointer (some ⟨m, 0, none⟩), .int .i64 n] w (TkL w B m size (RLB aU nU cU wU aP nP cP wP) wU pU wP pP (tkn n (pU.length + pP.length))) := by
  obtain ⟨j0', hj0', hy0, hy1, hy2⟩ := info_parts info26
  have hU : pU.length = wU.length := hL.u.rows.len.symm
  have hP : pP.length = wP.length := hL.p.rows.len.symm
  have HM := Lib.hid hL.lt
  have T0 : Hid (TkI w w B m size (RLB aU nU cU wU aP nP cP wP) wU pU wP pP 0 none 0 aU nU cU aP nP cP) := Lib.hid ⟨World.ownsRow_nil _ _ _ _, by simpa using hL, Tch.refl _ _, fun k hk => by
    simp only [List.drop_zero, Nat.zero_sub] at hk
    exact .inl hk, fun k hk => by cases hk⟩
  have HB := Lib.hid hB
  obtain ⟨L, hLd⟩ : ∃ L, L = RLB aU nU cU wU aP nP cP wP := ⟨_, rfl⟩
  rw [← hLd] at T0
  rw [← hLd]
  obtain ⟨K, hK⟩ : ∃ K, K = tkn n (pU.length + pP.length) := ⟨_, rfl⟩
  have HK : Hid (K = min n.toNat (wU.length + wP.length)) := Lib.hid (by rw [hK, hU, hP]; rfl)
  rw [← hK]
  have hE := Lib.hid (And.intro hU hP)
  have hBd : Hid (wU.length ≤ 4096 ∧ wP.length ≤ 4096) := Lib.hid (by omega)
  clear hL hB hLd hK hU hP bU bP
  go_enter Try.func30, Try.ntmps30
  go_wp2
  go_loopw [5] (fun v wr => ∃ (j : Nat) (ao : Option Addr) (c : Nat) (a1 : Option Addr) (n1 c1 : Nat) (a2 : Option Addr) (n2 c2 : Nat), j ≤ K ∧ v = .slice ao j c ∧ Hid (TkI w wr B m size L wU pU wP pP j ao c a1 n1 c1 a2 n2 c2)) (fun v _ => K - (lenV v))
  case atStart => exact ⟨0, none, 0, _, _, _, _, _, _, by omega, rfl, T0⟩
  case round =>
    obtain ⟨j, ao, c, a1, n1, c1, a2, n2, c2, hj, rfl, HT⟩ := hrel
    clear T0
    by_cases hjn : (j : Int) < n
    · by_cases hjt : j < wU.length + wP.length
      · have hBB := Nat.le_trans HB.out HT.out.tch.size
        have CG := Lib.hid (rl_step B m size j a1 n1 c1 wU pU a2 n2 c2 wP pP wr hE.out.1 hE.out.2 hjt hBd.out.1 hBd.out.2 hBB HT.out.st)
        have HV : Hid (∃ av nv cv, (wU ++ wP).getD j undef = .slice av nv cv) := Lib.hid (by
          rw [getD_app]
          split
          · rename_i hh
            have := HT.out.st.u.rows.at (j := 0) (by rw [List.length_drop, hE.out.1]; omega)
            obtain ⟨av, cv, he⟩ := own_form this.1
            rw [List.getD_eq_getElem?_getD, List.getElem?_drop, ← List.getD_eq_getElem?_getD] at he
            exact ⟨av, _, cv, he⟩
          · rename_i hh
            have := HT.out.st.p.rows.at (j := 0) (by rw [List.length_drop, hE.out.2]; omega)
            obtain ⟨av, cv, he⟩ := own_form this.1
            rw [List.getD_eq_getElem?_getD, List.getElem?_drop, ← List.getD_eq_getElem?_getD, Nat.add_zero] at he
            exact ⟨av, _, cv, he⟩)
        obtain ⟨av, nv, cv, hv⟩ := HV.out
        rw [hv] at CG
        have hj8 : j ≤ 8192 := by have := hBd.out; omega
        have HT8 : Hid ((wU ++ wP).take (j + 1) = (wU ++ wP).take j ++ [.slice av nv cv]) := Lib.hid (by rw [take_moreL (wU ++ wP) undef (by rw [List.length_append]; omega), hv])
        have HJK : Hid (j + 1 ≤ K) := Lib.hid (by have := HK.out; omega)
        clear hBB HV hv
        go_upto_region 3 with fail
        go_wp2_with fail
        refine CG.out.mono ?_
        rintro e w1 ⟨b1, m1, d1, b2, m2, d2, rfl, hR, ht, hl⟩
        have HR := Lib.hid hR
        have HTC := Lib.hid ht
        have HLB := Lib.hid hl
        have HO : Hid (w1.ownsRow w.heap.size 42 1 (.slice ao j c) j ((wU ++ wP).take j)) := Lib.hid (ht.own HT.out.out (fun k hk e => by have := (HT.out.out.lt k hk).1; have := HM.out; omega))
        have HS1 : Hid (w.heap.size ≤ w1.heap.size) := Lib.hid (Nat.le_trans HT.out.tch.size ht.size)
        clear hR ht hl CG
        go_wp2_with (at_builtin; refine wpList_append_lies _ rfl (.tmp 22) (.tmp 24) 33 rfl w.heap.size 42 j0' (.slice none 0 0) 1 24 Try.underlying33 hj0' hy0 hy1 hy2 rfl (by decide) _ j ((wU ++ wP).take j) rfl (HO.out.alloc _) ⟨w1.heap.size, 0, none⟩ 1 1 [.slice av nv cv] rfl rfl (cell_one_new w1 _ _) ?c1 (by decide) ?c2 ?c3 ?c4 _ rfl ?_)
        case c1 => first | rfl | (intro u hu; simp at hu; subst hu; rfl)
        case c2 => unfold maxLen; omega
        case c3 => omega
        case c4 => have := HS1.out; simp; omega
        intro g8 c8 w8 hown hg hlie hlt
        rw [← HT8.out] at hown
        have hlie2 : (Value.slice ao j c).ownBlock = some g8 ∨ w1.heap.size ≤ g8 := by
          rcases hlie with h | h
          · exact .inl h
          · right
            have h2 := (tch_new (bl_al (Below.refl w1.heap.size w1) (.cells #[.slice av nv cv] 42))).size
            omega
        have HT9 := Lib.hid (HT.out.step HM.out HR.out HTC.out HLB.out hown (((tch_new (bl_al (Below.refl w1.heap.size w1) (.cells #[.slice av nv cv] 42))).mono (fun _ h => h.elim)).trans ((tch_grown hg).mono (fun k hk => hk.symm))) hlie2)
        clear hown hg hlie hlie2 hlt HR HTC HLB HO HS1 HT HT8
        go_wp2
        go_roundw
        case rel => exact ⟨j + 1, _, _, _, _, _, _, _, _, HJK.out, rfl, HT9⟩
        case measure => have := HJK.out; simp [lenV]; omega
      · have CG := Lib.hid (rl_end B m size j a1 n1 c1 wU pU a2 n2 c2 wP pP wr hE.out.1 hE.out.2 (by omega) HT.out.st)
        have HE := Lib.hid (tk_end HT.out (show j = K by have := HK.out; omega))
        go_upto_region 3 with fail
        go_wp2_with fail
        refine CG.out.mono ?_
        rintro e w1 ⟨rfl, rfl⟩
        clear CG
        go_wp2
        go_ret
        exact HE.out
    · have HE := Lib.hid (tk_end HT.out (show j = K by have := HK.out; omega))
      go_wp2
      go_ret
      exact HE.out
end Go.Proofs.Ytdjeacmonlgdhaa
