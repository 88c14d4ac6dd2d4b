/- Contract of towpathlaw11.alive: it returns true. No conditions. What FlowKeeps' puts make, plainly. No conditions but those stated. What stands beside a table while the statements' own rows grow. No conditions but those stated. The program's table beside the document's: each call turns one and leaves the other. Conditions: as each states. Scripts of operations on tables in memory; what long answers. Conditions: as it states. From the guide's word for arguments to scripts in memory. No conditions. -/
import Derived.Test.YtpbgccidhpfmgaaFkA
import Derived.Test.YtpbgccidhpfmgaaFqP
import Derived.Test.YtpbgccidhpfmgaaFwX
import Derived.Test.YtpbgccidhpfmgaaRowI
import Derived.Test.YtpbgccidhpfmgaaFwY
import Derived.Test.YtpbgccidhpfmgaaFwW
import Derived.Test.YtpbgccidhpfmgaaFwT
import Derived.Test.YtpbgccidhpfmgaaFwV
import Derived.Test.YtpbgccidhpfmgaaFwG
import Derived.Deep.CutRange
import Derived.OpenShut
import Derived.SizedLaws
import Derived.Lib.SmallJoins
import Derived.Deep.Slices
import Derived.Deep.Grids
namespace Go.Proofs.Ytpbgccidhpfmgaa
open Go Go.RowKit
set_option linter.unusedVariables false
set_option linter.unusedSimpArgs false

def al1 : En := ⟨exF 1, 7, 0, false, false, 0⟩
def al2 : En := ⟨exF 2, 7, 0, false, false, 1⟩
def al3 : En := ⟨exF 3, 8, 5, false, false, 2⟩
theorem alP_1 : putE 2 (exF 1) 7 0 0 [] = (none, 0, [al1]) := by decide
theorem alP_2 : putE 2 (exF 2) 7 0 1 [al1] = (none, 0, [al1, al2]) := by decide
theorem alP_3 : putE 2 (exF 3) 8 5 2 [al1, al2] = (some al1, 0, [al2, al3]) := by decide
theorem alG : findE (exF 3) [al2, al3] = some al3 := by decide
theorem alT : (touchE 1 (exF 2) 16 3 [al2, al3]).1 = true := by decide
theorem nilNe (w : World) : (binOp .neq 26 .nilIface .nilIface).run Try.prog w = .ok (.bool false) w := by kernel_rfl
theorem nilEl (w : World) : (binOp .eql 26 .nilIface .nilIface).run Try.prog w = .ok (.bool true) w := by kernel_rfl
theorem putV_none (l : List En) : putV (none, 0, l) = .tuple #[en0.val, .bool false, .nilIface] := rfl
theorem putV_some (o : En) (l : List En) : putV (some o, 0, l) = .tuple #[o.val, .bool true, .nilIface] := rfl
theorem getR_some (o : En) : getR (some o) = .tuple #[o.val, .bool true] := rfl
set_option maxRecDepth 100000 in
set_option maxHeartbeats 4000000 in
theorem alive11_any (w : World) : Calls Try.prog 11 #[] w fun e w' => e = .returned (.bool true) ∧ Below w.heap.size w w' := by
  have en := nilNe
  have ee := nilEl
  have CN := Lib.hid (tnew_t 1 2 w (by unfold InN; omega) (by unfold InN; omega))
  have CE := Lib.hid ex_c
  go_enter Try.func11, Try.ntmps11
  go_wp2_with fail
  refine CN.out.mono ?_
  rintro e w1 hW
  obtain ⟨p, rfl, hO⟩ := TOn.made (by unfold OkQ; omega) hW
  have HO := Lib.hid hO
  clear hW hO CN
  go_wp2_with fail
  refine (CE.out 1 w1).mono ?_
  rintro e w2 ⟨rfl, hb⟩
  have CP := Lib.hid (((HO.out.new hb).1).put (exF 1) 7 0 0 (by decide) (exF_fit (by unfold InN; omega)) (by unfold In32; omega) (by unfold InN; omega) (by unfold InN; omega))
  rw [alP_1, putV_none] at CP
  clear HO hb
  go_wp2_with fail
  refine CP.out.mono ?_
  rintro e w3 ⟨rfl, hO, _⟩
  have HO := Lib.hid hO
  clear CP hO
  go_wp2_with fail
  refine (CE.out 2 w3).mono ?_
  rintro e w4 ⟨rfl, hb⟩
  have CP := Lib.hid (((HO.out.new hb).1).put (exF 2) 7 0 1 (by decide) (exF_fit (by unfold InN; omega)) (by unfold In32; omega) (by unfold InN; omega) (by unfold InN; omega))
  rw [alP_2, putV_none] at CP
  clear HO hb
  go_wp2_with fail
  refine CP.out.mono ?_
  rintro e w5 ⟨rfl, hO, _⟩
  have HO := Lib.hid hO
  clear CP hO
  go_wp2_with fail
  refine (CE.out 3 w5).mono ?_
  rintro e w6 ⟨rfl, hb⟩
  have CP := Lib.hid (((HO.out.new hb).1).put (exF 3) 8 5 2 (by decide) (exF_fit (by unfold InN; omega)) (by unfold In32; omega) (by unfold InN; omega) (by unfold InN; omega))
  rw [alP_3, putV_some] at CP
  clear HO hb
  obtain ⟨e1, he1⟩ : ∃ e, e = al1 := ⟨_, rfl⟩
  rw [← he1] at CP
  go_wp2_with fail
  refine CP.out.mono ?_
  rintro e w7 ⟨rfl, hO, _⟩
  obtain ⟨X, hX⟩ : ∃ X, X = w7.alloc e1.obj := ⟨_, rfl⟩
  have hbX : Below w7.heap.size w7 X := by rw [hX]; exact bl_al (Below.refl _ _) _
  have hx : BxE X w7.heap.size e1 := by rw [hX]; exact BxE.new w7 e1
  have hsX : X.heap.size = w7.heap.size + 1 := by rw [hX]; simp
  have HO := Lib.hid (hO.grow hbX)
  obtain ⟨x, hxe⟩ : ∃ x, x = w7.heap.size := ⟨_, rfl⟩
  rw [← hxe] at hx HO
  have HBX := Lib.hid hx
  have HX := Lib.hid (And.intro hX hxe)
  have HXK : Hid (x ≤ x ∧ x < X.heap.size) := Lib.hid (by omega)
  have HE1 := Lib.hid he1
  clear CP hO hbX hx hsX hxe hX he1
  go_upto_region 7 with fail
  rw [← HX.out.1, ← HX.out.2]
  clear HX
  go_wp2_with fail
  refine (CE.out 3 X).mono ?_
  rintro e w8 ⟨rfl, hb⟩
  have hx8 := HBX.out.keep (tch_new hb) (fun h => h)
  have CG := Lib.hid (((HO.out.new hb).1).get (exF 3) (by decide) (exF_fit (by unfold InN; omega)))
  rw [alG, getR_some] at CG
  obtain ⟨e3, he3⟩ : ∃ e, e = al3 := ⟨_, rfl⟩
  rw [← he3] at CG
  have HX8 := Lib.hid hx8
  clear HO hb HBX hx8
  go_wp2_with fail
  refine CG.out.mono ?_
  rintro e w9 ⟨rfl, hO, hk9⟩
  have hx9 := hk9.box HX8.out (.inr HXK.out)
  obtain ⟨Y, hY⟩ : ∃ Y, Y = w9.alloc e3.obj := ⟨_, rfl⟩
  have hbY : Below w9.heap.size w9 Y := by rw [hY]; exact bl_al (Below.refl _ _) _
  have hy : BxE Y w9.heap.size e3 := by rw [hY]; exact BxE.new w9 e3
  have hxY := hx9.keep (tch_new hbY) (fun h => h)
  have hO2 := hO.grow hbY
  have hxy : x < w9.heap.size := hx9.lt
  obtain ⟨y, hye⟩ : ∃ y, y = w9.heap.size := ⟨_, rfl⟩
  rw [← hye] at hy hO2
  have HKY : Hid (∀ wx, Kpt _ Y wx → BxE wx x e1 ∧ BxE wx y e3) := Lib.hid (fun wx (hk : Kpt (fun k => k = x ∨ k = y) Y wx) => ⟨hk.box hxY (.inl rfl), hk.box hy (.inr rfl)⟩)
  have HKK : Hid (∀ V w', Below Y.heap.size Y V → Kpt _ V w' → Kpt (fun k => k = x ∨ k = y) Y w') := Lib.hid (fun V w' hb (hk : Kpt (fun k => (k < w.heap.size ∨ x ≤ k ∧ k < X.heap.size) ∨ y ≤ k ∧ k < Y.heap.size) V w') k hk2 => by
    have h1 := HXK.out
    have h2 := hy.lt
    rcases hk2 with rfl | rfl
    · exact (hk _ (.inl (.inr h1))).trans (hb.block _ (by omega))
    · exact (hk _ (.inr ⟨Nat.le_refl _, h2⟩)).trans (hb.block _ h2))
  have HKB : Hid (∀ V, Below Y.heap.size Y V → Kpt (fun k => k = x ∨ k = y) Y V) := Lib.hid (fun V hb k hk => hb.block k (by have h2 := hy.lt; rcases hk with rfl | rfl <;> omega))
  have HO := Lib.hid hO2
  have HY := Lib.hid (And.intro hY hye)
  have hx0 := hxY.cs
  have hy0 := hy.cs
  have F1 : e1.f = exF 1 := by rw [HE1.out]; rfl
  have hq := flow_eql e1.f (exF 1)
  rw [show eqF e1.f (exF 1) = true by rw [eqF_is]; exact decide_eq_true F1] at hq
  have HAT : Hid ((touchE 1 (exF 2) 16 3 [al2, e3]).1 = true) := Lib.hid (by rw [he3]; exact alT)
  have g1 : (e3.dip == 8) = true := by rw [he3]; rfl
  have g2 : (e3.ep == 5) = true := by rw [he3]; rfl
  have g3 : (e3.la == 2) = true := by rw [he3]; rfl
  clear CG hO hk9 hx9 hbY hy hxY hO2 hye hY he3 HX8 F1 hxy
  go_upto_region 8 with fail
  rw [← HY.out.1, ← HY.out.2]
  clear HY
  have HBx := Lib.hid (show ∀ wx, Kpt (fun k => k = x ∨ k = y) Y wx → wx.cell? ⟨x, 0, none⟩ = some (.int .i64 e1.f.p) ∧ wx.cell? ⟨x, 1, none⟩ = some (.int .u32 e1.f.s) ∧ wx.cell? ⟨x, 2, none⟩ = some (.int .i64 e1.f.sp) ∧ wx.cell? ⟨x, 3, none⟩ = some (.int .u32 e1.f.d) ∧ wx.cell? ⟨x, 4, none⟩ = some (.int .i64 e1.f.dp) ∧ wx.cell? ⟨y, 5, none⟩ = some (.int .u32 e3.dip) ∧ wx.cell? ⟨y, 6, none⟩ = some (.int .i64 e3.ep) ∧ wx.cell? ⟨y, 9, none⟩ = some (.int .i64 e3.la) from fun wx hk => by
    obtain ⟨h1, h2⟩ := HKY.out wx hk
    obtain ⟨x0, x1, x2, x3, x4, _⟩ := h1.cs
    obtain ⟨_, _, _, _, _, y5, y6, _, _, y9⟩ := h2.cs
    exact ⟨x0, x1, x2, x3, x4, y5, y6, y9⟩)
  have hd0 : Below Y.heap.size Y Y.drew := (Below.refl _ _).drew
  have hS0 := HBx.out _ (HKB.out _ hd0)
  have CE1 := Lib.hid (CE.out 1)
  have CE2 := Lib.hid (CE.out 2)
  have CT : Hid (∀ V, Below Y.heap.size Y V → Calls Try.prog 17 #[.pointer (some ⟨p, 0, none⟩), (exF 2).val, .int .i64 16, .int .i64 3] V fun e w' => e = .returned (.bool true) ∧ Below w.heap.size w w' ∧ Kpt (fun k => k = x ∨ k = y) Y w') := Lib.hid (fun V hb => by
    have h1 := (HO.out.new hb).1.touch (exF 2) 16 3 (by simp) (exF_fit (by unfold InN; omega)) (by unfold InN; omega) (by unfold InN; omega)
    rw [HAT.out] at h1
    refine h1.mono ?_
    rintro e w' ⟨he, h2, h3⟩
    exact ⟨he, h2.bel, HKK.out V w' hb h3⟩)
  clear hx0 hy0 CE
  go_region_held3 (fun wx => wx.cell? ⟨x, 0, none⟩ = some (.int .i64 e1.f.p) ∧ wx.cell? ⟨x, 1, none⟩ = some (.int .u32 e1.f.s) ∧ wx.cell? ⟨x, 2, none⟩ = some (.int .i64 e1.f.sp) ∧ wx.cell? ⟨x, 3, none⟩ = some (.int .u32 e1.f.d) ∧ wx.cell? ⟨x, 4, none⟩ = some (.int .i64 e1.f.dp) ∧ wx.cell? ⟨y, 5, none⟩ = some (.int .u32 e3.dip) ∧ wx.cell? ⟨y, 6, none⟩ = some (.int .i64 e3.ep) ∧ wx.cell? ⟨y, 9, none⟩ = some (.int .i64 e3.la)) (first | (with_reducible exact hS0) | (with_reducible exact hS7) | (with_reducible exact hS8) | (with_reducible exact hS9) | (with_reducible assumption) | fail)
    (first | (go_at_call 52; (with_reducible refine (CE1.out _).mono ?_); rintro e w11 ⟨rfl, hb⟩; have hb7 := bl_tr hd0 hb; have hS7 := HBx.out _ (HKB.out _ hb7)) | (go_at_call 52; (with_reducible refine (CE2.out _).mono ?_); rintro e w12 ⟨rfl, hb⟩; have hb8 := bl_tr hb7 hb; have hS8 := HBx.out _ (HKB.out _ hb8)) | (go_at_call 17; (with_reducible refine (CT.out _ hb8).mono ?_); rintro e w13 ⟨rfl, hb9, hk9⟩; have hS9 := HBx.out _ hk9) | fail)
  all_goals
    go_wp2
    go_ret
    exact ⟨rfl, hb9⟩
end Go.Proofs.Ytpbgccidhpfmgaa
namespace Go.Proofs.Ytpbgccidhpfmgaa
open Go Go.RowKit
set_option linter.unusedVariables false
set_option linter.unusedSimpArgs false

def eK (now : Int) (f : Fl) (j : Nat) : En := ⟨f, j, j, false, false, now + (j % 9 : Nat)⟩
/-- The table behind the first i puts. -/
structure KS (now : Int) (fs : List Fl) (i : Nat) (t : List En) : Prop where
  srt : SrtE t
  len : t.length ≤ i
  is : ∀ e ∈ t, ∃ j, j < i ∧ e = eK now (fs.getD j fl0) j ∧ GoodF (fs.getD j fl0) ∧ ∀ k, j < k → k < i → fs.getD k fl0 ≠ fs.getD j fl0
  all : ∀ j, j < i → GoodF (fs.getD j fl0) → (findE (fs.getD j fl0) t).isSome = true
theorem KS.start (now : Int) (fs : List Fl) : KS now fs 0 [] := ⟨List.Pairwise.nil, Nat.le_refl _, fun e h => by simp at h, fun j h => by omega⟩
theorem KS.un {now : Int} {fs : List Fl} {i : Nat} {t : List En} (h : KS now fs i t) : unE t ≤ i := Nat.le_trans (by have := tr_un t; omega) h.len
/-- One put more. -/
theorem KS.put {now : Int} {fs : List Fl} {i : Nat} {t : List En} (h : KS now fs i t) (hi : i < 200) (n0 : 0 ≤ now) (n1 : now ≤ 549755813888) :
    ∃ t', putE 4096 (fs.getD i fl0) i i (now + (i % 9 : Nat)) t = (none, if GoodF (fs.getD i fl0) then 0 else 9, t') ∧ KS now fs (i + 1) t' := by
  have hok : OkN (now + (i % 9 : Nat)) := by unfold OkN; omega
  by_cases hg : GoodF (fs.getD i fl0)
  · rw [if_pos hg]
    cases hf : findE (fs.getD i fl0) t with
    | none =>
      refine ⟨_, put_room hg hok hf (by decide) (by have := h.un; omega), ?_⟩
      have hx : findE (newE (fs.getD i fl0) i i (now + (i % 9 : Nat))).f t = none := hf
      refine ⟨h.srt.ins hx, by rw [insE_len]; have := h.len; omega, fun e he => ?_, fun j hj hgj => ?_⟩
      · rcases insE_mem.1 he with he' | he'
        · rw [he']
          exact ⟨i, by omega, rfl, hg, fun k h1 h2 => by omega⟩
        · obtain ⟨j, hj, he2, hgj, hk⟩ := h.is e he'
          refine ⟨j, by omega, he2, hgj, fun k h1 h2 => ?_⟩
          by_cases hki : k = i
          · subst hki
            intro e3
            exact findE_none.1 hf e he' (by rw [he2]; exact e3.symm)
          · exact hk k h1 (by omega)
      · rw [findE_ins h.srt hx]
        split
        · rfl
        · rename_i hne
          by_cases hji : j = i
          · subst hji
            exact absurd rfl hne
          · exact h.all j (by omega) hgj
    | some e0 =>
      obtain ⟨he0, hf0⟩ := findE_some hf
      obtain ⟨j0, hj0, e0is, _, _⟩ := h.is e0 he0
      have htr : e0.tr = false := by rw [e0is]; rfl
      refine ⟨_, put_old hg hok hf, ?_⟩
      rw [htr]
      have hx : findE (⟨fs.getD i fl0, i, i, false, false, now + (i % 9 : Nat)⟩ : En).f t = some e0 := hf
      refine ⟨h.srt.set _, by rw [setE_len]; have := h.len; omega, fun e he => ?_, fun j hj hgj => ?_⟩
      · obtain ⟨a, ha, rfl⟩ := List.mem_map.1 he
        split
        · exact ⟨i, by omega, rfl, hg, fun k h1 h2 => by omega⟩
        · rename_i hne
          obtain ⟨j, hj, he2, hgj, hk⟩ := h.is a ha
          refine ⟨j, by omega, he2, hgj, fun k h1 h2 => ?_⟩
          by_cases hki : k = i
          · subst hki
            intro e3
            exact hne (by rw [he2]; exact e3.symm)
          · exact hk k h1 (by omega)
      · rw [findE_set h.srt hx]
        split
        · rfl
        · rename_i hne
          by_cases hji : j = i
          · subst hji
            exact absurd rfl hne
          · exact h.all j (by omega) hgj
  · rw [if_neg hg]
    refine ⟨t, put_form hg, h.srt, Nat.le_succ_of_le h.len, fun e he => ?_, fun j hj hgj => ?_⟩
    · obtain ⟨j, hj, he2, hgj, hk⟩ := h.is e he
      refine ⟨j, by omega, he2, hgj, fun k h1 h2 => ?_⟩
      by_cases hki : k = i
      · subst hki
        intro e3
        rw [e3] at hg
        exact hg hgj
      · exact hk k h1 (by omega)
    · by_cases hji : j = i
      · subst hji
        exact absurd hgj hg
      · exact h.all j (by omega) hgj
/-- Nothing is idle ten ticks later; all is thirty ticks later. -/
theorem KS.lim {now : Int} {fs : List Fl} {i : Nat} {t : List En} (h : KS now fs i t) {e : En} (he : e ∈ t) : limE e = 10 ∧ now ≤ e.la ∧ e.la ≤ now + 8 := by
  obtain ⟨j, _, rfl, _⟩ := h.is e he
  refine ⟨rfl, ?_, ?_⟩
  · show now ≤ now + ((j % 9 : Nat) : Int)
    omega
  · show now + ((j % 9 : Nat) : Int) ≤ now + 8
    omega
theorem KS.no {now : Int} {fs : List Fl} {i : Nat} {t : List En} (h : KS now fs i t) (n0 : 0 ≤ now) (n1 : now ≤ 549755813888) : expE (now + 10) t = ([], t) := by
  unfold expE
  rw [if_pos (by unfold OkN; omega)]
  have hi : ∀ e ∈ t, idleE (now + 10) e = false := fun e he => by
    obtain ⟨h1, h2, h3⟩ := h.lim he
    unfold idleE
    rw [h1]
    exact decide_eq_false (by omega)
  rw [List.filter_eq_nil_iff.2 (fun e he => by rw [hi e he]; simp), List.filter_eq_self.2 (fun e he => by rw [hi e he]; rfl)]
  rfl
theorem KS.yes {now : Int} {fs : List Fl} {i : Nat} {t : List En} (h : KS now fs i t) (n0 : 0 ≤ now) (n1 : now ≤ 549755813888) : (expE (now + 30) t).2 = [] := by
  unfold expE
  rw [if_pos (by unfold OkN; omega)]
  refine List.filter_eq_nil_iff.2 (fun e he => ?_)
  obtain ⟨h1, h2, h3⟩ := h.lim he
  unfold idleE
  rw [h1, decide_eq_true (by omega)]
  simp
/-- The place where a flow stands last. -/
def LastK (fs : List Fl) (i j : Nat) (v : Nat) : Prop := j ≤ v ∧ v < i ∧ fs.getD v fl0 = fs.getD j fl0 ∧ ∀ k, v < k → k < i → fs.getD k fl0 ≠ fs.getD j fl0
theorem KS.get {now : Int} {fs : List Fl} {i j v : Nat} {t : List En} (h : KS now fs i t) (hj : j < i) (hv : LastK fs i j v) : findE (fs.getD j fl0) t = if GoodF (fs.getD j fl0) then some (eK now (fs.getD j fl0) v) else none := by
  obtain ⟨v1, v2, v3, v4⟩ := hv
  cases hf : findE (fs.getD j fl0) t with
  | none =>
    by_cases hg : GoodF (fs.getD j fl0)
    · have := h.all j hj hg
      rw [hf] at this
      cases this
    · rw [if_neg hg]
  | some e =>
    obtain ⟨he, hfe⟩ := findE_some hf
    obtain ⟨k, hk, e1, hg, hl⟩ := h.is e he
    have e2 : fs.getD k fl0 = fs.getD j fl0 := by rw [← hfe, e1]; rfl
    have hkv : k = v := by
      rcases Nat.lt_trichotomy k v with q | q | q
      · exact absurd (v3.trans e2.symm) (hl v q v2)
      · exact q
      · exact absurd e2 (v4 k q hk)
    subst hkv
    rw [if_pos (by rw [← e2]; exact hg), e1, e2]
theorem LastK.start (fs : List Fl) (j : Nat) : LastK fs (j + 1) j j := ⟨Nat.le_refl _, by omega, rfl, fun k h1 h2 => by omega⟩
theorem LastK.yes {fs : List Fl} {i j v : Nat} (h : LastK fs i j v) (e : fs.getD j fl0 = fs.getD i fl0) : LastK fs (i + 1) j i := by
  obtain ⟨v1, v2, v3, v4⟩ := h
  exact ⟨by omega, by omega, e.symm, fun k h1 h2 => by omega⟩
theorem LastK.no {fs : List Fl} {i j v : Nat} (h : LastK fs i j v) (e : fs.getD j fl0 ≠ fs.getD i fl0) : LastK fs (i + 1) j v := by
  obtain ⟨v1, v2, v3, v4⟩ := h
  refine ⟨v1, by omega, v3, fun k h1 h2 => ?_⟩
  by_cases hk : k = i
  · rw [hk]
    exact fun e2 => e e2.symm
  · exact v4 k h1 (by omega)
end Go.Proofs.Ytpbgccidhpfmgaa
namespace Go.Proofs.Ytpbgccidhpfmgaa
open Go Go.RowKit
set_option linter.unusedVariables false
set_option linter.unusedSimpArgs false

/-- Blocks of the caller's own turn: the table stays. -/
theorem TOn.turn {w0 w w' : World} {p : Nat} {qt qu : Int} {l : List En} {K K2 T : Nat → Prop} (h : TOn w0 w p qt qu l K) (ht : Tch T w w') (hT : ∀ k, T k → K k) (hlow : ∀ k, T k → w0.heap.size ≤ k) (hK2 : ∀ k, K2 k → K k ∨ w.heap.size ≤ k) (hl : ∀ k, K2 k → k < w'.heap.size) : TOn w0 w' p qt qu l K2 := by
  obtain ⟨F, h1, h2⟩ := h.st
  refine ⟨⟨F, h1.keep ht (fun k hf hk => h2 k (hT k hk) hf), fun k hk hf => ?_⟩, h.bel.trans (ht.below hlow h.bel.size), hl⟩
  rcases hK2 k hk with h3 | h3
  · exact h2 k h3 hf
  · have := (h1.blocks k hf).2
    omega
theorem TOn.boxes {w0 w W : World} {p : Nat} {qt qu : Int} {l : List En} {K : Nat → Prop} (h : TOn w0 w p qt qu l K) {o : Obj} (hW : W = w.alloc o) : TOn w0 W p qt qu l (fun k => K k ∨ k = w.heap.size) ∧ Kpt K w W := by
  subst hW
  have hb := bl_al (Below.refl w.heap.size w) o
  exact ⟨(h.grow hb).less (fun k hk => hk.imp id (fun e => by subst e; exact ⟨Nat.le_refl _, by simp⟩)), (h.new hb).2⟩
theorem own_kpt {K : Nat → Prop} {w w' : World} {B n size : Nat} {e : TypeId} {v : Value} {xs : List Value} (h : w.ownsRow B e size v n xs) (hk : Kpt K w w') (hv : ∀ k, v.ownBlock = some k → K k) : w'.ownsRow B e size v n xs := by
  refine ⟨h.1, ?_⟩
  rcases h.2 with h0 | ⟨g, cap, cur, hv', h1, h2, h3⟩
  · exact .inl h0
  · exact .inr ⟨g, cap, cur, hv', h1, (hk g (hv g (by rw [hv']; rfl))).trans h2, h3⟩
/-- The statement's state: the table, and a row of ints of its own. -/
structure KpS (w : World) (p : Nat) (l : List En) (g : Value) (xs : List Int) (wr : World) : Prop where
  on : TOn w wr p 0 4096 l (fun k => k < w.heap.size ∨ g.ownBlock = some k)
  row : wr.ownsRow w.heap.size 3 1 g xs.length (i64s xs)
theorem KpS.bel {w wr : World} {p : Nat} {l : List En} {g : Value} {xs : List Int} (h : KpS w p l g xs wr) : Below w.heap.size w wr := h.on.bel
theorem KpS.new {w wr W : World} {p : Nat} {l : List En} {g : Value} {xs : List Int} (h : KpS w p l g xs wr) (hb : Below wr.heap.size wr W) : KpS w p l g xs W := ⟨(h.on.new hb).1, owns_bel h.row hb⟩
/-- Another row in its place: grown out of it. -/
theorem KpS.grown {w wr W : World} {p : Nat} {l : List En} {g g' : Value} {xs ys : List Int} (h : KpS w p l g xs wr) (hg : wr.grownBy W g.ownBlock) (ho : W.ownsRow w.heap.size 3 1 g' ys.length (i64s ys)) (hb : ∀ k, g'.ownBlock = some k → g.ownBlock = some k ∨ wr.heap.size ≤ k) : KpS w p l g' ys W := by
  refine ⟨h.on.turn (tch_grown hg) (fun k hk => .inr hk.symm) (fun k hk => (h.row.lt k hk.symm).1) (fun k hk => ?_) (fun k hk => ?_), ho⟩
  · rcases hk with hk | hk
    · exact .inl (.inl hk)
    · rcases hb k hk with h3 | h3
      · exact .inl (.inr h3)
      · exact .inr h3
  · rcases hk with hk | hk
    · have := h.on.bel.size
      have := (tch_grown hg).size
      omega
    · exact (ho.lt k hk).2
end Go.Proofs.Ytpbgccidhpfmgaa
namespace Go.Proofs.Ytpbgccidhpfmgaa
open Go Go.RowKit
set_option linter.unusedVariables false
set_option linter.unusedSimpArgs false

theorem put_len (qu : Int) (f : Fl) (dip ep now : Int) (l : List En) : (putE qu f dip ep now l).2.2.length ≤ l.length + 1 := by
  unfold putE
  split
  · exact Nat.le_succ _
  split
  · exact Nat.le_succ _
  split
  · rw [setE_len]; exact Nat.le_succ _
  split
  · exact Nat.le_succ _
  split
  · rw [insE_len]; exact Nat.le_refl _
  split
  · rw [insE_len]; exact Nat.succ_le_succ (cutE_len _ _)
  · rw [insE_len]; exact Nat.le_refl _
theorem touch_len (qt : Int) (f : Fl) (flags now : Int) (l : List En) : (touchE qt f flags now l).2.length ≤ l.length := by
  unfold touchE
  split
  · exact Nat.le_refl _
  split
  · rw [setE_len]; exact Nat.le_refl _
  · exact Nat.le_refl _
theorem exp_len (now : Int) (l : List En) : (expE now l).2.length ≤ l.length ∧ (expE now l).1.length ≤ l.length := by
  unfold expE
  split
  · exact ⟨List.length_filter_le _ _, by rw [List.length_map]; exact List.length_filter_le _ _⟩
  · exact ⟨Nat.le_refl _, Nat.zero_le _⟩
theorem RtS.kpt {w w' : World} {B m : Nat} {F : Nat → Prop} {qt qu : Int} {l : List En} (h : RtS w B F m qt qu l) (hk : Kpt F w w') : RtS w' B F m qt qu l := by
  obtain ⟨ao, n, c, hM, hF⟩ := h.here
  exact ⟨ao, n, c, ⟨(hk m ((hF m).2 (.inl rfl))).trans hM.here, hM.hm, own_kpt hM.row hk (fun k hk' => (hF k).2 (.inr hk')), hM.away⟩, hF⟩
theorem Kpt.less {K K2 : Nat → Prop} {w w' : World} (h : Kpt K w w') (hk : ∀ k, K2 k → K k) : Kpt K2 w w' := fun k h3 => h k (hk k h3)
theorem InF.kpt {K : Nat → Prop} {w w' : World} {a : Option Addr} {n : Nat} {l : List Fl} (h : InF w a n l) (hk : Kpt K w w') (ha : ∀ b off, a = some ⟨b, off, none⟩ → K b) : InF w' a n l := by
  refine ⟨h.len, ?_⟩
  rcases h.here with h0 | ⟨b, off, e, hc⟩
  · exact .inl h0
  · exact .inr ⟨b, off, e, fun j hj => (hc j hj).map (fun o v h2 => hk.cell h2 (ha b off e))⟩
theorem TOn.writeG {w0 w w' : World} {p : Nat} {qt qu : Int} {l : List En} {K T : Nat → Prop} (h : TOn w0 w p qt qu l K) (ht : Tch T w w') (hT : ∀ k, T k → K k ∧ w0.heap.size ≤ k) : TOn w0 w' p qt qu l (fun k => K k ∨ (w.heap.size ≤ k ∧ k < w'.heap.size)) :=
  h.turn ht (fun k hk => (hT k hk).1) (fun k hk => (hT k hk).2) (fun k hk => hk.imp id (fun h => h.1)) (fun k hk => by
    rcases hk with hk | hk
    · exact Nat.lt_of_lt_of_le (h.lt k hk) ht.size
    · exact hk.2)
/-- Both tables, and blocks X that neither has. -/
def Dq (w0 w : World) (p m : Nat) (qt qu : Int) (l1 l2 : List En) (X : Nat → Prop) : Prop :=
  ∃ G, TOn w0 w p qt qu l1 (fun k => G k ∨ X k) ∧ RtS w w0.heap.size G m qt qu l2 ∧ ∀ k, X k → ¬ G k
section
variable {w0 w w' : World} {p m : Nat} {qt qu : Int} {l1 l2 l1' l2' : List En} {G X : Nat → Prop}
theorem Dq.bel (h : Dq w0 w p m qt qu l1 l2 X) : Below w0.heap.size w0 w := by
  obtain ⟨G, h1, _⟩ := h
  exact h1.bel
theorem Dq.less {X2 : Nat → Prop} (h : Dq w0 w p m qt qu l1 l2 X) (hx : ∀ k, X2 k → X k) : Dq w0 w p m qt qu l1 l2 X2 := by
  obtain ⟨G, h1, h2, h3⟩ := h
  exact ⟨G, h1.less (fun k hk => hk.imp id (hx k)), h2, fun k hk => h3 k (hx k hk)⟩
theorem Dq.new (h : Dq w0 w p m qt qu l1 l2 X) (hb : Below w.heap.size w w') : Dq w0 w' p m qt qu l1 l2 X ∧ Kpt X w w' := by
  obtain ⟨G, h1, h2, h3⟩ := h
  obtain ⟨k1, k2⟩ := h1.new hb
  exact ⟨⟨G, k1, h2.keep (tch_new hb) (fun _ _ h => h), h3⟩, k2.less (fun k hk => .inr hk)⟩
theorem Dq.grow (h : Dq w0 w p m qt qu l1 l2 X) (hb : Below w.heap.size w w') : Dq w0 w' p m qt qu l1 l2 (fun k => X k ∨ (w.heap.size ≤ k ∧ k < w'.heap.size)) := by
  obtain ⟨G, h1, h2, h3⟩ := h
  refine ⟨G, (h1.grow hb).less (fun k hk => ?_), h2.keep (tch_new hb) (fun _ _ h => h), fun k hk hg => ?_⟩
  · rcases hk with hk | hk | hk
    · exact .inl (.inl hk)
    · exact .inl (.inr hk)
    · exact .inr hk
  · rcases hk with hk | hk
    · exact h3 k hk hg
    · have := (h2.blocks k hg).2
      omega
theorem Dq.s (hO : TOn w0 w' p qt qu l1' (fun k => G k ∨ X k)) (hR : RtS w w0.heap.size G m qt qu l2) (hX : ∀ k, X k → ¬ G k) (hk : Kpt (fun k => G k ∨ X k) w w') : Dq w0 w' p m qt qu l1' l2 X ∧ Kpt X w w' :=
  ⟨⟨G, hO, hR.kpt (hk.less (fun k h => .inl h)), hX⟩, hk.less (fun k h => .inr h)⟩
theorem Dq.r {G2 : Nat → Prop} (hO : TOn w0 w p qt qu l1 (fun k => G k ∨ X k)) (hR : RtS w w0.heap.size G m qt qu l2) (hX : ∀ k, X k → ¬ G k) (h : RtTo w w0.heap.size G m qt qu l2' G2 w') : Dq w0 w' p m qt qu l1 l2' X ∧ Kpt X w w' := by
  obtain ⟨h1, h2, h3⟩ := h
  refine ⟨⟨G2, (hO.writeG h3 (fun k hk => ⟨.inl hk, (hR.blocks k hk).1⟩)).less (fun k hk => ?_), h1, fun k hk hg => ?_⟩, fun k hk => h3.block k (hO.lt k (.inr hk)) (fun e => hX k hk e)⟩
  · rcases hk with hk | hk
    · rcases h2 k hk with h5 | h5
      · exact .inl (.inl h5)
      · exact .inr ⟨h5, (h1.blocks k hk).2⟩
    · exact .inl (.inr hk)
  · rcases h2 k hg with h5 | h5
    · exact hX k hk h5
    · have := hO.lt k (.inr hk)
      omega
theorem Dq.facts (h : Dq w0 w p m qt qu l1 l2 X) : SrtE l1 ∧ (∀ e ∈ l1, FitE e) ∧ OkQ qt ∧ OkQ qu := by
  obtain ⟨G, h1, _⟩ := h
  exact ⟨h1.srt, h1.fit, h1.quota⟩
theorem Dq.put (h : Dq w0 w p m qt qu l1 l2 X) (f : Fl) (dip ep now : Int) (hn : l1.length ≤ 1048576) (hf : FitF f) (hd : In32 dip) (he : InN ep) (ho : InN now) :
    Calls Try.prog 14 #[.pointer (some ⟨p, 0, none⟩), f.val, .int .u32 dip, .int .i64 ep, .int .i64 now] w fun e w' => e = .returned (putV (putE qu f dip ep now l1)) ∧ Dq w0 w' p m qt qu (putE qu f dip ep now l1).2.2 l2 X ∧ Kpt X w w' := by
  obtain ⟨G, hO, hR, hX⟩ := h
  refine (hO.put f dip ep now hn hf hd he ho).mono ?_
  rintro e w' ⟨he, k1, k2⟩
  exact ⟨he, Dq.s k1 hR hX k2⟩
theorem Dq.rput (h : Dq w0 w p m qt qu l1 l2 X) (f : Fl) (dip ep now : Int) (hs : SrtE l2) (hl : ∀ e ∈ l2, FitE e) (hn : l2.length ≤ 1048576) (hf : FitF f) :
    Calls Try.prog 15 #[.pointer (some ⟨m, 0, none⟩), f.val, .int .u32 dip, .int .i64 ep, .int .i64 now] w fun e w' => e = .returned (.tuple #[((putE qu f dip ep now l2).1.getD en0).val, .bool (putE qu f dip ep now l2).1.isSome, .int .i64 (putE qu f dip ep now l2).2.1]) ∧ Dq w0 w' p m qt qu l1 (putE qu f dip ep now l2).2.2 X ∧ Kpt X w w' := by
  obtain ⟨G, hO, hR, hX⟩ := h
  refine (refPut_c _ m G qt qu l2 f dip ep now w hR hO.bel.size hs hn hO.quota.2 hf hl).mono ?_
  rintro e w' ⟨he, G2, hT⟩
  exact ⟨he, Dq.r hO hR hX hT⟩
theorem Dq.touch (h : Dq w0 w p m qt qu l1 l2 X) (f : Fl) (flags now : Int) (hn : l1.length ≤ 1048576) (hf : FitF f) (hg : InN flags) (ho : InN now) :
    Calls Try.prog 17 #[.pointer (some ⟨p, 0, none⟩), f.val, .int .i64 flags, .int .i64 now] w fun e w' => e = .returned (.bool (touchE qt f flags now l1).1) ∧ Dq w0 w' p m qt qu (touchE qt f flags now l1).2 l2 X ∧ Kpt X w w' := by
  obtain ⟨G, hO, hR, hX⟩ := h
  refine (hO.touch f flags now hn hf hg ho).mono ?_
  rintro e w' ⟨he, k1, k2⟩
  exact ⟨he, Dq.s k1 hR hX k2⟩
theorem Dq.rtouch (h : Dq w0 w p m qt qu l1 l2 X) (f : Fl) (flags now : Int) (hs : SrtE l2) (hn : l2.length ≤ 1048576) :
    Calls Try.prog 18 #[.pointer (some ⟨m, 0, none⟩), f.val, .int .i64 flags, .int .i64 now] w fun e w' => e = .returned (.bool (touchE qt f flags now l2).1) ∧ Dq w0 w' p m qt qu l1 (touchE qt f flags now l2).2 X ∧ Kpt X w w' := by
  obtain ⟨G, hO, hR, hX⟩ := h
  refine (refTouch_c _ m G qt qu l2 f flags now w hR hs hn).mono ?_
  rintro e w' ⟨he, G2, hT⟩
  exact ⟨he, Dq.r hO hR hX hT⟩
theorem Dq.get (h : Dq w0 w p m qt qu l1 l2 X) (f : Fl) (hn : l1.length ≤ 1048576) (hf : FitF f) :
    Calls Try.prog 19 #[.pointer (some ⟨p, 0, none⟩), f.val] w fun e w' => e = .returned (getR (findE f l1)) ∧ Dq w0 w' p m qt qu l1 l2 X ∧ Kpt X w w' := by
  obtain ⟨G, hO, hR, hX⟩ := h
  refine (hO.get f hn hf).mono ?_
  rintro e w' ⟨he, k1, k2⟩
  exact ⟨he, Dq.s k1 hR hX k2⟩
theorem Dq.rget (h : Dq w0 w p m qt qu l1 l2 X) (f : Fl) (hn : l2.length ≤ 1048576) :
    Calls Try.prog 20 #[.pointer (some ⟨m, 0, none⟩), f.val] w fun e w' => e = .returned (getR (findE f l2)) ∧ Dq w0 w' p m qt qu l1 l2 X ∧ Kpt X w w' := by
  have hQ := h
  obtain ⟨G, hO, hR, hX⟩ := h
  refine (refGet_c _ m G qt qu l2 f w hR hn).mono ?_
  rintro e w' ⟨he, hb⟩
  exact ⟨he, hQ.new hb⟩
theorem Dq.rem (h : Dq w0 w p m qt qu l1 l2 X) (fs : List Fl) (b n c : Nat) (hI : InF w (some ⟨b, 0, none⟩) n fs) (hK : X b) (hff : ∀ f ∈ fs, FitF f) (hn : l1.length ≤ 1048576) (hn2 : n ≤ 1048576) :
    Calls Try.prog 21 #[.pointer (some ⟨p, 0, none⟩), .slice (some ⟨b, 0, none⟩) n c] w fun e w' => e = .returned (.int .i64 ((remE fs l1).1 : Nat)) ∧ Dq w0 w' p m qt qu (remE fs l1).2 l2 X ∧ Kpt X w w' := by
  obtain ⟨G, hO, hR, hX⟩ := h
  refine (hO.rem fs _ n c hI (fun b' off e _ => by cases e; exact .inl (.inr hK)) hff hn hn2).mono ?_
  rintro e w' ⟨he, k1, k2⟩
  exact ⟨he, Dq.s k1 hR hX k2⟩
theorem Dq.rrem (h : Dq w0 w p m qt qu l1 l2 X) (fs : List Fl) (b n c : Nat) (hI : InF w (some ⟨b, 0, none⟩) n fs) (hK : X b) (hs : SrtE l2) (hn : l2.length ≤ 1048576) (hn2 : n ≤ 1048576) :
    Calls Try.prog 22 #[.pointer (some ⟨m, 0, none⟩), .slice (some ⟨b, 0, none⟩) n c] w fun e w' => e = .returned (.int .i64 ((remE fs l2).1 : Nat)) ∧ Dq w0 w' p m qt qu l1 (remE fs l2).2 X ∧ Kpt X w w' := by
  obtain ⟨G, hO, hR, hX⟩ := h
  refine (refRemove_c _ m G qt qu l2 fs _ n c w hR hO.bel.size hI (fun b' off e _ => by cases e; exact hX b hK) hs hn hn2).mono ?_
  rintro e w' ⟨he, G2, hT⟩
  exact ⟨he, Dq.r hO hR hX hT⟩
theorem Dq.exp (h : Dq w0 w p m qt qu l1 l2 X) (now : Int) (hn : l1.length ≤ 1048576) (ho : InN now) :
    Calls Try.prog 24 #[.pointer (some ⟨p, 0, none⟩), .int .i64 now] w fun e w' => ∃ a c, e = .returned (.slice a (expE now l1).1.length c) ∧ InF w' a (expE now l1).1.length (expE now l1).1 ∧
      Dq w0 w' p m qt qu (expE now l1).2 l2 (fun k => X k ∨ (Value.slice a (expE now l1).1.length c).ownBlock = some k) ∧ Kpt X w w' := by
  obtain ⟨G, hO, hR, hX⟩ := h
  obtain ⟨F, h1, h2⟩ := hO.st
  refine (texp_t w0.heap.size p F qt qu l1 now w h1 hO.bel.size hn ho).mono ?_
  rintro e w' ⟨F2, a, c, he, hr, ha, hS, hF2, hT⟩
  have hKp : Kpt (fun k => G k ∨ X k) w w' := fun k hk => hT.block k (hO.lt k hk) (h2 k hk)
  refine ⟨a, c, he, ownF_in hr, ⟨G, ⟨⟨F2, hS, fun k hk hf => ?_⟩, hO.bel.trans (hT.below (fun k hk => (h1.blocks k hk).1) hO.bel.size), fun k hk => ?_⟩, hR.kpt (hKp.less (fun k h => .inl h)), fun k hk hg => ?_⟩, hKp.less (fun k h => .inr h)⟩
  · rcases hk with hk | hk | hk
    · rcases hF2 k hf with h4 | h4
      · exact h2 k (.inl hk) h4
      · have := hO.lt k (.inl hk)
        omega
    · rcases hF2 k hf with h4 | h4
      · exact h2 k (.inr hk) h4
      · have := hO.lt k (.inr hk)
        omega
    · exact ha k hk hf
  · rcases hk with hk | hk | hk
    · exact Nat.lt_of_lt_of_le (hO.lt k (.inl hk)) hT.size
    · exact Nat.lt_of_lt_of_le (hO.lt k (.inr hk)) hT.size
    · exact (hr.lt k hk).2
  · rcases hk with hk | hk
    · exact hX k hk hg
    · have := (hr.lt k hk).1
      have := (hR.blocks k hg).2
      omega
theorem Dq.rexp (h : Dq w0 w p m qt qu l1 l2 X) (now : Int) (hl : ∀ e ∈ l2, FitE e) (hn : l2.length ≤ 1048576) :
    Calls Try.prog 25 #[.pointer (some ⟨m, 0, none⟩), .int .i64 now] w fun e w' => (∃ a c, e = .returned (.slice a (expE now l2).1.length c) ∧ InF w' a (expE now l2).1.length (expE now l2).1) ∧ Dq w0 w' p m qt qu l1 (expE now l2).2 X ∧ Kpt X w w' := by
  obtain ⟨G, hO, hR, hX⟩ := h
  refine (refExpire_c _ m G qt qu l2 now w hR hO.bel.size hn (fun e he => (hl e he).la)).mono ?_
  rintro e w' ⟨G2, a, c, he, hr, _, hT⟩
  exact ⟨⟨a, c, he, ownF_in hr⟩, Dq.r hO hR hX hT⟩
theorem Dq.len (h : Dq w0 w p m qt qu l1 l2 X) (hn : l1.length ≤ 1048576) :
    Calls Try.prog 26 #[.pointer (some ⟨p, 0, none⟩)] w fun e w' => e = .returned (.tuple #[.int .i64 (trE l1 : Nat), .int .i64 (unE l1 : Nat)]) ∧ Dq w0 w' p m qt qu l1 l2 X ∧ Kpt X w w' := by
  obtain ⟨G, hO, hR, hX⟩ := h
  refine (hO.len hn).mono ?_
  rintro e w' ⟨he, k1, k2⟩
  exact ⟨he, Dq.s k1 hR hX k2⟩
theorem Dq.rlen (h : Dq w0 w p m qt qu l1 l2 X) (hn : l2.length ≤ 1048576) :
    Calls Try.prog 27 #[.pointer (some ⟨m, 0, none⟩)] w fun e w' => e = .returned (.tuple #[.int .i64 (trE l2 : Nat), .int .i64 (unE l2 : Nat)]) ∧ Dq w0 w' p m qt qu l1 l2 X ∧ Kpt X w w' := by
  have hQ := h
  obtain ⟨G, hO, hR, hX⟩ := h
  obtain ⟨ao, n, c, hM, hF⟩ := hR.here
  have hl := ownE_len hM.row
  refine (refLen_c _ m n c qt qu l2 ao w hM (by omega)).mono ?_
  rintro e w' ⟨he, hb⟩
  exact ⟨he, hQ.new hb⟩
/-- All of the program's, and the document's row. -/
theorem Dq.all (h : Dq w0 w p m qt qu l1 l2 X) (hn : l1.length ≤ 1048576) :
    Calls Try.prog 29 #[.pointer (some ⟨p, 0, none⟩)] w fun e w' => (∃ a c, e = .returned (.slice a l1.length c) ∧ InE w' a l1.length l1) ∧ Dq w0 w' p m qt qu l1 l2 X ∧ Kpt X w w' := by
  obtain ⟨G, hO, hR, hX⟩ := h
  refine (hO.all hn).mono ?_
  rintro e w' ⟨a, c, he, hI, k1, k2⟩
  exact ⟨⟨a, c, he, hI⟩, Dq.s (k1.less (fun k hk => .inl hk)) hR hX k2⟩
theorem Dq.view (h : Dq w0 w p m qt qu l1 l2 X) : ∃ ao c, w.cell? ⟨m, 0, none⟩ = some (.slice ao l2.length c) ∧ InE w ao l2.length l2 := by
  obtain ⟨G, hO, hR, hX⟩ := h
  obtain ⟨ao, n, c, hM, hF⟩ := hR.here
  have hl := ownE_len hM.row
  subst hl
  exact ⟨ao, c, hM.c0, ownE_in hM.row⟩
theorem Dq.allv (h : Dq w0 w p m qt qu l1 l2 X) (hn : l1.length ≤ 1048576) :
    ∃ ao c, w.cell? ⟨m, 0, none⟩ = some (.slice ao l2.length c) ∧ Calls Try.prog 29 #[.pointer (some ⟨p, 0, none⟩)] w fun e w' => (∃ a c', e = .returned (.slice a l1.length c') ∧ InE w' a l1.length l1) ∧ w'.cell? ⟨m, 0, none⟩ = some (.slice ao l2.length c) ∧ InE w' ao l2.length l2 ∧ Dq w0 w' p m qt qu l1 l2 X ∧ Kpt X w w' := by
  obtain ⟨G, hO, hR, hX⟩ := h
  have hR2 := hR
  obtain ⟨ao, n, c, hM, hF⟩ := hR2.here
  have hl := ownE_len hM.row
  subst hl
  refine ⟨ao, c, hM.c0, (hO.all hn).mono ?_⟩
  rintro e w' ⟨a, c', he, hI, k1, k2⟩
  exact ⟨⟨a, c', he, hI⟩, k2.cell hM.c0 (.inl ((hF m).2 (.inl rfl))), ownE_in (own_kpt hM.row k2 (fun k hk => .inl ((hF k).2 (.inr hk)))), Dq.s (k1.less (fun k hk => .inl hk)) hR hX k2⟩
end
theorem Dq.made {w0 w : World} {p : Nat} {qt qu : Int} {K : Nat → Prop} (h : TOn w0 w p qt qu [] K) : Dq w0 (w.alloc (.cells #[.slice none 0 0, .int .i64 qt, .int .i64 qu] 34)) p w.heap.size qt qu [] [] (fun _ => False) := by
  obtain ⟨W, hW⟩ : ∃ W, W = w.alloc (.cells #[.slice none 0 0, .int .i64 qt, .int .i64 qu] 34) := ⟨_, rfl⟩
  rw [← hW]
  refine ⟨fun k => k = w.heap.size, (h.boxes hW).1.less (fun k hk => ?_), ⟨none, 0, 0, ⟨by rw [hW]; exact heap_alloc_new w _, h.bel.size, ⟨rfl, .inl ⟨rfl, rfl⟩⟩, by simp [Value.ownBlock]⟩, fun k => ?_⟩, fun k hk => hk.elim⟩
  · rcases hk with hk | hk
    · exact .inr hk
    · exact hk.elim
  · simp [Value.ownBlock]
end Go.Proofs.Ytpbgccidhpfmgaa
namespace Go.Proofs.Ytpbgccidhpfmgaa
open Go Go.RowKit
set_option linter.unusedVariables false
set_option linter.unusedSimpArgs false

structure Op11 where
  kind : Int
  f : Fl
  dip : Int
  ep : Int
  flags : Int
  now : Int
abbrev tyO : TypeId := 41
abbrev Op11.cells (o : Op11) (a : Option Addr) (n c : Nat) : Array Value := #[.int .i64 o.kind, .int .i64 o.f.p, .int .u32 o.f.s, .int .i64 o.f.sp, .int .u32 o.f.d, .int .i64 o.f.dp, .slice a n c, .int .u32 o.dip, .int .i64 o.ep, .int .i64 o.flags, .int .i64 o.now]
abbrev Op11.val (o : Op11) (a : Option Addr) (n c : Nat) : Value := .agg (o.cells a n c)
structure FitO (o : Op11) : Prop where
  kind : InN o.kind
  f : FitF o.f
  dip : In32 o.dip
  ep : InN o.ep
  flags : InN o.flags
  now : InN o.now
/-- It lies in a box. -/
def BxO (w : World) (q : Nat) (o : Op11) (a : Option Addr) (n c : Nat) : Prop := w.heap[q]? = some (.cells (o.cells a n c) tyO (0, 0))
theorem BxO.new (w : World) (o : Op11) (a : Option Addr) (n c : Nat) : BxO (w.alloc (.cells (o.cells a n c) tyO)) w.heap.size o a n c := (MapKept.heap_alloc w _).1
theorem BxO.below {w w' : World} {q : Nat} {o : Op11} {a : Option Addr} {n c : Nat} (h : BxO w q o a n c) (hb : Below w.heap.size w w') : BxO w' q o a n c := (hb.block q (lt_of_block h)).trans h
theorem BxO.kept {K : Nat → Prop} {w w' : World} {q : Nat} {o : Op11} {a : Option Addr} {n c : Nat} (h : BxO w q o a n c) (hk : Kpt K w w') (hq : K q) : BxO w' q o a n c := (hk q hq).trans h
theorem BxO.cs {w : World} {q : Nat} {o : Op11} {a : Option Addr} {n c : Nat} (h : BxO w q o a n c) : w.cell? ⟨q, 0, none⟩ = some (.int .i64 o.kind) ∧ w.cell? ⟨q, 1, none⟩ = some (.int .i64 o.f.p) ∧ w.cell? ⟨q, 2, none⟩ = some (.int .u32 o.f.s) ∧ w.cell? ⟨q, 3, none⟩ = some (.int .i64 o.f.sp) ∧ w.cell? ⟨q, 4, none⟩ = some (.int .u32 o.f.d) ∧ w.cell? ⟨q, 5, none⟩ = some (.int .i64 o.f.dp) ∧ w.cell? ⟨q, 6, none⟩ = some (.slice a n c) ∧ w.cell? ⟨q, 7, none⟩ = some (.int .u32 o.dip) ∧ w.cell? ⟨q, 8, none⟩ = some (.int .i64 o.ep) ∧ w.cell? ⟨q, 9, none⟩ = some (.int .i64 o.flags) ∧ w.cell? ⟨q, 10, none⟩ = some (.int .i64 o.now) := by
  have hc : ∀ i, w.cell? ⟨q, i, none⟩ = (o.cells a n c)[i]? := fun i => cell_of_row w q i _ _ _ h
  exact ⟨hc 0, hc 1, hc 2, hc 3, hc 4, hc 5, hc 6, hc 7, hc 8, hc 9, hc 10⟩
theorem errEq (k : Int) (hk : k = 4 ∨ k = 5 ∨ k = 9) (w : World) : (binOp .eql 26 (errnoF k) (errnoF k)).run Try.prog w = .ok (.bool true) w := by
  rcases hk with rfl | rfl | rfl <;> kernel_rfl
theorem one_rowF (w : World) (f : Fl) : InF (w.alloc (.cells (csF f).toArray tyF)) (some ⟨w.heap.size, 0, none⟩) 1 [f] := by
  refine ⟨rfl, .inr ⟨w.heap.size, 0, rfl, fun j hj => ?_⟩⟩
  have h0 : j = 0 := by simpa using hj
  subst h0
  refine flIn_of (fun i hi => ?_)
  have := cells_new w (csF f) tyF (0, 0) i ((csF f)[i]'hi) (List.getElem?_eq_getElem hi)
  rw [Nat.zero_mul, Nat.zero_add, show ([f] : List Fl).getD 0 fl0 = f from rfl]
  rw [Nat.zero_add] at this
  rw [this, List.getElem?_eq_getElem hi]
/-- A call of a script. -/
structure OpR where
  o : Op11
  a : Option Addr
  n : Nat
  c : Nat
  fs : List Fl
def opR : OpR := ⟨⟨0, fl0, 0, 0, 0, 0⟩, none, 0, 0, []⟩
instance : Inhabited OpR := ⟨opR⟩
def OpR.cs (o : OpR) : List Value := [.int .i64 o.o.kind, .int .i64 o.o.f.p, .int .u32 o.o.f.s, .int .i64 o.o.f.sp, .int .u32 o.o.f.d, .int .i64 o.o.f.dp, .slice o.a o.n o.c, .int .u32 o.o.dip, .int .i64 o.o.ep, .int .i64 o.o.flags, .int .i64 o.o.now]
/-- A script that came in. -/
structure SFIn (w : World) (ao : Option Addr) (n : Nat) (os : List OpR) : Prop where
  len : os.length = n
  here : n = 0 ∨ ∃ b off, ao = some ⟨b, off, none⟩ ∧ ∀ j, j < n → ∀ i, i < 11 → w.cell? ⟨b, off + j * 11 + i, none⟩ = ((os.getD j opR).cs)[i]?
  rows : ∀ j, j < n → InF w (os.getD j opR).a (os.getD j opR).n (os.getD j opR).fs
  room : ∀ j, j < n → (os.getD j opR).n ≤ (os.getD j opR).c ∧ ((os.getD j opR).a = none → (os.getD j opR).n = 0 ∧ (os.getD j opR).c = 0)
  fit : ∀ j, j < n → FitO (os.getD j opR).o ∧ ∀ f ∈ (os.getD j opR).fs, FitF f
theorem oR_some (o : OpR) {i : Nat} (hi : i < 11) : ∃ u, (o.cs)[i]? = some u := ⟨_, List.getElem?_eq_getElem (by simp [OpR.cs]; omega)⟩
theorem SFIn.below {w w' : World} {ao : Option Addr} {n : Nat} {os : List OpR} (h : SFIn w ao n os) (hb : Below w.heap.size w w') : SFIn w' ao n os :=
  ⟨h.len, h.here.imp id (fun ⟨b, off, e, hc⟩ => ⟨b, off, e, fun j hj i hi => by
    obtain ⟨u, hu⟩ := oR_some (os.getD j opR) hi
    have := hc j hj i hi
    rw [hu] at this ⊢
    exact cell_later hb this⟩), fun j hj => (h.rows j hj).below hb, h.room, h.fit⟩
theorem SFIn.cells {w : World} {b off n : Nat} {os : List OpR} (h : SFIn w (some ⟨b, off, none⟩) n os) {j : Nat} (hj : j < n) {o : OpR} (ho : os.getD j opR = o) :
    w.cell? ⟨b, off + j * 11, none⟩ = some (.int .i64 o.o.kind) ∧ w.cell? ⟨b, off + j * 11 + 1, none⟩ = some (.int .i64 o.o.f.p) ∧ w.cell? ⟨b, off + j * 11 + 2, none⟩ = some (.int .u32 o.o.f.s) ∧ w.cell? ⟨b, off + j * 11 + 3, none⟩ = some (.int .i64 o.o.f.sp) ∧ w.cell? ⟨b, off + j * 11 + 4, none⟩ = some (.int .u32 o.o.f.d) ∧ w.cell? ⟨b, off + j * 11 + 5, none⟩ = some (.int .i64 o.o.f.dp) ∧ w.cell? ⟨b, off + j * 11 + 6, none⟩ = some (.slice o.a o.n o.c) ∧ w.cell? ⟨b, off + j * 11 + 7, none⟩ = some (.int .u32 o.o.dip) ∧ w.cell? ⟨b, off + j * 11 + 8, none⟩ = some (.int .i64 o.o.ep) ∧ w.cell? ⟨b, off + j * 11 + 9, none⟩ = some (.int .i64 o.o.flags) ∧ w.cell? ⟨b, off + j * 11 + 10, none⟩ = some (.int .i64 o.o.now) := by
  subst ho
  rcases h.here with h0 | ⟨b', off', e, hc⟩
  · omega
  · cases e
    exact ⟨hc j hj 0 (by omega), hc j hj 1 (by omega), hc j hj 2 (by omega), hc j hj 3 (by omega), hc j hj 4 (by omega), hc j hj 5 (by omega), hc j hj 6 (by omega), hc j hj 7 (by omega), hc j hj 8 (by omega), hc j hj 9 (by omega), hc j hj 10 (by omega)⟩
theorem SFIn.block {w : World} {n : Nat} {ao : Option Addr} {os : List OpR} (h : SFIn w ao n os) (hn : 0 < n) : ∃ b off, ao = some ⟨b, off, none⟩ := by
  rcases h.here with h0 | ⟨b, off, e, _⟩
  · omega
  · exact ⟨b, off, e⟩
/-- What long answers. -/
def LongF (w : World) (n : Nat) (os : List OpR) (e : Ending) (w' : World) : Prop := ∃ z, e = .returned (.bool z) ∧ Below w.heap.size w w' ∧ (z = false → n ≤ 400 ∧ ∀ j, j < n → (os.getD j opR).n ≤ 400)
set_option maxRecDepth 100000 in
set_option maxHeartbeats 1000000 in
theorem longF_t (ao : Option Addr) (n c : Nat) (os : List OpR) (w : World) (hI : SFIn w ao n os) (hn : n ≤ 1152921504606846976) (hl : ∀ j, j < n → (os.getD j opR).n ≤ 1152921504606846976) :
    Calls Try.prog 13 #[.slice ao n c] w (LongF w n os) := by
  have HI := Lib.hid hI
  have HL := Lib.hid hl
  have HB0 := Lib.hid (Below.refl w.heap.size w)
  have F0 : Hid (∀ i, i < 0 → (os.getD i opR).n ≤ 400) := Lib.hid (fun i hi => absurd hi (by omega))
  clear hI hl
  go_enter Try.func13, Try.ntmps13
  go_wp2
  go_loopw [3, 8] (fun t i wr => ∃ j s : Nat, j ≤ n ∧ i = .int .i64 j ∧ t = .int .i64 s ∧ s ≤ 400 ∧ j ≤ s ∧ Hid (∀ i, i < j → (os.getD i opR).n ≤ 400) ∧ Hid (Below w.heap.size w wr)) (fun _ i _ => n - (intOf i).toNat)
  case atStart => exact ⟨0, 0, by omega, rfl, rfl, by omega, by omega, F0, HB0⟩
  case round =>
    obtain ⟨j, s, hj, rfl, rfl, hs, hjs, HF, HB⟩ := hrel
    clear F0 HB0
    by_cases hlj : j < n
    · have hIr := HI.out.below HB.out
      obtain ⟨b, off, rfl⟩ := hIr.block (by omega)
      obtain ⟨o, ho⟩ : ∃ o, o = os.getD j opR := ⟨_, rfl⟩
      obtain ⟨e0, e1, e2, e3, e4, e5, e6, e7, e8, e9, e10⟩ := hIr.cells hlj ho.symm
      have hll := HL.out j hlj
      rw [← ho] at hll
      have HHO := Lib.hid ho
      obtain ⟨X, hX⟩ : ∃ X, X = wr.alloc (.cells (o.o.cells o.a o.n o.c) tyO) := ⟨_, rfl⟩
      have hox : BxO X wr.heap.size o.o o.a o.n o.c := by rw [hX]; exact BxO.new wr o.o o.a o.n o.c
      have hbX : Below wr.heap.size wr X := by rw [hX]; exact bl_al (Below.refl _ _) _
      obtain ⟨q, hq⟩ : ∃ q, q = wr.heap.size := ⟨_, rfl⟩
      rw [← hq] at hox
      obtain ⟨_, _, _, _, _, _, c5, _⟩ := hox.cs
      obtain ⟨oo, ra, rn, rc, fs⟩ := o
      simp only at e0 e1 e2 e3 e4 e5 e6 e7 e8 e9 e10 c5 hll
      have ilj : (j : Int) < (n : Int) := by omega
      have j0 : (0 : Int) ≤ (j : Int) := by omega
      have HBX := Lib.hid (HB.out.trans (hbX.mono HB.out.size))
      obtain ⟨T, hT⟩ : ∃ T : Nat, T = s + (1 + rn) := ⟨_, rfl⟩
      have HX := Lib.hid (show X = wr.alloc (.cells (oo.cells ra rn rc) tyO) from hX)
      have HQ := Lib.hid hq
      have HT := Lib.hid hT
      clear hIr ho hX hox hbX hq hT
      go_upto_region 5 with fail
      rw [← HX.out, ← HQ.out]
      clear HX HQ e0 e1 e2 e3 e4 e5 e6 e7 e8 e9 e10
      go_upto_region 6 with fail
      rw [show (s : Int) + (1 + (rn : Int)) = (T : Int) by have := HT.out; omega]
      clear c5
      have hTj : j + 1 ≤ T := by have := HT.out; omega
      have HFT : Hid (T ≤ 400 → (os.getD j opR).n ≤ 400) := Lib.hid (fun h => by
        rw [← HHO.out]
        have := HT.out
        show rn ≤ 400
        omega)
      by_cases hg : 400 < T
      · have ig : (400 : Int) < (T : Int) := by omega
        clear hg
        go_wp2
        go_ret
        exact ⟨true, rfl, HBX.out, fun h => by cases h⟩
      · have ig : ¬ ((400 : Int) < (T : Int)) := by omega
        have hT16 : T ≤ 400 := by omega
        have HF2 : Hid (∀ i, i < j + 1 → (os.getD i opR).n ≤ 400) := Lib.hid (fun i hi => by
          rcases Nat.lt_or_ge i j with h | h
          · exact HF.out i h
          · rw [show i = j by omega]
            exact HFT.out hT16)
        clear hg
        go_wp2
        go_roundw
        case rel => exact ⟨j + 1, T, by omega, by go_num, rfl, hT16, hTj, HF2, HBX⟩
        case measure => simp [intOf]; omega
    · have ilj : ¬ ((j : Int) < (n : Int)) := by omega
      have HN : Hid (n ≤ 400) := Lib.hid (by omega)
      have HJN : Hid (j = n) := Lib.hid (by omega)
      clear hlj
      go_wp2
      go_ret
      exact ⟨false, rfl, HB.out, fun _ => ⟨HN.out, fun i hi => HF.out i (by rw [HJN.out]; exact hi)⟩⟩
end Go.Proofs.Ytpbgccidhpfmgaa
namespace Go.Proofs.Ytpbgccidhpfmgaa
open Go Go.RowKit Go.ChangeShapes Go.WideShapes Go.Deep
set_option linter.unusedVariables false
set_option linter.unusedSimpArgs false

theorem weights_at {H : Type} {P : Program} : ∀ {ts : List TypeId} {ds : List (DataW H)}, (DataW.weightsEach P ts ds).all (· ≤ reachBytes) = true → ∀ {j : Nat} {t : TypeId} {d : DataW H}, ts[j]? = some t → ds[j]? = some d → (d.weights P t).all (· ≤ reachBytes) = true
  | [], _, _, _, _, _, ht, _ => by simp at ht
  | _ :: _, [], _, _, _, _, _, hd => by simp at hd
  | t0 :: ts, d0 :: ds, h, 0, t, d, ht, hd => by
    simp only [List.getElem?_cons_zero, Option.some.injEq] at ht hd
    subst ht hd
    rw [DataW.weightsEach, List.all_append, Bool.and_eq_true] at h
    exact h.1
  | t0 :: ts, d0 :: ds, h, j + 1, t, d, ht, hd => by
    simp only [List.getElem?_cons_succ] at ht hd
    rw [DataW.weightsEach, List.all_append, Bool.and_eq_true] at h
    exact weights_at h.2 ht hd
theorem weightsAll_at {H : Type} {P : Program} {e : TypeId} : ∀ {ds : List (DataW H)}, (DataW.weightsAll P e ds).all (· ≤ reachBytes) = true → ∀ d ∈ ds, (d.weights P e).all (· ≤ reachBytes) = true
  | [], _, d, hd => by cases hd
  | d0 :: ds, h, d, hd => by
    rw [DataW.weightsAll, List.all_append, Bool.and_eq_true] at h
    rcases List.mem_cons.1 hd with rfl | hd
    · exact h.1
    · exact weightsAll_at h.2 d hd
theorem plain_of {w : World} {a : Addr} {v : Value} (h : w.cell? (a.add 0) = some v) : a = ⟨a.block, a.off, none⟩ := by
  obtain ⟨b, off, spot⟩ := a
  have hspot : spot = none := by simpa [Addr.add] using World.cell?_spot h
  subst hspot
  rfl
theorem u32_of {n : Int} (h : (Lit.int .u32 n).wf = true) : 0 ≤ n ∧ n < 4294967296 := by
  have e : 0 ≤ n ∧ n ≤ 4294967295 := by simpa [Lit.wf, IntKind.min, IntKind.max, IntKind.signed, IntKind.bits] using h
  omega
theorem getD_range {α : Type} (f : Nat → α) (d : α) {n j : Nat} (hj : j < n) : ((List.range n).map f).getD j d = f j := by
  rw [List.getD_eq_getElem?_getD, List.getElem?_map, List.getElem?_range hj]
  rfl
instance : Inhabited Fl := ⟨fl0⟩
theorem inN_of {n : Int} (h : (Lit.int .i64 n).wf = true) : InN n := by
  have e : -9223372036854775808 ≤ n ∧ n ≤ 9223372036854775807 := by simpa [Lit.wf, IntKind.min, IntKind.max, IntKind.signed, IntKind.bits] using h
  exact e
theorem cells3 : Try.prog.cellsOf 3 = 1 := by kernel_rfl
theorem cells23 : Try.prog.cellsOf 36 = 1 := by kernel_rfl
theorem cellsFl : Try.prog.cellsOf 38 = 5 := by kernel_rfl
theorem bytesFl : Try.prog.bytesOf 38 = 40 := by kernel_rfl
theorem cellsFs : Try.prog.cellsOf 39 = 1 := by kernel_rfl
theorem cellsOp : Try.prog.cellsOf 41 = 11 := by kernel_rfl
theorem bytesOp : Try.prog.bytesOf 41 = 104 := by kernel_rfl
theorem cellsSc : Try.prog.cellsOf 22 = 1 := by kernel_rfl
set_option maxRecDepth 100000 in
theorem open_flowc {H : Type} {enc : TypeId × Value → H} {W : World} {fuel : Nat} {c3 c4 c5 c6 c7 : Value} {x : DataW H × List MemPlace} (hf : DataW.trod enc Try.prog W 0 (fun _ => true) true fuel 38 [c3, c4, c5, c6, c7] = some x) :
    ∃ f : Fl, c3 = .int .i64 f.p ∧ c4 = .int .u32 f.s ∧ c5 = .int .i64 f.sp ∧ c6 = .int .u32 f.d ∧ c7 = .int .i64 f.dp ∧ FitF f := by
  obtain ⟨xs, n, _, hx, _, hlen, hg⟩ := DataW.trod_struct Try.underlying38 hf
  match xs, hlen with
  | [u0, u1, u2, u3, u4], _ =>
    have k0 : DataW.trod enc Try.prog W 0 (fun _ => true) true n 3 [c3] = some u0 := by simpa [Value.cells, cells3, cells23] using hg 0 _ rfl
    have k1 : DataW.trod enc Try.prog W 0 (fun _ => true) true n 36 [c4] = some u1 := by simpa [Value.cells, cells3, cells23] using hg 1 _ rfl
    have k2 : DataW.trod enc Try.prog W 0 (fun _ => true) true n 3 [c5] = some u2 := by simpa [Value.cells, cells3, cells23] using hg 2 _ rfl
    have k3 : DataW.trod enc Try.prog W 0 (fun _ => true) true n 36 [c6] = some u3 := by simpa [Value.cells, cells3, cells23] using hg 3 _ rfl
    have k4 : DataW.trod enc Try.prog W 0 (fun _ => true) true n 3 [c7] = some u4 := by simpa [Value.cells, cells3, cells23] using hg 4 _ rfl
    obtain ⟨z3, e3, _, w3⟩ := DataW.trod_int Try.underlying3 k0
    obtain ⟨z4, e4, _, w4⟩ := DataW.trod_int Try.underlying36 k1
    obtain ⟨z5, e5, _, w5⟩ := DataW.trod_int Try.underlying3 k2
    obtain ⟨z6, e6, _, w6⟩ := DataW.trod_int Try.underlying36 k3
    obtain ⟨z7, e7, _, w7⟩ := DataW.trod_int Try.underlying3 k4
    simp only [List.cons.injEq, and_true] at e3 e4 e5 e6 e7
    exact ⟨⟨z3, z4, z5, z6, z7⟩, e3, e4, e5, e6, e7, ⟨inN_of w3, u32_of w4, inN_of w5, u32_of w6, inN_of w7⟩⟩
def FRow (W : World) (p : Addr) (f : Fl) : Prop := (∀ i, i < 5 → W.cell? (p.add i) = (csF f)[i]?) ∧ FitF f
set_option maxRecDepth 100000 in
theorem open_flow5 {H : Type} {enc : TypeId × Value → H} {W : World} {p : Addr} {cs : List Value} {n : Nat} {d : DataW H} {pl : List MemPlace} (h1 : W.cells? 0 p 5 = some cs) (h2 : DataW.trod enc Try.prog W 0 (fun _ => true) true n 38 cs = some (d, pl)) : ∃ f, FRow W p f := by
  obtain ⟨_, hlen, hc⟩ := World.cells?_some h1
  match cs, hlen with
  | [c0, c1, c2, c3, c4], _ =>
    obtain ⟨f, e3, e4, e5, e6, e7, hT⟩ := open_flowc h2
    subst e3 e4 e5 e6 e7
    refine ⟨f, fun i hi => ?_, hT⟩
    rw [hc i (by simpa using hi)]
    rfl
set_option maxRecDepth 100000 in
theorem open_flows1 {H : Type} {enc : TypeId × Value → H} {W : World} {v : Value} {fuel : Nat} {x : DataW H × List MemPlace} (hf : DataW.trod enc Try.prog W 0 (fun _ => true) true fuel 39 [v] = some x) (hw : (x.1.weights Try.prog 39).all (· ≤ reachBytes) = true) :
    ∃ a n cap fs, v = .slice a n cap ∧ InF W a n fs ∧ n ≤ cap ∧ (a = none → n = 0 ∧ cap = 0) ∧ (∀ f ∈ fs, FitF f) ∧ n ≤ 1152921504606846976 := by
  rcases open_slice Try.underlying39 hf with ⟨hcs, hx⟩ | ⟨a, len, cap, m, n, D, Pl, hcs, _, hl, hm, hmm, hx, hi⟩
  · simp only [List.cons.injEq, and_true] at hcs
    subst hcs
    exact ⟨none, 0, 0, [], rfl, ⟨rfl, .inl rfl⟩, Nat.le_refl _, fun _ => ⟨rfl, rfl⟩, (fun e he => by cases he), Nat.zero_le _⟩
  · simp only [List.cons.injEq, and_true] at hcs
    subst hcs
    simp only [if_true] at hmm
    subst hmm
    rw [hx] at hw
    simp only [DataW.weights, Try.underlying39, List.all_cons, List.all_append, Bool.and_eq_true] at hw
    have h1 := of_decide_eq_true hw.1
    rw [bytesFl, List.length_map, List.length_range] at h1
    rw [cellsFl] at hi
    obtain ⟨L, hL⟩ := choose_lt (n := len) (α := Fl) (p := fun i e => FRow W (a.add (i * 5)) e) (fun i hil => by
      obtain ⟨cs', k1, k2⟩ := hi i (by omega)
      exact open_flow5 k1 k2)
    have hg : ∀ j, j < len → ((List.range len).map L).getD j fl0 = L j := fun j hj => getD_range L fl0 hj
    refine ⟨some a, len, m, (List.range len).map L, rfl, ⟨by simp, ?_⟩, hl, (fun e => by cases e), fun e he => ?_, ?_⟩
    · rcases Nat.eq_zero_or_pos len with h0 | h0
      · subst h0
        exact .inl rfl
      · have hz := (hL 0 h0).1 0 (by omega)
        have ha0 : a.add (0 * 5) = a := by simp [Addr.add]
        rw [ha0] at hz
        have hz2 : W.cell? (a.add 0) = some (.int .i64 (L 0).p) := hz
        have ha := plain_of hz2
        refine .inr ⟨a.block, a.off, by rw [← ha], fun j hj => flIn_of (fun i hi2 => ?_)⟩
        have hjl : j < len := by simpa using hj
        have hc := (hL j hjl).1 i hi2
        rw [ha, Go.WideShapes.add_plain, Go.WideShapes.add_plain] at hc
        rw [hg j hjl]
        exact hc
    · obtain ⟨i, hil, rfl⟩ := List.mem_map.1 he
      exact (hL i (List.mem_range.1 hil)).2
    · unfold reachBytes at h1
      omega
set_option maxRecDepth 100000 in
theorem open_flows {H : Type} {enc : TypeId × Value → H} {W : World} {v : Value} {d : DataW H} {p : List MemPlace} {r : Reach} {b0 : Nat}
    (hv : Value.okWide Try.prog W r b0 39 v) (h : DataW.Trod enc Try.prog W 0 (fun _ => true) true 39 v d p) (hw : (d.weights Try.prog 39).all (· ≤ reachBytes) = true) :
    ∃ a n cap fs, v = .slice a n cap ∧ InF W a n fs ∧ n ≤ cap ∧ (a = none → n = 0 ∧ cap = 0) ∧ (∀ f ∈ fs, FitF f) ∧ n ≤ 1152921504606846976 := by
  obtain ⟨a, n, cap, rfl⟩ := okWide_slice Try.underlying39 hv
  obtain ⟨fuel, hf⟩ := h
  exact open_flows1 (x := (d, p)) (by simpa [Value.cells] using hf) hw
/-- What an operation that came in keeps to. -/
def OpOk (W : World) (o : OpR) : Prop := InF W o.a o.n o.fs ∧ (o.n ≤ o.c ∧ (o.a = none → o.n = 0 ∧ o.c = 0)) ∧ o.n ≤ 1152921504606846976 ∧ FitO o.o ∧ ∀ f ∈ o.fs, FitF f
set_option maxRecDepth 100000 in
theorem open_opc {H : Type} {enc : TypeId × Value → H} {W : World} {n : Nat} {c0 c1 c2 c3 c4 c5 c6 c7 c8 c9 c10 : Value} {d : DataW H} {pl : List MemPlace} (h2 : DataW.trod enc Try.prog W 0 (fun _ => true) true n 41 [c0, c1, c2, c3, c4, c5, c6, c7, c8, c9, c10] = some (d, pl)) (hw : (d.weights Try.prog 41).all (· ≤ reachBytes) = true) : ∃ o : OpR, [c0, c1, c2, c3, c4, c5, c6, c7, c8, c9, c10] = o.cs ∧ OpOk W o := by
  obtain ⟨xs, n', _, hx, _, hxl, hg⟩ := DataW.trod_struct Try.underlying41 h2
  match xs, hxl with
  | [y0, y1, y2, y3, y4, y5, y6], _ =>
    have g0 : DataW.trod enc Try.prog W 0 (fun _ => true) true n' 3 [c0] = some y0 := by simpa [Value.cells, cells3, cells23, cellsFl, cellsFs] using hg 0 _ rfl
    have g1 : DataW.trod enc Try.prog W 0 (fun _ => true) true n' 38 [c1, c2, c3, c4, c5] = some y1 := by simpa [Value.cells, cells3, cells23, cellsFl, cellsFs] using hg 1 _ rfl
    have g2 : DataW.trod enc Try.prog W 0 (fun _ => true) true n' 39 [c6] = some y2 := by simpa [Value.cells, cells3, cells23, cellsFl, cellsFs] using hg 2 _ rfl
    have g3 : DataW.trod enc Try.prog W 0 (fun _ => true) true n' 36 [c7] = some y3 := by simpa [Value.cells, cells3, cells23, cellsFl, cellsFs] using hg 3 _ rfl
    have g4 : DataW.trod enc Try.prog W 0 (fun _ => true) true n' 3 [c8] = some y4 := by simpa [Value.cells, cells3, cells23, cellsFl, cellsFs] using hg 4 _ rfl
    have g5 : DataW.trod enc Try.prog W 0 (fun _ => true) true n' 3 [c9] = some y5 := by simpa [Value.cells, cells3, cells23, cellsFl, cellsFs] using hg 5 _ rfl
    have g6 : DataW.trod enc Try.prog W 0 (fun _ => true) true n' 3 [c10] = some y6 := by simpa [Value.cells, cells3, cells23, cellsFl, cellsFs] using hg 6 _ rfl
    have hd : d = .agg ([y0, y1, y2, y3, y4, y5, y6].map (·.1)) := by
      simp only [Prod.mk.injEq] at hx
      exact hx.1
    rw [hd] at hw
    simp only [DataW.weights, Try.underlying41] at hw
    have hw5 := weights_at (j := 2) (t := 39) (d := y2.1) hw rfl rfl
    obtain ⟨z0, e0, _, w0⟩ := DataW.trod_int Try.underlying3 g0
    obtain ⟨f, f0, f1, f2, f3, f4, hT⟩ := open_flowc g1
    obtain ⟨a, k, c, fs, e2, hI, hkc, hka, hff, hk⟩ := open_flows1 g2 hw5
    obtain ⟨z3, e3, _, w3⟩ := DataW.trod_int Try.underlying36 g3
    obtain ⟨z4, e4, _, w4⟩ := DataW.trod_int Try.underlying3 g4
    obtain ⟨z5, e5, _, w5⟩ := DataW.trod_int Try.underlying3 g5
    obtain ⟨z6, e6, _, w6⟩ := DataW.trod_int Try.underlying3 g6
    simp only [List.cons.injEq, and_true] at e0 e3 e4 e5 e6
    subst e0 f0 f1 f2 f3 f4 e2 e3 e4 e5 e6
    exact ⟨⟨⟨z0, f, z3, z4, z5, z6⟩, a, k, c, fs⟩, rfl, hI, ⟨hkc, hka⟩, hk, ⟨inN_of w0, hT, u32_of w3, inN_of w4, inN_of w5, inN_of w6⟩, hff⟩
set_option maxRecDepth 100000 in
theorem open_op {H : Type} {enc : TypeId × Value → H} {W : World} {p : Addr} {cs : List Value} {n : Nat} {d : DataW H} {pl : List MemPlace} (h1 : W.cells? 0 p 11 = some cs) (h2 : DataW.trod enc Try.prog W 0 (fun _ => true) true n 41 cs = some (d, pl)) (hw : (d.weights Try.prog 41).all (· ≤ reachBytes) = true) : ∃ o : OpR, (∀ i, i < 11 → W.cell? (p.add i) = (o.cs)[i]?) ∧ OpOk W o := by
  obtain ⟨_, hlen, hc⟩ := World.cells?_some h1
  match cs, hlen with
  | [c0, c1, c2, c3, c4, c5, c6, c7, c8, c9, c10], _ =>
    obtain ⟨o, ho, hO⟩ := open_opc h2 hw
    refine ⟨o, fun i hi => ?_, hO⟩
    rw [hc i (by simpa using hi), ho]
set_option maxRecDepth 100000 in
theorem open_opv {H : Type} {enc : TypeId × Value → H} {W : World} {r : Reach} {b0 : Nat} {v : Value} {d : DataW H} {ps : List MemPlace}
    (hv : Value.okWide Try.prog W r b0 41 v) (h : DataW.Trod enc Try.prog W 0 (fun _ => true) true 41 v d ps) (hw : (d.weights Try.prog 41).all (· ≤ reachBytes) = true) :
    ∃ o : OpR, v = o.o.val o.a o.n o.c ∧ OpOk W o := by
  obtain ⟨⟨l⟩, rfl, hsz⟩ := okWide_struct Try.underlying41 hv
  rw [cellsOp] at hsz
  obtain ⟨fuel, hf⟩ := h
  match l, hsz with
  | [c0, c1, c2, c3, c4, c5, c6, c7, c8, c9, c10], _ =>
    obtain ⟨o, ho, hO⟩ := open_opc (d := d) (pl := ps) (by simpa [Value.cells] using hf) hw
    refine ⟨o, ?_, hO⟩
    rw [ho]
    rfl
set_option maxRecDepth 100000 in
theorem open_script1 {H : Type} {enc : TypeId × Value → H} {W : World} {v : Value} {fuel : Nat} {x : DataW H × List MemPlace} (hf : DataW.trod enc Try.prog W 0 (fun _ => true) true fuel 22 [v] = some x) (hw : (x.1.weights Try.prog 22).all (· ≤ reachBytes) = true) :
    ∃ a n cap os, v = .slice a n cap ∧ SFIn W a n os ∧ n ≤ 1152921504606846976 ∧ (∀ j, j < n → (os.getD j opR).n ≤ 1152921504606846976) ∧ n ≤ cap := by
  rcases open_slice Try.underlying22 hf with ⟨hcs, hx⟩ | ⟨a, len, cap, m, n, D, Pl, hcs, _, hl, hm, hmm, hx, hi⟩
  · simp only [List.cons.injEq, and_true] at hcs
    subst hcs
    exact ⟨none, 0, 0, [], rfl, ⟨rfl, .inl rfl, fun j hj => absurd hj (by omega), fun j hj => absurd hj (by omega), fun j hj => absurd hj (by omega)⟩, Nat.zero_le _, (fun j hj => absurd hj (by omega)), Nat.le_refl _⟩
  · simp only [List.cons.injEq, and_true] at hcs
    subst hcs
    simp only [if_true] at hmm
    subst hmm
    rw [hx] at hw
    simp only [DataW.weights, Try.underlying22, List.all_cons, List.all_append, Bool.and_eq_true] at hw
    have h1 := of_decide_eq_true hw.1
    rw [bytesOp, List.length_map, List.length_range] at h1
    have hD := weightsAll_at hw.2.1
    rw [cellsOp] at hi
    obtain ⟨L, hL⟩ := choose_lt (n := len) (α := OpR) (p := fun i o => (∀ k, k < 11 → W.cell? ((a.add (i * 11)).add k) = (o.cs)[k]?) ∧ OpOk W o) (fun i hil => by
      obtain ⟨cs', k1, k2⟩ := hi i (by omega)
      exact open_op k1 k2 (hD (D i) (List.mem_map.2 ⟨i, List.mem_range.2 hil, rfl⟩)))
    have hg : ∀ j, j < len → ((List.range len).map L).getD j opR = L j := fun j hj => getD_range L opR hj
    refine ⟨some a, len, m, (List.range len).map L, rfl, ⟨by simp, ?_, fun j hj => by rw [hg j hj]; exact (hL j hj).2.1, fun j hj => by rw [hg j hj]; exact (hL j hj).2.2.1, fun j hj => by rw [hg j hj]; exact (hL j hj).2.2.2.2⟩, ?_, (fun j hj => by
      rw [hg j hj]
      exact (hL j hj).2.2.2.1), hl⟩
    · rcases Nat.eq_zero_or_pos len with h0 | h0
      · exact .inl h0
      · have hz := (hL 0 h0).1 0 (by omega)
        have ha0 : a.add (0 * 11) = a := by simp [Addr.add]
        rw [ha0] at hz
        have hz2 : W.cell? (a.add 0) = some (.int .i64 (L 0).o.kind) := hz
        have ha := plain_of hz2
        refine .inr ⟨a.block, a.off, by rw [← ha], fun j hj i hi2 => ?_⟩
        have hc := (hL j hj).1 i hi2
        rw [ha, Go.WideShapes.add_plain, Go.WideShapes.add_plain] at hc
        rw [hg j hj]
        exact hc
    · unfold reachBytes at h1
      omega
set_option maxRecDepth 100000 in
theorem open_script {H : Type} {enc : TypeId × Value → H} {W : World} {v : Value} {d : DataW H} {p : List MemPlace} {r : Reach} {b0 : Nat}
    (hv : Value.okWide Try.prog W r b0 22 v) (h : DataW.Trod enc Try.prog W 0 (fun _ => true) true 22 v d p) (hw : (d.weights Try.prog 22).all (· ≤ reachBytes) = true) :
    ∃ a n cap os, v = .slice a n cap ∧ SFIn W a n os ∧ n ≤ 1152921504606846976 ∧ (∀ j, j < n → (os.getD j opR).n ≤ 1152921504606846976) ∧ n ≤ cap := by
  obtain ⟨a, n, cap, rfl⟩ := okWide_slice Try.underlying22 hv
  obtain ⟨fuel, hf⟩ := h
  exact open_script1 (x := (d, p)) (by simpa [Value.cells] using hf) hw
end Go.Proofs.Ytpbgccidhpfmgaa
