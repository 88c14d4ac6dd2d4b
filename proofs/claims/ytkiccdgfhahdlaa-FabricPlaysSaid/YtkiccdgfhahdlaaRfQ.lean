/- The document's fabric: put where there is room. Conditions: those stated. -/
import Derived.Test.YtkiccdgfhahdlaaRfP
namespace Go.Proofs.Ytkiccdgfhahdlaa
open Go Go.RowKit
set_option linter.unusedVariables false
set_option linter.unusedSimpArgs false

set_option maxRecDepth 100000 in
set_option maxHeartbeats 4000000 in
theorem refPut_ok (B m last : Nat) (F : Nat → Prop) (ls : List Lt) (l : Lt) (a : Option Addr) (k c : Nat) (w : World) (hL : LSt w B F m ls last) (hB : B ≤ w.heap.size) (K : Nat) (hK : K = last + 1) (hf : ls.length < 4096) (hl : last ≤ 1000000) (hI : ∀ w', Tch (· = m) w w' → In w' a k c l.bs) (hk : k ≤ 1048576) :
    Calls Try.prog 38 #[.pointer (some ⟨m, 0, none⟩), l.val (.slice a k c)] w fun e w' => e = .returned (.tuple #[.int .i64 (K : Int), .int .i64 0]) ∧ ∃ F2, LTo w B F m (ls ++ [{ l with id := (K : Int) }]) K F2 w' := by
  obtain ⟨i0, hi0, hz0, hz1, hz2⟩ := info_parts info5
  obtain ⟨j0, hj0, hy0, hy1, hy2⟩ := info_parts infoL
  obtain ⟨ao, n, cc, vs, hM, hF⟩ := hL.here
  have hn := hM.len
  have i4 : ¬ (4096 : Int) ≤ (n : Int) := by omega
  have v1 : ∀ [Inhabited Nat], IntKind.i64.wrap ((last : Int) + 1) = (K : Int) := by intro _; rw [IntWalk.i64_in _ (by omega)]; omega
  have HF := Lib.hid hF
  have HK := Lib.hid hk
  have HFT := Lib.hid (hI w (Tch.refl _ _)).fit
  have HIL := Lib.hid (hI w (Tch.refl _ _)).len
  have HB := Lib.hid hB
  have HN : Hid (n < 4096) := Lib.hid (by omega)
  -- the letter's own cell
  obtain ⟨X, hX⟩ : ∃ X, X = w.alloc (.cells #[.int .i64 l.id, .int .i64 l.frm, .int .i64 l.dst, .bool l.ctl, .slice a k c] tyL) := ⟨_, rfl⟩
  obtain ⟨p, hp⟩ : ∃ p, p = w.heap.size := ⟨_, rfl⟩
  have hTX : Tch Non w X := by rw [hX]; exact tch_alloc _ _
  have hBX : Below w.heap.size w X := by rw [hX]; exact bl_al (Below.refl _ _) _
  have hbx : Bx X p l (.slice a k c) := by rw [hX, hp]; exact Bx.new w l _
  have hMX := hM.keep hTX (fun h => h) (fun _ _ h => h)
  have hmp : m ≠ p := by have := hM.lt; omega
  have HP := Lib.hid hp
  have HX := Lib.hid hX
  have HTX := Lib.hid hTX
  have HBX := Lib.hid hBX
  have hXs : X.heap.size = p + 1 := by rw [hX, hp]; simp
  -- the last number
  obtain ⟨X2, hX2⟩ : ∃ Y, Y = X.setCell ⟨m, 1, none⟩ (.int .i64 (K : Int)) := ⟨_, rfl⟩
  have hM2 : LsM X2 B m ls K ao n cc vs := by rw [hX2]; exact hMX.last K
  have hT2 : Tch (· = m) X X2 := by rw [hX2]; exact tch_set X ⟨m, 1, none⟩ _
  have hbx2 : Bx X2 p l (.slice a k c) := hbx.keep hT2 (fun e => hmp e.symm)
  obtain ⟨X3, hX3⟩ : ∃ Y, Y = X2.setCell ⟨p, 0, none⟩ (.int .i64 (K : Int)) := ⟨_, rfl⟩
  have hT3 : Tch (· = p) X2 X3 := by rw [hX3]; exact tch_set X2 ⟨p, 0, none⟩ _
  have hbx3 : Bx X3 p { l with id := (K : Int) } (.slice a k c) := by rw [hX3]; exact hbx2.id _
  have hrb : ∀ k, RfB ao n cc vs k → k < p := fun k hk => by have := (hM.blocks k hk).2; omega
  have hM3 : LsM X3 B m ls K ao n cc vs := hM2.keep hT3 (fun e => hmp e) (fun k hk e => by have := hrb k hk; omega)
  have hTw : Tch (· = m) w X3 := ((hTX.mono (fun _ h => h.elim)).trans hT2).trans' hT3 (fun k hk e => by omega)
  have e0 := hMX.c0
  have e1 := hMX.c1
  have ef := hMX.free
  have e12 := hM2.c1
  have bf2 := hbx2.free
  obtain ⟨b0, _, _, _, _⟩ := hbx2.cell
  have HX2 := Lib.hid hX2
  have HX3 := Lib.hid hX3
  have HM3 := Lib.hid hM3
  have HBX3 := Lib.hid hbx3
  have HTW := Lib.hid hTw
  have HI := Lib.hid hI
  have HMP := Lib.hid hmp
  have HRB := Lib.hid hrb
  have hs3 : X3.heap.size = p + 1 := by rw [hX3, hX2]; simp [hXs]
  have HS3 := Lib.hid hs3
  have HML := Lib.hid hM.lt
  have HBM := Lib.hid hM.hm
  clear hL hM hF hf hk hI hX hp hTX hBX hbx hMX hXs hX2 hM2 hT2 hbx2 hX3 hT3 hbx3 hrb hM3 hTw hs3 hmp hn hB hl hK
  unfold Lt.val
  go_enter Try.func38, Try.ntmps38
  go_upto_region 1 with fail
  rw [← HX.out, ← HP.out]
  go_upto_region 4 with fail
  rw [← HX2.out]
  go_upto_region 5 with fail
  rw [← HX3.out]
  clear e0 e1 ef e12 bf2 b0 HX2 HX3
  -- a copy of its bytes
  have hT0 : Tch (· = m) w (X3.alloc (.cells #[] 5)) := HTW.out.trans ((tch_alloc X3 _).mono (fun _ h => h.elim))
  have HI0 := Lib.hid (HI.out _ hT0)
  obtain ⟨_, _, _, _, b4⟩ := HBX3.out.cell
  have b40 := (tch_alloc X3 (.cells #[] 5)).cell b4 (fun h => h)
  have own0 := World.ownsRow_made (e := 5) (size := 1) X3 #[] 0 (Nat.le_refl _) (by decide) rfl
  have OWN0 := Lib.hid own0
  clear own0 hT0 b4
  go_wp2_with (at_builtin; refine append_any rfl (.tmp 25) (.tmp 27) 31 rfl X3.heap.size 5 i0 (.int .u8 0) 1 1 Try.underlying31 hi0 hz0 hz1 hz2 rfl (by decide) _ 0 [] rfl OWN0.out a k c (u8s l.bs) rfl HI0.out.zero ?c1 HI0.out.cells (u8s_one l.bs) ?c2 ?c3 ?c4 ?_)
  case c1 => have := HIL.out; simp [u8s]; omega
  case c2 => have := HK.out; unfold maxLen; omega
  case c3 => have := HK.out; omega
  intro v7 w7 hown7 hg7
  have hb7 : Below X3.heap.size X3 w7 := (bl_al (Below.refl X3.heap.size X3) (.cells #[] 5)).grown hg7 (by simp) (fun k hk => by cases hk; exact Nat.le_refl _)
  obtain ⟨a7, c7, rfl⟩ := own_form hown7
  have hT7 := tch_new hb7
  have hbx7 := HBX3.out.keep hT7 (fun h => h)
  have hM7 := HM3.out.keep hT7 (fun h => h) (fun _ _ h => h)
  have bf7 := hbx7.free
  obtain ⟨_, _, _, _, b47⟩ := hbx7.cell
  obtain ⟨W, hW⟩ : ∃ W, W = w7.setCell ⟨p, 4, none⟩ (.slice a7 k c7) := ⟨_, rfl⟩
  have hTW : Tch (· = p) w7 W := by rw [hW]; exact tch_set w7 ⟨p, 4, none⟩ _
  have hbxW : Bx W p { l with id := (K : Int) } (.slice a7 k c7) := by rw [hW]; exact hbx7.bytes _
  have hMW : LsM W B m ls K ao n cc vs := hM7.keep hTW (fun e => HMP.out e) (fun k hk e => by have := HRB.out k hk; omega)
  have hrow7 : W.ownsRow X3.heap.size 5 1 (.slice a7 k c7) k (u8s l.bs) := hTW.own hown7 (fun g hg e => by have := (hown7.lt g hg).1; have := HS3.out; omega)
  have HW := Lib.hid hW
  have HTZ : Hid (Tch (· = m) w W) := Lib.hid ((HTW.out.trans (hT7.mono (fun _ h => h.elim))).trans' hTW (fun k hk e => by have := HP.out; omega))
  have HBXW := Lib.hid hbxW
  have HMW := Lib.hid hMW
  have HROW := Lib.hid hrow7
  have HSW : Hid (X3.heap.size ≤ W.heap.size) := Lib.hid (Nat.le_trans hT7.size hTW.size)
  clear hown7 hg7 hb7 hT7 hbx7 hM7 hTW hbxW hMW hrow7 hW OWN0 HI0 b40
  go_upto_region 6 with fail
  rw [← HW.out]
  clear HW bf7 b47
  have e0 := HMW.out.c0
  have ef := HMW.out.free
  obtain ⟨b0, b1, b2, b3, b4⟩ := HBXW.out.cell
  have hmW : m < W.heap.size := HMW.out.lt
  have hpW : p < W.heap.size := HBXW.out.lt
  have HOL := Lib.hid (HMW.out.row.alloc (.cells #[.int .i64 (K : Int), .int .i64 l.frm, .int .i64 l.dst, .bool l.ctl, .slice a7 k c7] tyL))
  have HN5 := Lib.hid (new5 W [.int .i64 (K : Int), .int .i64 l.frm, .int .i64 l.dst, .bool l.ctl, .slice a7 k c7] tyL)
  have HC1 : Hid (∀ u ∈ [.int .i64 (K : Int), .int .i64 l.frm, .int .i64 l.dst, .bool l.ctl, Value.slice a7 k c7], u.oneCell' = true) := Lib.hid (fun u hu => by
    simp only [List.mem_cons, List.not_mem_nil, or_false] at hu
    rcases hu with rfl | rfl | rfl | rfl | rfl <;> rfl)
  have HBW : Hid (B ≤ W.heap.size) := Lib.hid (Nat.le_trans HBM.out (Nat.le_of_lt hmW))
  have hTA := tch_alloc W (.cells #[.int .i64 (K : Int), .int .i64 l.frm, .int .i64 l.dst, .bool l.ctl, .slice a7 k c7] tyL)
  have HEA := Lib.hid (hTA.cell e0 (fun h => h))
  have HFA := Lib.hid (fun o => (frozen_keep hTA e0 (fun h => h) o).trans (ef o))
  have HA0 : Hid (¬ some m = (Value.slice ao n cc).ownBlock) := Lib.hid (fun e => HMW.out.away0 e.symm)
  clear hTA
  go_region_law (first
    | (refine step_append_lies _ rfl (.tmp 34) (.tmp 36) 28 rfl B tyL j0 (.agg #[.int .i64 0, .int .i64 0, .int .i64 0, .bool false, .slice none 0 0]) 5 56 Try.underlying28 hj0 hy0 hy1 hy2 rfl (by decide) _ n (cellsL ls vs) rfl HOL.out ⟨W.heap.size, 0, none⟩ 1 1 [.int .i64 (K : Int), .int .i64 l.frm, .int .i64 l.dst, .bool l.ctl, .slice a7 k c7] rfl rfl HN5.out HC1.out (by decide) (by unfold maxLen; have := HN.out; omega) (by have := HN.out; omega) (by have := HBW.out; simp; omega) _ rfl ?_; intro g8 c8 w8 hown8 hg8 hlie hlt; have hT8 := tch_grown hg8; have e08 := hT8.cell HEA.out HA0.out; have ef8 := (frozen_keep hT8 HEA.out HA0.out 0).trans (HFA.out 0))
    | fail)
  all_goals
    have hTT : Tch (fun k => some k = (Value.slice ao n cc).ownBlock) W w8 := ((tch_new ((bl_al (Below.refl W.heap.size W) (.cells #[.int .i64 (K : Int), .int .i64 l.frm, .int .i64 l.dst, .bool l.ctl, .slice a7 k c7] tyL)).drew)).mono (fun _ h => h.elim)).trans hT8
    have hlx : (Value.slice ao n cc).ownBlock = some g8 ∨ p ≤ g8 := hlie.imp (fun h => h) (fun h => by
      have h1 : g8 = W.heap.size + 1 := by rw [h]; simp
      have := HSW.out; have := HS3.out; omega)
    have hr7 : W.ownsRow p 5 1 (.slice a7 k c7) l.bs.length (u8s l.bs) := by
      rw [HIL.out]
      exact own_base HROW.out (by have := HS3.out; omega)
    obtain ⟨hM9, hT9, hR9⟩ := put_step (N := p) (l := { l with id := (K : Int) }) HMW.out (by have := HB.out; have := HP.out; omega) HRB.out (by have := HML.out; have := HP.out; omega) hr7 HFT.out hown8 hTT hlx
    have HM9 := Lib.hid hM9
    have HT9 := Lib.hid hT9
    have HR9 := Lib.hid hR9
    obtain ⟨Z, hZ⟩ : ∃ Z, Z = w8.setCell ⟨m, 0, none⟩ (.slice (some ⟨g8, 0, none⟩) (n + 1) c8) := ⟨_, rfl⟩
    rw [← hZ] at HM9 HT9
    rw [← hZ]
    have e19 := HM9.out.c1
    have HE : Hid (∃ F2, LTo w B F m (ls ++ [{ l with id := (K : Int) }]) K F2 Z) := Lib.hid ⟨fun x => x = m ∨ RfB (some ⟨g8, 0, none⟩) (n + 1) c8 (vs ++ [.slice a7 k c7]) x, ⟨_, _, _, _, HM9.out, fun x => Iff.rfl⟩, fun x hk => by
      rcases hk with hk | hk
      · exact .inl ((HF.out x).2 (.inl hk))
      · rcases HR9.out x hk with h | h
        · exact .inl ((HF.out x).2 (.inr h))
        · exact .inr (by have := HP.out; omega), (HTZ.out.mono (fun x hk => (HF.out x).2 (.inl hk))).trans (HT9.out.mono (fun x hk => (HF.out x).2 hk))⟩
    clear hown8 hg8 hlie hlt hT8 e08 ef8 hTT hlx hr7 hM9 hT9 hR9 hZ e0 ef b0 b1 b2 b3 b4 hmW hpW HM9 HT9 HR9
    go_wp2
    go_ret2
    exact ⟨rfl, HE.out⟩
end Go.Proofs.Ytkiccdgfhahdlaa
