/- add: a letter laid behind the others, its bytes in any row of bytes. -/
import Derived.Test.YtkiccdgfhahdlaaFdE
namespace Go.Proofs.Ytkiccdgfhahdlaa
open Go Go.RowKit
set_option linter.unusedVariables false
set_option linter.unusedSimpArgs false

set_option maxRecDepth 100000 in
set_option maxHeartbeats 2000000 in
theorem add_c (B m last : Nat) (F : Nat → Prop) (ls : List Lt) (l : Lt) (a : Option Addr) (k c : Nat) (w : World) (hL : FSt w B F m ls last) (hB : B ≤ w.heap.size) (K : Nat) (hK : K = last + 1) (hf : ls.length < 4096) (hl : last ≤ 1000000) (hu : w.ownsRow B 5 1 (.slice a k c) l.bs.length (u8s l.bs)) (hum : (Value.slice a k c).ownBlock ≠ some m) (hfit : fit l.bs) :
    Calls Try.prog 35 #[.pointer (some ⟨m, 0, none⟩), l.val (.slice a k c)] w fun e w' => e = .returned (.int .i64 (K : Int)) ∧ ∃ F2, FSt w' B F2 m (ls ++ [{ l with id := (K : Int) }]) K ∧ (∀ x, F2 x → F x ∨ w.heap.size ≤ x ∨ (Value.slice a k c).ownBlock = some x) ∧ Tch F w w' := by
  obtain ⟨j0, hj0, hy0, hy1, hy2⟩ := info_parts infoL
  obtain ⟨ao, n, cc, vs, hM, hF⟩ := hL.here
  have hn := hM.len
  have v1 : ∀ [Inhabited Nat], IntKind.i64.wrap ((last : Int) + 1) = (K : Int) := by intro _; rw [IntWalk.i64_in _ (by omega)]; omega
  have HF := Lib.hid hF
  have HN : Hid (n < 4096) := Lib.hid (by omega)
  obtain ⟨X, hX⟩ : ∃ X, X = w.alloc (.cells #[.int .i64 l.id, .int .i64 l.frm, .int .i64 l.dst, .bool l.ctl, .slice a k c] tyL) := ⟨_, rfl⟩
  obtain ⟨p, hp⟩ : ∃ p, p = w.heap.size := ⟨_, rfl⟩
  have hTX : Tch Non w X := by rw [hX]; exact tch_alloc _ _
  have hbx : Bx X p l (.slice a k c) := by rw [hX, hp]; exact Bx.new w l _
  have hMX := hM.keep hTX (fun h => h) (fun _ _ h => h)
  have hmp : m ≠ p := by have := hM.lt; omega
  have hXs : X.heap.size = p + 1 := by rw [hX, hp]; simp
  obtain ⟨X2, hX2⟩ : ∃ Y, Y = X.setCell ⟨m, 1, none⟩ (.int .i64 (K : Int)) := ⟨_, rfl⟩
  have hM2 : FsM X2 B m ls K ao n cc vs := by rw [hX2]; exact hMX.num K
  have hT2 : Tch (· = m) X X2 := by rw [hX2]; exact tch_set X ⟨m, 1, none⟩ _
  have hbx2 : Bx X2 p l (.slice a k c) := hbx.keep hT2 (fun e => hmp e.symm)
  have hs2 : X2.heap.size = p + 1 := by rw [hX2]; simp [hXs]
  obtain ⟨W, hW⟩ : ∃ W, W = X2.setCell ⟨p, 0, none⟩ (.int .i64 (K : Int)) := ⟨_, rfl⟩
  have hTW : Tch (· = p) X2 W := by rw [hW]; exact tch_set X2 ⟨p, 0, none⟩ _
  have hbxW : Bx W p { l with id := (K : Int) } (.slice a k c) := by rw [hW]; exact hbx2.id _
  have hrb : ∀ k, RfB ao n cc vs k → k < p := fun k hk => by have := (hM.blocks k hk).2; omega
  have hMW : FsM W B m ls K ao n cc vs := hM2.keep hTW (fun e => hmp e) (fun x hk e => by have := hrb x hk; omega)
  have hsW : W.heap.size = p + 1 := by rw [hW]; simp [hs2]
  have hTw : Tch (· = m) w X2 := (hTX.mono (fun _ h => h.elim)).trans hT2
  have hTwW : Tch (· = m) w W := hTw.trans' hTW (fun x hk e => by omega)
  have hTall : Tch (fun x => x = m ∨ x = p) w W := (hTw.mono (fun _ h => .inl h)).trans (hTW.mono (fun _ h => .inr h))
  have huW : W.ownsRow B 5 1 (.slice a k c) l.bs.length (u8s l.bs) := hTall.own hu (fun g hg e => by
    rcases e with e | e
    · exact hum (by rw [hg, e])
    · have := (hu.lt g hg).2; omega)
  have e0 := hMX.c0
  have e1 := hMX.c1
  have ef := hMX.free
  have g1 := hM2.c1
  have gf := hM2.free
  obtain ⟨d0, d1, d2, d3, d4⟩ := hbx2.cell
  have df := hbx2.free
  have HX := Lib.hid (And.intro hX hp)
  have HX2 := Lib.hid hX2
  have HW := Lib.hid hW
  have HMW := Lib.hid hMW
  have HBXW := Lib.hid hbxW
  have HU := Lib.hid (And.intro huW (And.intro hum hfit))
  have HT := Lib.hid hTwW
  have HP := Lib.hid (And.intro hmp (And.intro hrb hsW))
  have HB := Lib.hid hB
  have HML := Lib.hid hM.lt
  clear hL hM hF hf hX hp hTX hbx hMX hXs hX2 hM2 hT2 hbx2 hrb hTw hs2 hmp hn hB hl hK hW hTW hbxW hMW hsW hTwW hTall huW hu hum hfit
  unfold Lt.val
  go_enter Try.func35, Try.ntmps35
  go_upto_region 1 with fail
  rw [← HX.out.1, ← HX.out.2]
  go_upto_region 2 with fail
  rw [← HX2.out]
  clear e0 e1 ef HX2
  go_upto_region 3 with fail
  rw [← HW.out]
  clear g1 gf d0 d1 d2 d3 d4 df HW
  have e0 := HMW.out.c0
  have ef := HMW.out.free
  obtain ⟨b0, b1, b2, b3, b4⟩ := HBXW.out.cell
  have hmW : m < W.heap.size := HMW.out.lt
  have hpW : p < W.heap.size := HBXW.out.lt
  have HOL := Lib.hid (HMW.out.row.alloc (.cells #[.int .i64 (K : Int), .int .i64 l.frm, .int .i64 l.dst, .bool l.ctl, .slice a k c] tyL))
  have HN5 := Lib.hid (new5 W [.int .i64 (K : Int), .int .i64 l.frm, .int .i64 l.dst, .bool l.ctl, .slice a k c] tyL)
  have HC1 : Hid (∀ u ∈ [.int .i64 (K : Int), .int .i64 l.frm, .int .i64 l.dst, .bool l.ctl, Value.slice a k c], u.oneCell' = true) := Lib.hid (fun u hu => by
    simp only [List.mem_cons, List.not_mem_nil, or_false] at hu
    rcases hu with rfl | rfl | rfl | rfl | rfl <;> rfl)
  have HBW : Hid (B ≤ W.heap.size) := Lib.hid (by have := HB.out; have := HP.out.2.2; have := HX.out.2; omega)
  have hTA := tch_alloc W (.cells #[.int .i64 (K : Int), .int .i64 l.frm, .int .i64 l.dst, .bool l.ctl, .slice a k c] tyL)
  have HEA := Lib.hid (hTA.cell e0 (fun h => h))
  have HFA := Lib.hid (fun o => (frozen_keep hTA e0 (fun h => h) o).trans (ef o))
  have HA0 : Hid (¬ some m = (Value.slice ao n cc).ownBlock) := Lib.hid (fun e => HMW.out.away0 e.symm)
  clear hTA
  go_region_law (first
    | (refine step_append_lies _ rfl (.tmp 21) (.tmp 23) 28 rfl B tyL j0 (.agg #[.int .i64 0, .int .i64 0, .int .i64 0, .bool false, .slice none 0 0]) 5 56 Try.underlying28 hj0 hy0 hy1 hy2 rfl (by decide) _ n (cellsL ls vs) rfl HOL.out ⟨W.heap.size, 0, none⟩ 1 1 [.int .i64 (K : Int), .int .i64 l.frm, .int .i64 l.dst, .bool l.ctl, .slice a k c] rfl rfl HN5.out HC1.out (by decide) (by unfold maxLen; have := HN.out; omega) (by have := HN.out; omega) (by have := HBW.out; simp; omega) _ rfl ?_; intro g8 c8 w8 hown8 hg8 hlie hlt; have hT8 := tch_grown hg8; have e08 := hT8.cell HEA.out HA0.out; have ef8 := (frozen_keep hT8 HEA.out HA0.out 0).trans (HFA.out 0))
    | fail)
  all_goals
    have hTT : Tch (fun k => some k = (Value.slice ao n cc).ownBlock) W w8 := ((tch_new ((bl_al (Below.refl W.heap.size W) (.cells #[.int .i64 (K : Int), .int .i64 l.frm, .int .i64 l.dst, .bool l.ctl, .slice a k c] tyL)).drew)).mono (fun _ h => h.elim)).trans hT8
    have hlx : (Value.slice ao n cc).ownBlock = some g8 ∨ p < g8 := hlie.imp (fun h => h) (fun h => by
      have h1 : g8 = W.heap.size + 1 := by rw [h]; simp
      have := HP.out.2.2; omega)
    have hgm : g8 ≠ m := fun e => by
      rcases hlx with h | h
      · exact HMW.out.away0 (by rw [h, e])
      · have := HML.out; have := HX.out.2; omega
    obtain ⟨hM9, hT9, hR9⟩ := fput_step (l := { l with id := (K : Int) }) HMW.out HU.out.1 HU.out.2.1 HU.out.2.2 hown8 hTT hgm
    have HM9 := Lib.hid hM9
    have HT9 := Lib.hid hT9
    have HR9 := Lib.hid hR9
    have HLX := Lib.hid hlx
    obtain ⟨Z, hZ⟩ : ∃ Z, Z = w8.setCell ⟨m, 0, none⟩ (.slice (some ⟨g8, 0, none⟩) (n + 1) c8) := ⟨_, rfl⟩
    rw [← hZ] at HM9 HT9
    rw [← hZ]
    have b09 := (HBXW.out.keep HT9.out (fun h => by
      rcases h with h | h
      · exact HP.out.1 h.symm
      · exact Nat.lt_irrefl _ (HP.out.2.1 _ h))).cell.1
    have HE : Hid (∃ F2, FSt Z B F2 m (ls ++ [{ l with id := (K : Int) }]) K ∧ (∀ x, F2 x → F x ∨ w.heap.size ≤ x ∨ (Value.slice a k c).ownBlock = some x) ∧ Tch F w Z) := Lib.hid ⟨fun x => x = m ∨ RfB (some ⟨g8, 0, none⟩) (n + 1) c8 (vs ++ [.slice a k c]) x, ⟨_, _, _, _, HM9.out, fun x => Iff.rfl⟩, fun x hk => by
      rcases hk with hk | hk
      · exact .inl ((HF.out x).2 (.inl hk))
      · rcases HR9.out x hk with h | h | h
        · rw [h]
          rcases HLX.out with h2 | h2
          · exact .inl ((HF.out g8).2 (.inr (.inl h2)))
          · exact .inr (.inl (by have := HX.out.2; omega))
        · exact .inl ((HF.out x).2 (.inr h))
        · exact .inr (.inr h), (HT.out.mono (fun x hk => (HF.out x).2 (.inl hk))).trans (HT9.out.mono (fun x hk => (HF.out x).2 hk))⟩
    clear hown8 hg8 hlie hlt hT8 e08 ef8 hTT hlx hM9 hT9 hR9 hZ e0 ef b0 b1 b2 b3 b4 hmW hpW HM9 HT9 HR9 HLX hgm
    go_wp2
    go_ret
    exact ⟨rfl, HE.out⟩
end Go.Proofs.Ytkiccdgfhahdlaa
