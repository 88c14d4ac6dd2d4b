/- Contract of codec.Frame. Conditions: the message's rows came in. -/
import Derived.Test.YtbfcgnggcgodhaaMgB
import Derived.Test.YtbfcgnggcgodhaaCdB
import Derived.Test.YtbfcgnggcgodhaaChkB
import Derived.Deep.CutRange
import Derived.ArgAppend
namespace Go.Proofs.Ytbfcgnggcgodhaa
open Go Go.RowKit
set_option linter.unusedVariables false
set_option linter.unusedSimpArgs false

theorem fit_put {x : Int} (h : 0 ≤ x ∧ x < 4294967296) : -9223372036854775808 ≤ x ∧ x < 9223372036854775808 := by omega
set_option maxRecDepth 100000 in
set_option maxHeartbeats 1000000 in
theorem frame_ok (m : Mg) (a : Option Addr) (n c : Nat) (b : Option Addr) (k d : Nat) (h : OkM m) (w : World) (hI : MIn w a n c b k d m) :
    Calls Try.prog 13 #[mval m.kind a n c b k d] w (Rwe w (frm m) .nilIface) := by
  obtain ⟨i0, hi0, hz0, hz1, hz2⟩ := info_parts info5
  obtain ⟨W, hW, hX⟩ := MBox.start w m.kind a n c b k d
  have hn : n ≤ 40 := by rw [← hI.nums.len]; exact h.nums
  have hk : k ≤ 65536 := by rw [← hI.data.len]; exact h.data
  have hnl := hI.nums.len
  have hkl := hI.data.len
  obtain ⟨k0, k1⟩ := h.kind
  have HW := Lib.hid hW
  have HX := Lib.hid hX
  have HI := Lib.hid hI
  have v1 : IntKind.u8.wrap m.kind = m.kind % 256 := IntKind.wrap_u8' _
  have v2 : IntKind.u8.wrap (n : Int) = (n : Int) % 256 := IntKind.wrap_u8' _
  obtain ⟨x, hx⟩ : ∃ x, x = m.kind % 256 := ⟨_, rfl⟩
  obtain ⟨y, hy⟩ : ∃ y, y = (n : Int) % 256 := ⟨_, rfl⟩
  have htop : top m = [84, 80, 1, x, y] := by unfold top; rw [hnl, ← hx, ← hy]
  rw [← hx] at v1
  rw [← hy] at v2
  have HT := Lib.hid htop
  have HFM := Lib.hid hI.typed
  have HFB := Lib.hid (fit_fbd hI.data.fit)
  have hcr := crc_bound HFB.out
  have hfl := fbd_len m
  rw [hnl, hkl] at hfl
  have HFL := Lib.hid hfl
  obtain ⟨cr, hcr0⟩ : ∃ z, z = crc (fbd m) := ⟨_, rfl⟩
  rw [← hcr0] at hcr
  have v4 : ∀ [Inhabited Nat], IntKind.i64.wrap cr = cr := by intro _; exact IntWalk.i64_in _ (by omega)
  have HCR := Lib.hid hcr0
  have HCB := Lib.hid hcr
  have i3 : ¬ (40 < (n : Int)) := by omega
  have i4 : ¬ (65536 < (k : Int)) := by omega
  obtain ⟨kind, hkind⟩ : ∃ z, z = m.kind := ⟨_, rfl⟩
  rw [← hkind] at k0 k1 v1 HX HW
  rw [← hkind]
  have HKD := Lib.hid hkind
  have j0 : ¬ kind < 0 := by omega
  have j1 : ¬ 255 < kind := by omega
  obtain ⟨e0, e1, e2⟩ := HX.out.here
  clear hW hX hI h hx hy htop hnl hkl hcr hfl hcr0 hkind
  have kc := fun (w : World) (C : Array Value) (n c : Nat) => Lib.run_convert_bytes_const (P := Try.prog) w 23 5 C n c Try.underlying23 Try.underlying5
  obtain ⟨Y, hY⟩ : ∃ Y, Y = (W.alloc (.cells #[.int .u8 84, .int .u8 80, .int .u8 1] 5 (3, 4))) := ⟨_, rfl⟩
  have hbY : Below W.heap.size W Y := by rw [hY]; exact bl_al (Below.refl _ _) _
  have hYs : Y.heap.size = W.heap.size + 1 := by rw [hY]; simp
  have hY0 : ∀ j u, (u8s [84, 80, 1])[j]? = some u → Y.cell? ((⟨W.heap.size, 0, none⟩ : Addr).add j) = some u := fun j u hj => by
    rw [Go.WideShapes.add_plain, hY]; exact cells_new W _ _ _ j u hj
  have HXY := Lib.hid (HX.out.next hbY)
  obtain ⟨f0, f1, f2⟩ := HXY.out.here
  obtain ⟨Z, hZ⟩ : ∃ Z, Z = Y.alloc (.cells #[.int .u8 x, .int .u8 y] 5) := ⟨_, rfl⟩
  have HXZ := Lib.hid (show MBox w kind a n c b k d Z by rw [hZ]; exact HXY.out.next (bl_al (Below.refl _ _) _))
  have HZ0 : Hid (∀ ad, some (⟨W.heap.size, 0, none⟩ : Addr) = some ad → ∀ j u, (u8s [84, 80, 1])[j]? = some u → Z.cell? (ad.add j) = some u) := Lib.hid (fun ad e j u hj => by cases e; rw [hZ]; exact cell_later (bl_al (Below.refl _ _) _) (hY0 j u hj))
  have HZ1 : Hid (∀ j u, (u8s [x, y])[j]? = some u → Z.cell? ((⟨W.heap.size + 1, 0, none⟩ : Addr).add j) = some u) := Lib.hid (fun j u hj => by
    rw [Go.WideShapes.add_plain, hZ, ← hYs]; exact cells_new Y _ _ _ j u hj)
  have HZS : Hid (w.heap.size + 1 ≤ Z.heap.size) := Lib.hid (by have := HXZ.out.here.lt; omega)
  clear hbY hYs hY0 HX
  subst hZ
  subst hY
  go_enter Try.func13, Try.ntmps13
  go_upto_region 1 with fail
  rw [HW.out]
  clear HW
  go_upto_region 3 with fail
  go_wp2_with (at_builtin; refine wpList_append_grows _ rfl (.tmp 29) (.tmp 37) 23 rfl 5 i0 (.int .u8 0) 1 1 Try.underlying23 hi0 hz0 hz1 hz2 rfl (by decide) _ 3 3 (u8s [84, 80, 1]) rfl (fun e => by cases e) rfl HZ0.out ⟨W.heap.size + 1, 0, none⟩ 2 2 (u8s [x, y]) rfl rfl HZ1.out (u8s_one _) (by omega) (by unfold maxLen; omega) (by omega) ?_)
  intro v2 w2 hown hg
  have HO2 := Lib.hid (own_base hown (B' := w.heap.size + 1) (by have h := HZS.out; simp at h; omega))
  have HX2 := Lib.hid (HXZ.out.next ((Below.refl _ _).grown hg (Nat.le_refl _) (fun k hk => by cases hk)))
  clear hown hg HZ0 HZ1 HZS HXY HXZ e0 e1 e2 f0 f1 f2 kc
  rw [u8s_app] at HO2
  have O0 : Hid (w2.ownsRow (w.heap.size + 1) 5 1 v2 5 (u8s (top m ++ nb (m.nums.take 0)))) := Lib.hid (by rw [HT.out]; exact HO2.out)
  obtain ⟨a2, c2, rfl⟩ := own_form O0.out
  obtain ⟨e0, e1, e2⟩ := HX2.out.here
  clear HO2 v1 v2
  go_wp2
  go_loopw [4, 6, 42] (fun v _ i wr => ∃ (j M : Nat) (ao : Option Addr) (c' : Nat), j ≤ n ∧ i = .int .i64 j ∧ v = .slice ao M c' ∧ Hid (M = 5 + 8 * j) ∧ Hid (wr.ownsRow (w.heap.size + 1) 5 1 (.slice ao M c') M (u8s (top m ++ nb (m.nums.take j)))) ∧ Hid (MBox w kind a n c b k d wr)) (fun _ _ i _ => n - (intOf i).toNat)
  case atStart => exact ⟨0, 5, _, c2, by omega, rfl, rfl, Lib.hid rfl, O0, HX2⟩
  case round =>
    obtain ⟨j, M, ao, c', hj, rfl, rfl, HM, HO, HB⟩ := hrel
    clear O0 HX2 e0 e1 e2
    obtain ⟨e0, e1, e2⟩ := HB.out.here
    by_cases hlj : j < n
    · have hIr := (HI.out.nums).below HB.out.below
      obtain ⟨bb, off, rfl⟩ := in_blockI hIr (by omega)
      have hcj := in_cellI hIr j hlj
      have hty := fitI_at HFM.out.nums (j := j) (by rw [HI.out.nums.len]; exact hlj)
      have hnx : nb (m.nums.take (j + 1)) = nb (m.nums.take j) ++ b8 (m.nums.getD j 0) := by
        rw [take_more m.nums 0 (by rw [HI.out.nums.len]; exact hlj), nb_app]
        simp [nb]
      have HNX := Lib.hid hnx
      obtain ⟨z, hz⟩ : ∃ z, z = m.nums.getD j 0 := ⟨_, rfl⟩
      rw [← hz] at hcj hty HNX
      have CN := Lib.hid (put_any z 8 hty (by omega) (w.heap.size + 1) M ao c' _ wr HO.out HB.out.here.lt (by have := HM.out; omega))
      rw [be8, List.append_assoc, ← HNX.out] at CN
      have ilj : (j : Int) < (n : Int) := by omega
      have j0 : (0 : Int) ≤ (j : Int) := by omega
      clear hnx hz hIr hty
      go_wp2_with fail
      refine CN.out.mono ?_
      rintro e w4 ⟨a4, c4, rfl, hown, hb⟩
      have HB4 := Lib.hid (HB.out.next2 hb)
      have HO4 := Lib.hid hown
      clear hown hb HO CN e0 e1 e2 hcj
      go_wp2
      go_roundw
      case rel => exact ⟨j + 1, M + 8, a4, c4, by omega, by go_num, rfl, Lib.hid (by have := HM.out; omega), HO4, HB4⟩
      case measure => simp [intOf]; omega
    · have hto : m.nums.take j = m.nums := List.take_of_length_le (by rw [HI.out.nums.len]; omega)
      rw [hto] at HO
      have ilj : ¬ ((j : Int) < (n : Int)) := by omega
      obtain ⟨w5, rfl⟩ : ∃ w5 : World, w5 = wr := ⟨_, rfl⟩
      have CN := Lib.hid (put_any (k : Int) 4 (by omega) (by omega) (w.heap.size + 1) M ao c' _ w5 HO.out HB.out.here.lt (by have := HM.out; omega))
      rw [be4] at CN
      have HMJ : Hid (M = 5 + 8 * n) := Lib.hid (by have := HM.out; omega)
      clear hto HM
      go_wp2_with fail
      refine CN.out.mono ?_
      rintro e w6 ⟨a6, c6, rfl, hown, hb⟩
      have HB6 := Lib.hid (HB.out.next2 hb)
      have HO6 := Lib.hid hown
      have HI6 := Lib.hid (HI.out.data.below HB6.out.below)
      clear hown hb HO CN e0 e1 e2 HB
      obtain ⟨e0, e1, e2⟩ := HB6.out.here
      go_wp2_with (at_builtin; refine append_any rfl (.tmp 55) (.tmp 57) 23 rfl (w.heap.size + 1) 5 i0 (.int .u8 0) 1 1 Try.underlying23 hi0 hz0 hz1 hz2 rfl (by decide) _ (M + 4) _ rfl HO6.out b k d (u8s m.data) rfl HI6.out.zero ?c1 HI6.out.cells (u8s_one _) ?c2 ?c3 ?c4 ?_)
      case c1 => unfold u8s; rw [List.length_map, HI6.out.len]; omega
      case c2 => have := HMJ.out; unfold maxLen; omega
      case c3 => have := HMJ.out; omega
      case c4 => exact HB6.out.here.lt
      intro v7 w7 hown hg
      have HB7 := Lib.hid (HB6.out.next2 (((Below.refl (w.heap.size + 1) w6).grown hg HB6.out.here.lt (fun x hx => (HO6.out.lt x hx).1))))
      rw [u8s_app] at hown
      have hfb : top m ++ (nb m.nums ++ b4 (k : Int)) ++ m.data = fbd m := by
        unfold fbd
        rw [HI.out.data.len]
        simp only [List.append_assoc]
      rw [hfb] at hown
      obtain ⟨a7, c7, rfl⟩ := own_form hown
      have HO7 := Lib.hid hown
      have HL7 : Hid (M + 4 + k = (fbd m).length) := Lib.hid (by rw [HFL.out]; have := HMJ.out; omega)
      have HI7 := Lib.hid (own_in hown HL7.out.symm HFB.out)
      obtain ⟨w8, hw8⟩ : ∃ X, X = w7.alloc (.cells #[.slice a7 (M + 4 + k) c7] 23) := ⟨_, rfl⟩
      have CK := Lib.hid (check_any [fbd m] (.slice (some ⟨w7.heap.size, 0, none⟩) 1 1) w8 (by rw [hw8]; exact Parts.one HI7.out.here 23 _ rfl) (by rw [flat1]; exact HFB.out) (by rw [flat1, HFL.out]; omega) (by simp))
      rw [flat1, ← HCR.out] at CK
      have hb8 : Below w7.heap.size w7 w8 := by rw [hw8]; exact bl_al (Below.refl _ _) _
      have HB8 := Lib.hid (HB7.out.next hb8)
      have HO8 : Hid (w8.ownsRow (w.heap.size + 1) 5 1 (.slice a7 (M + 4 + k) c7) (M + 4 + k) (u8s (fbd m))) := Lib.hid (by rw [hw8]; exact hown.alloc _)
      have CN := Lib.hid (put_any cr 4 (fit_put HCB.out) (by omega) (w.heap.size + 1) (M + 4 + k) a7 c7 (fbd m) w8 HO8.out HB8.out.here.lt (by have := HMJ.out; omega))
      rw [be4] at CN
      have HW8 := Lib.hid hw8
      clear hown hg HO6 HB6 HI6 e0 e1 e2 hfb HB7 HO7 hb8 hw8
      go_wp2_with fail
      rw [← HW8.out]
      refine CK.out.mono ?_
      rintro e w8' ⟨rfl, rfl⟩
      go_wp2_with fail
      refine CN.out.mono ?_
      rintro e w9 ⟨a9, c9, rfl, hown, hb⟩
      have HB9 := Lib.hid (HB8.out.next2 hb)
      have HO9 := Lib.hid (own_base hown (B' := w.heap.size) (by omega))
      have HL9 : Hid (M + 4 + k + 4 = (frm m).length) := Lib.hid (by have e := HL7.out; unfold frm; rw [List.length_append, b4_len]; omega)
      clear hown hb CN CK
      go_wp2
      go_ret2
      exact ⟨a9, _, c9, rfl, HL9.out, by rw [HCR.out] at HO9; exact HO9.out, HB9.out.below⟩
set_option maxRecDepth 100000 in
theorem frame_no (m : Mg) (a : Option Addr) (n c : Nat) (b : Option Addr) (k d : Nat) (hn : m.nums.length = n) (hk : m.data.length = k) (h : ¬ OkM m) (w : World) :
    Calls Try.prog 13 #[mval m.kind a n c b k d] w (Rwe w [] (errnoM 9)) := by
  obtain ⟨kind, nums, data⟩ := m
  simp only at hn hk
  have hcase : kind < 0 ∨ 0 ≤ kind ∧ 255 < kind ∨ 0 ≤ kind ∧ kind ≤ 255 ∧ 40 < (n : Int) ∨ 0 ≤ kind ∧ kind ≤ 255 ∧ (n : Int) ≤ 40 ∧ 65536 < (k : Int) := by
    by_cases h0 : 0 ≤ kind ∧ kind ≤ 255
    · by_cases h1 : n ≤ 40
      · by_cases h2 : k ≤ 65536
        · exact absurd ⟨h0, by simp only; omega, by simp only; omega⟩ h
        · omega
      · omega
    · omega
  have HB := Lib.hid (bl_al (Below.refl w.heap.size w) (mobj kind a n c b k d))
  clear h hn hk
  rcases hcase with q1 | ⟨q1, q2⟩ | ⟨q1, q2, q3⟩ | ⟨q1, q2, q3, q4⟩
  all_goals
    go_enter Try.func13, Try.ntmps13
    go_wp2
    go_ret2
    exact ⟨none, 0, 0, rfl, rfl, World.ownsRow_nil _ _ _ _, HB.out⟩
/-- Frame. -/
theorem frame_t {m : Mg} {R : List Int} {E : Value} {f : Int} (h : FOut m R E f) (a : Option Addr) (n c : Nat) (b : Option Addr) (k d : Nat) (w : World) (hI : MIn w a n c b k d m) :
    Calls Try.prog 13 #[mval m.kind a n c b k d] w (Rwe w R E) := by
  rcases h with ⟨h, rfl, rfl, _⟩ | ⟨h, rfl, rfl, _⟩
  · exact frame_ok m a n c b k d h w hI
  · exact frame_no m a n c b k d hI.nums.len hI.data.len h w
end Go.Proofs.Ytbfcgnggcgodhaa
