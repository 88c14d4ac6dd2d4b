/- Contract of the document's Frame. Conditions: the message's rows came in. -/
import Derived.Test.YtbfcgnggcgodhaaMgA
import Derived.Deep.CutRange
import Derived.Test.YtbfcgnggcgodhaaChkR
namespace Go.Proofs.Ytbfcgnggcgodhaa
open Go Go.RowKit
set_option linter.unusedVariables false
set_option linter.unusedSimpArgs false

/-- A row of the call's own, and an error. -/
def Rwe (w : World) (R : List Int) (E : Value) (e : Ending) (w' : World) : Prop :=
  ∃ ao k cp, e = .returned (.tuple #[.slice ao k cp, E]) ∧ k = R.length ∧ w'.ownsRow w.heap.size 5 1 (.slice ao k cp) k (u8s R) ∧ Below w.heap.size w w'
/-- What Frame answers. -/
def FOut (m : Mg) (R : List Int) (E : Value) (f : Int) : Prop := (OkM m ∧ R = frm m ∧ E = .nilIface ∧ f = 0) ∨ (¬ OkM m ∧ R = [] ∧ E = errnoM 9 ∧ f = 9)
theorem FOut.some (m : Mg) : ∃ R E f, FOut m R E f := by
  by_cases h : OkM m
  · exact ⟨_, _, _, .inl ⟨h, rfl, rfl, rfl⟩⟩
  · exact ⟨_, _, _, .inr ⟨h, rfl, rfl, rfl⟩⟩
theorem FOut.fit {m : Mg} {R : List Int} {E : Value} {f : Int} (h : FOut m R E f) (t : TyM m) : Go.Proofs.Ytbfcgnggcgodhaa.fit R := by
  rcases h with ⟨_, rfl, _⟩ | ⟨_, rfl, _⟩
  · exact fit_frm t.data
  · intro b hb; cases hb
theorem FOut.len {m : Mg} {R : List Int} {E : Value} {f : Int} (h : FOut m R E f) : R.length ≤ 65869 := by
  rcases h with ⟨h, rfl, _⟩ | ⟨_, rfl, _⟩
  · rw [frm_len]; have := h.nums; have := h.data; omega
  · simp
set_option maxRecDepth 100000 in
set_option maxHeartbeats 1000000 in
theorem refFrame_ok (m : Mg) (a : Option Addr) (n c : Nat) (b : Option Addr) (k d : Nat) (h : OkM m) (w : World) (hI : MIn w a n c b k d m) :
    Calls Try.prog 14 #[mval m.kind a n c b k d] w (Rwe w (frm m) (.int .i64 0)) := by
  obtain ⟨i0, hi0, hz0, hz1, hz2⟩ := info_parts info5
  obtain ⟨W, hW, hX⟩ := MBox.start w m.kind a n c b k d
  have hn : n ≤ 40 := by rw [← hI.nums.len]; exact h.nums
  have hk : k ≤ 65536 := by rw [← hI.data.len]; exact h.data
  have hnl := hI.nums.len
  have hkl := hI.data.len
  have HW := Lib.hid hW
  have HX := Lib.hid hX
  have HI := Lib.hid hI
  have CG := Lib.hid (fun W => goodM_yes m.kind a n c b k d h.kind.1 h.kind.2 hn hk W)
  have v1 : IntKind.u8.wrap m.kind = m.kind % 256 := IntKind.wrap_u8' _
  have v2 : IntKind.u8.wrap (n : Int) = (n : Int) % 256 := IntKind.wrap_u8' _
  have v3 : ∀ [Inhabited Nat], IntKind.u64.wrap (k : Int) = (k : Int) := by intro _; rw [IntKind.wrap_u64]; omega
  obtain ⟨x, hx⟩ : ∃ x, x = m.kind % 256 := ⟨_, rfl⟩
  obtain ⟨y, hy⟩ : ∃ y, y = (n : Int) % 256 := ⟨_, rfl⟩
  have htop : top m = [84, 80, 1, x, y] := by unfold top; rw [hnl, ← hx, ← hy]
  rw [← hx] at v1
  rw [← hy] at v2
  have HT := Lib.hid htop
  have HFM := Lib.hid hI.typed
  have HFB := Lib.hid (fit_fbd hI.data.fit)
  have hcr := crc_bound HFB.out
  have hfl := fbd_len m
  rw [hnl, hkl] at hfl
  have HFL := Lib.hid hfl
  obtain ⟨cr, hcr0⟩ : ∃ z, z = crc (fbd m) := ⟨_, rfl⟩
  rw [← hcr0] at hcr
  have v4 : ∀ [Inhabited Nat], IntKind.u64.wrap cr = cr := by intro _; rw [IntKind.wrap_u64]; omega
  have HCR := Lib.hid hcr0
  have HCB := Lib.hid hcr
  clear hW hX hI h hx hy htop hnl hkl hcr hfl hcr0
  go_enter Try.func14, Try.ntmps14
  go_wp2_with fail
  rw [HW.out]
  refine (CG.out W).mono ?_
  rintro e w1 ⟨rfl, hb⟩
  have HX1 := Lib.hid (HX.out.next hb)
  obtain ⟨e0, e1, e2⟩ := HX1.out.here
  clear hb HX HW CG
  go_upto_region 4 with fail
  have O0 : Hid ((w1.alloc (.cells #[.int .u8 84, .int .u8 80, .int .u8 1, .int .u8 x, .int .u8 y] 5)).ownsRow (w.heap.size + 1) 5 1 (.slice (some ⟨w1.heap.size, 0, none⟩) 5 5) 5 (u8s (top m ++ nb (m.nums.take 0)))) := Lib.hid (by
    rw [HT.out]
    exact own_lit w1 [84, 80, 1, x, y] _ rfl 5 (w.heap.size + 1) rfl (by have := HX1.out.here.lt; omega) (by unfold maxLen; omega))
  have HX2 := Lib.hid (HX1.out.next (bl_al (Below.refl _ _) (.cells #[.int .u8 84, .int .u8 80, .int .u8 1, .int .u8 x, .int .u8 y] 5)))
  obtain ⟨Y, hY⟩ : ∃ Y, Y = w1.alloc (.cells #[.int .u8 84, .int .u8 80, .int .u8 1, .int .u8 x, .int .u8 y] 5) := ⟨_, rfl⟩
  obtain ⟨g0, hg0⟩ : ∃ g, g = w1.heap.size := ⟨_, rfl⟩
  rw [← hY] at O0 HX2
  rw [← hg0] at O0
  rw [← hY, ← hg0]
  clear hY hg0 HX1 v1 v2 e0 e1 e2
  go_wp2
  go_loopw [4, 5] (fun v i wr => ∃ (j M : Nat) (ao : Option Addr) (c' : Nat), j ≤ n ∧ i = .int .i64 j ∧ v = .slice ao M c' ∧ Hid (M = 5 + 8 * j) ∧ Hid (wr.ownsRow (w.heap.size + 1) 5 1 (.slice ao M c') M (u8s (top m ++ nb (m.nums.take j)))) ∧ Hid (MBox w m.kind a n c b k d wr)) (fun _ i _ => n - (intOf i).toNat)
  case atStart => exact ⟨0, 5, _, 5, by omega, rfl, rfl, Lib.hid rfl, O0, HX2⟩
  case round =>
    obtain ⟨j, M, ao, c', hj, rfl, rfl, HM, HO, HB⟩ := hrel
    clear O0 HX2
    obtain ⟨e0, e1, e2⟩ := HB.out.here
    by_cases hlj : j < n
    · have hIr := (HI.out.nums).below HB.out.below
      obtain ⟨bb, off, rfl⟩ := in_blockI hIr (by omega)
      have hcj := in_cellI hIr j hlj
      have hty := fitI_at HFM.out.nums (j := j) (by rw [HI.out.nums.len]; exact hlj)
      have hnx : nb (m.nums.take (j + 1)) = nb (m.nums.take j) ++ b8 (m.nums.getD j 0) := by
        rw [take_more m.nums 0 (by rw [HI.out.nums.len]; exact hlj), nb_app]
        simp [nb]
      have HNX := Lib.hid hnx
      obtain ⟨z, hz⟩ : ∃ z, z = m.nums.getD j 0 := ⟨_, rfl⟩
      rw [← hz] at hcj hty HNX
      have vz : ∀ [Inhabited Nat], IntKind.u64.wrap z = z % 18446744073709551616 := by intro _; rw [IntKind.wrap_u64]
      have CN := Lib.hid (numR_any (z % 18446744073709551616) 8 (by omega) (by omega) (w.heap.size + 1) M ao c' _ wr HO.out HB.out.here.lt (by have := HM.out; omega))
      rw [be8, b8_wrap, List.append_assoc, ← HNX.out] at CN
      have ilj : (j : Int) < (n : Int) := by omega
      obtain ⟨u, hu⟩ : ∃ u, u = z % 18446744073709551616 := ⟨_, rfl⟩
      rw [← hu] at CN
      have vz2 : ∀ [Inhabited Nat], IntKind.u64.wrap z = u := by intro _; rw [IntKind.wrap_u64, hu]
      clear vz hnx hz hIr hty hu
      go_wp2_with fail
      refine CN.out.mono ?_
      rintro e w4 ⟨a4, c4, rfl, hown, hb⟩
      have HB4 := Lib.hid (HB.out.next2 hb)
      have HO4 := Lib.hid hown
      clear hown hb HO CN e0 e1 e2 hcj
      go_wp2
      go_roundw
      case rel => exact ⟨j + 1, M + 8, a4, c4, by omega, by go_num, rfl, Lib.hid (by have := HM.out; omega), HO4, HB4⟩
      case measure => simp [intOf]; omega
    · have hto : m.nums.take j = m.nums := List.take_of_length_le (by rw [HI.out.nums.len]; omega)
      rw [hto] at HO
      have ilj : ¬ ((j : Int) < (n : Int)) := by omega
      obtain ⟨w5, rfl⟩ : ∃ w5 : World, w5 = wr := ⟨_, rfl⟩
      have CN := Lib.hid (numR_any (k : Int) 4 (by omega) (by omega) (w.heap.size + 1) M ao c' _ w5 HO.out HB.out.here.lt (by have := HM.out; omega))
      rw [be4] at CN
      have HMJ : Hid (M = 5 + 8 * n) := Lib.hid (by have := HM.out; omega)
      clear hto HM
      go_wp2_with fail
      refine CN.out.mono ?_
      rintro e w6 ⟨a6, c6, rfl, hown, hb⟩
      have HB6 := Lib.hid (HB.out.next2 hb)
      have HO6 := Lib.hid hown
      have HI6 := Lib.hid (HI.out.data.below HB6.out.below)
      clear hown hb HO CN e0 e1 e2 HB
      obtain ⟨e0, e1, e2⟩ := HB6.out.here
      go_wp2_with (at_builtin; refine append_any rfl (.tmp 38) (.tmp 40) 23 rfl (w.heap.size + 1) 5 i0 (.int .u8 0) 1 1 Try.underlying23 hi0 hz0 hz1 hz2 rfl (by decide) _ (M + 4) _ rfl HO6.out b k d (u8s m.data) rfl HI6.out.zero ?c1 HI6.out.cells (u8s_one _) ?c2 ?c3 ?c4 ?_)
      case c1 => unfold u8s; rw [List.length_map, HI6.out.len]; omega
      case c2 => have := HMJ.out; unfold maxLen; omega
      case c3 => have := HMJ.out; omega
      case c4 => exact HB6.out.here.lt
      intro v7 w7 hown hg
      have HB7 := Lib.hid (HB6.out.next2 (((Below.refl (w.heap.size + 1) w6).grown hg HB6.out.here.lt (fun x hx => (HO6.out.lt x hx).1))))
      rw [u8s_app] at hown
      have hfb : top m ++ (nb m.nums ++ b4 (k : Int)) ++ m.data = fbd m := by
        unfold fbd
        rw [HI.out.data.len]
        simp only [List.append_assoc]
      rw [hfb] at hown
      obtain ⟨a7, c7, rfl⟩ := own_form hown
      have HO7 := Lib.hid hown
      have HL7 : Hid (M + 4 + k = (fbd m).length) := Lib.hid (by rw [HFL.out]; have := HMJ.out; omega)
      have HI7 := Lib.hid (own_in hown HL7.out.symm HFB.out)
      have CK := Lib.hid (refCheck_any (fbd m) (.slice a7 (M + 4 + k) c7) w7 HI7.out.here HFB.out (by rw [HFL.out]; omega))
      rw [← HCR.out] at CK
      have CN := Lib.hid (numR_any cr 4 (by have := HCB.out; omega) (by omega) (w.heap.size + 1) (M + 4 + k) a7 c7 (fbd m) w7 HO7.out HB7.out.here.lt (by have := HMJ.out; omega))
      rw [be4] at CN
      clear hown hg HO6 HB6 HI6 e0 e1 e2 hfb
      go_wp2_with fail
      refine CK.out.mono ?_
      rintro e w8 ⟨rfl, rfl⟩
      go_wp2_with fail
      refine CN.out.mono ?_
      rintro e w9 ⟨a9, c9, rfl, hown, hb⟩
      have HB9 := Lib.hid (HB7.out.next2 hb)
      have HO9 := Lib.hid (own_base hown (B' := w.heap.size) (by omega))
      have HL9 : Hid (M + 4 + k + 4 = (frm m).length) := Lib.hid (by have e := HL7.out; unfold frm; rw [List.length_append, b4_len]; omega)
      clear hown hb CN CK
      go_wp2
      go_ret2
      exact ⟨a9, _, c9, rfl, HL9.out, by rw [HCR.out] at HO9; exact HO9.out, HB9.out.below⟩
theorem refFrame_no (m : Mg) (a : Option Addr) (n c : Nat) (b : Option Addr) (k d : Nat) (hn : m.nums.length = n) (hk : m.data.length = k) (h : ¬ OkM m) (w : World) :
    Calls Try.prog 14 #[mval m.kind a n c b k d] w (Rwe w [] (.int .i64 9)) := by
  obtain ⟨W, hW, hX⟩ := MBox.start w m.kind a n c b k d
  have HW := Lib.hid hW
  have HX := Lib.hid hX
  have CG := Lib.hid (fun W => goodM_no m.kind a n c b k d (fun hh => h ⟨⟨hh.1, hh.2.1⟩, by omega, by omega⟩) W)
  clear hW hX h hn hk
  go_enter Try.func14, Try.ntmps14
  go_wp2_with fail
  rw [HW.out]
  refine (CG.out W).mono ?_
  rintro e w1 ⟨rfl, hb⟩
  have HX1 := Lib.hid (HX.out.next hb)
  clear hb HX HW CG
  go_wp2
  go_ret2
  exact ⟨none, 0, 0, rfl, rfl, World.ownsRow_nil _ _ _ _, HX1.out.below⟩
theorem refFrame_t {m : Mg} {R : List Int} {E : Value} {f : Int} (h : FOut m R E f) (a : Option Addr) (n c : Nat) (b : Option Addr) (k d : Nat) (w : World) (hI : MIn w a n c b k d m) :
    Calls Try.prog 14 #[mval m.kind a n c b k d] w (Rwe w R (.int .i64 f)) := by
  rcases h with ⟨h, rfl, _, rfl⟩ | ⟨h, rfl, _, rfl⟩
  · exact refFrame_ok m a n c b k d h w hI
  · exact refFrame_no m a n c b k d hI.nums.len hI.data.len h w
end Go.Proofs.Ytbfcgnggcgodhaa
