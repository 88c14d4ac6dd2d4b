/- Contract of addr.Hash. Condition: the addresses fit their kinds. -/
import Derived.Test.YtkacbeighaccjaaHsR
import Derived.OneCell
import Derived.Maps.AppendAt
import Derived.Deep.CutRange
import Derived.Deep.RegionHeld3
namespace Go.Proofs.Ytkacbeighaccjaa
open Go Go.RowKit
set_option linter.unusedVariables false
set_option linter.unusedSimpArgs false


theorem grown_one (w : World) (a : Addr) (u : Value) : w.grownBy (w.setCell a u) (some a.block) :=
  ⟨rfl, rfl, rfl, by simp [World.setCell], fun k _ hk => Below.heap_setCell _ _ _ _ (fun e => hk (by rw [e]))⟩

set_option maxHeartbeats 2000000 in
set_option maxRecDepth 100000 in
theorem add_any (c g n : Nat) (h : Int) (l : List Int) (hl : l.length = n) (hn : n ≤ 100) (fit : ∀ b ∈ l, 0 ≤ b ∧ b < 256) (w : World) (hgc : g ≠ c)
    (hv : w.heap[c]? = some (.cells #[.int .u64 h] 23 (0, 0))) (hc : ∀ j, j < n → w.cell? ⟨g, j, none⟩ = some (.int .u8 (l.getD j 0))) :
    Calls Try.prog 61 #[.slice (some ⟨g, 0, none⟩) n n, .pointer (some ⟨c, 0, none⟩)] w fun e w' => e = .returned (.tuple #[]) ∧ w'.heap[c]? = some (.cells #[.int .u64 (l.foldl stepH h)] 23 (0, 0)) ∧ w.grownBy w' (some c) := by
  have HL := Lib.hid hl
  have FIT := Lib.hid fit
  have HG := Lib.hid hgc
  have HV := Lib.hid hv
  have HC := Lib.hid hc
  clear hl fit hgc hv hc
  go_enter Try.func61, Try.ntmps61
  go_wp2
  go_loopw [7] (fun i wr => ∃ k : Nat, k ≤ n ∧ i = .int .i64 k ∧ Hid (wr.heap[c]? = some (.cells #[.int .u64 ((l.take k).foldl stepH h)] 23 (0, 0))) ∧ Hid (w.grownBy wr (some c))) (fun i _ => n - (intOf i).toNat)
  case atStart => exact ⟨0, by omega, rfl, HV, Lib.hid ⟨rfl, rfl, rfl, Nat.le_refl _, fun _ _ _ => rfl⟩⟩
  case round =>
    obtain ⟨k, hk, rfl, hV, hG⟩ := hrel
    by_cases hlt : k < n
    · have hc := hG.out.cell (HC.out k hlt) (fun e => HG.out (by simpa using e))
      obtain ⟨b, hbv⟩ : ∃ b, b = l.getD k 0 := ⟨_, rfl⟩
      rw [← hbv] at hc
      have hl : k < l.length := by rw [HL.out]; exact hlt
      obtain ⟨b0, b1⟩ := FIT.out b (by rw [hbv, List.getD_eq_getElem?_getD, List.getElem?_eq_getElem hl]; exact List.getElem_mem hl)
      obtain ⟨x, hx⟩ : ∃ x, x = (l.take k).foldl stepH h := ⟨_, rfl⟩
      have HN := Lib.hid (show IntKind.u64.wrap (bits .xor .u64 x b * 1099511628211) = (l.take (k + 1)).foldl stepH h by rw [take_more _ 0 hl, List.foldl_append, ← hx, ← hbv]; rfl)
      rw [← hx] at hV
      have hx0 := cell_of_one hV.out
      have hx1 := free_of_one hV.out
      clear hbv hl hx
      go_wp2
      go_roundw
      case rel => exact ⟨k + 1, by omega, by go_num, Lib.hid (by rw [← HN.out]; exact one_setCell hV.out), Lib.hid (hG.out.trans (grown_one _ _ _))⟩
      case measure => simp [intOf]; omega
    · have e : l.take k = l := List.take_of_length_le (by rw [HL.out]; omega)
      rw [e] at hV
      clear e
      go_wp2
      go_end0
      exact ⟨rfl, hV.out, hG.out⟩

abbrev quad (a : Int) : Value := .agg #[.int .u8 (byteAt a 0), .int .u8 (byteAt a 1), .int .u8 (byteAt a 2), .int .u8 (byteAt a 3)]
theorem split_new (a : Int) (h0 : 0 ≤ a) (h1 : a < 4294967296) (w : World) :
    Calls Try.prog 62 #[.int .u32 a] w fun e w' => e = .returned (.agg #[.int .u8 (byteAt a 0), .int .u8 (byteAt a 1), .int .u8 (byteAt a 2), .int .u8 (byteAt a 3)]) ∧ ∃ o, w' = w.alloc o := by
  go_enter Try.func62, Try.ntmps62
  go_wp2
  exact bodyPost_ret (v := .agg #[.int .u8 (a / 16777216), .int .u8 (a / 65536 % 256), .int .u8 (a / 256 % 256), .int .u8 (a % 256)]) (by simp [results, Try.results62, go_sem]) rfl ⟨rfl, _, rfl⟩

/-- What stands in memory between the statements. -/
structure HRel (f : Fl) (w : World) (h : Int) (g7 g8 : Nat) (wx : World) : Prop where
  fl : FlAt wx w.heap.size f
  cell : wx.heap[w.heap.size + 1]? = some (.cells #[.int .u64 h] 23 (0, 0))
  a7 : ∀ j, j < 4 → wx.cell? ⟨g7, j, none⟩ = some (.int .u8 (byteAt f.s j))
  a8 : ∀ j, j < 4 → wx.cell? ⟨g8, j, none⟩ = some (.int .u8 (byteAt f.d j))
  b7 : w.heap.size + 1 < g7
  b8 : w.heap.size + 1 < g8
  below : Below w.heap.size w wx
theorem HRel.drew {f : Fl} {w wx : World} {h : Int} {g7 g8 : Nat} (H : HRel f w h g7 g8 wx) : HRel f w h g7 g8 wx.drew :=
  ⟨H.fl, H.cell, fun j hj => H.a7 j hj, fun j hj => H.a8 j hj, H.b7, H.b8, H.below.drew⟩
theorem HRel.kept {f : Fl} {w wx wy : World} {h h' : Int} {g7 g8 : Nat} (H : HRel f w h g7 g8 wx) (hg : wx.grownBy wy (some (w.heap.size + 1))) (hc : wy.heap[w.heap.size + 1]? = some (.cells #[.int .u64 h'] 23 (0, 0))) : HRel f w h' g7 g8 wy := by
  have hs := lt_of_block H.cell
  refine ⟨?_, hc, fun j hj => hg.cell (H.a7 j hj) ?_, fun j hj => hg.cell (H.a8 j hj) ?_, H.b7, H.b8, H.below.grown hg H.below.size ?_⟩
  · obtain ⟨f0, f1, f2, f3, f4⟩ := H.fl
    have hne : some w.heap.size ≠ some (w.heap.size + 1) := by simp
    exact ⟨hg.cell f0 hne, hg.cell f1 hne, hg.cell f2 hne, hg.cell f3 hne, hg.cell f4 hne⟩
  · have := H.b7
    simp
    omega
  · have := H.b8
    simp
    omega
  · intro k hk
    cases hk
    omega
theorem HRel.alloc {f : Fl} {w wx : World} {h : Int} {g7 g8 : Nat} (H : HRel f w h g7 g8 wx) (o : Obj) : HRel f w h g7 g8 (wx.alloc o) :=
  H.kept (World.grownBy_alloc wx o _) (by rw [heap_alloc_old wx o (lt_of_block H.cell)]; exact H.cell)

/-- The same, ahead of the third statement. -/
structure HRel0 (f : Fl) (w : World) (h : Int) (wx : World) : Prop where
  fl : FlAt wx w.heap.size f
  cell : wx.heap[w.heap.size + 1]? = some (.cells #[.int .u64 h] 23 (0, 0))
  below : Below w.heap.size w wx
theorem HRel0.alloc {f : Fl} {w wx : World} {h : Int} (H : HRel0 f w h wx) (o : Obj) : HRel0 f w h (wx.alloc o) := by
  have hs := lt_of_block H.cell
  exact ⟨flAt_below H.fl (bl_al (Below.refl _ _) _) (by omega), by rw [heap_alloc_old wx o hs]; exact H.cell, bl_al H.below o⟩
theorem HRel0.drew {f : Fl} {w wx : World} {h : Int} (H : HRel0 f w h wx) : HRel0 f w h wx.drew := ⟨H.fl, H.cell, H.below.drew⟩
theorem HRel0.start (f : Fl) (w : World) (h : Int) : ∃ W, (w.alloc f.obj).alloc (.cells #[.int .u64 h] 23) = W ∧ HRel0 f w h W ∧ W.heap.size = w.heap.size + 2 := by
  refine ⟨_, rfl, ⟨flAt_below (flAt_new w f) (bl_al (Below.refl _ _) _) (by simp), ?_, bl_al (bl_al (Below.refl _ _) _) _⟩, by simp⟩
  have e := heap_alloc_new (w.alloc f.obj) (.cells #[.int .u64 h] 23)
  have hs : (w.alloc f.obj).heap.size = w.heap.size + 1 := by simp
  rw [hs] at e
  exact e
theorem keepH {f : Fl} {w x : World} {h : Int} {o : Obj} (H : HRel0 f w h x.drew ∧ x.drew.cell? ⟨w.heap.size, 1, none⟩ = some (.int .u32 f.s) ∧ x.drew.cell? ⟨w.heap.size, 3, none⟩ = some (.int .u32 f.d)) :
    HRel0 f w h (x.alloc o).drew ∧ (x.alloc o).drew.cell? ⟨w.heap.size, 1, none⟩ = some (.int .u32 f.s) ∧ (x.alloc o).drew.cell? ⟨w.heap.size, 3, none⟩ = some (.int .u32 f.d) := by
  have H0 : HRel0 f w h x := ⟨H.1.fl, H.1.cell, ⟨H.1.below.os, H.1.below.tape, H.1.below.output, H.1.below.size, H.1.below.block⟩⟩
  have H1 := (H0.alloc o).drew
  exact ⟨H1, H1.fl.2.1, H1.fl.2.2.2.1⟩

/-- What the third statement leaves. -/
def GRel (f : Fl) (w : World) (h : Int) (v7 v8 : Value) (wx : World) : Prop := ∃ g7 g8 : Nat, v7 = .pointer (some ⟨g7, 0, none⟩) ∧ v8 = .pointer (some ⟨g8, 0, none⟩) ∧ HRel f w h g7 g8 wx

theorem GRel.of {f : Fl} {w wx : World} {h : Int} {g7 g8 : Nat} (H : HRel0 f w h wx) (b7 : w.heap.size + 1 < g7) (b8 : w.heap.size + 1 < g8) (a7 : ∀ j, j < 4 → wx.cell? ⟨g7, j, none⟩ = some (.int .u8 (byteAt f.s j))) (a8 : ∀ j, j < 4 → wx.cell? ⟨g8, j, none⟩ = some (.int .u8 (byteAt f.d j))) :
    GRel f w h (.pointer (some ⟨g7, 0, none⟩)) (.pointer (some ⟨g8, 0, none⟩)) wx :=
  ⟨g7, g8, rfl, rfl, H.fl, H.cell, a7, a8, b7, b8, H.below⟩
theorem four_get (a : Int) : ∀ j, j < 4 → (four a 4).getD j 0 = byteAt a j
  | 0, _ => rfl
  | 1, _ => rfl
  | 2, _ => rfl
  | 3, _ => rfl
  | j + 4, h => absurd h (by omega)
theorem four_fit {a : Int} (a0 : 0 ≤ a) (a1 : a < 4294967296) : ∀ b ∈ four a 4, 0 ≤ b ∧ b < 256 := by
  intro b hb
  unfold four at hb
  obtain ⟨k, _, rfl⟩ := List.mem_map.1 hb
  exact byteAt_fits a0 a1 k
theorem one_at (w : World) (x : Int) : ∀ j, j < 1 → (w.alloc (.cells #[.int .u8 x] 5)).cell? ⟨w.heap.size, j, none⟩ = some (.int .u8 ([x].getD j 0))
  | 0, _ => by simp [go_sem]
  | j + 1, h => absurd h (by omega)
theorem four_at (w : World) (x0 x1 x2 x3 : Int) : ∀ j, j < 4 → (w.alloc (.cells #[.int .u8 x0, .int .u8 x1, .int .u8 x2, .int .u8 x3] 5)).cell? ⟨w.heap.size, j, none⟩ = some (.int .u8 ([x0, x1, x2, x3].getD j 0))
  | 0, _ => by simp [go_sem]
  | 1, _ => by simp [go_sem]
  | 2, _ => by simp [go_sem]
  | 3, _ => by simp [go_sem]
  | j + 4, h => absurd h (by omega)
theorem hash_parts (s : Int) (f : Fl) : hashF s f = finH ([f.sp / 256 % 256, f.sp % 256, f.dp / 256 % 256, f.dp % 256].foldl stepH ((four f.d 4).foldl stepH ((four f.s 4).foldl stepH ([f.p % 256].foldl stepH (startH s))))) := by
  unfold hashF bytesF
  rw [List.foldl_append, List.foldl_append, List.foldl_append]

set_option maxHeartbeats 4000000 in
set_option maxRecDepth 100000 in
theorem hash_any (s : Int) (f : Fl) (w : World) (f1 : 0 ≤ f.s ∧ f.s < 4294967296) (f3 : 0 ≤ f.d ∧ f.d < 4294967296) :
    Calls Try.prog 43 #[.int .u64 s, f.val] w fun e w' => e = .returned (.int .u64 (hashF s f)) ∧ Below w.heap.size w w' := by
  have SS := Lib.hid (fun (w : World) => split_new f.s f1.1 f1.2 w)
  have SD := Lib.hid (fun (w : World) => split_new f.d f3.1 f3.2 w)
  have FS := Lib.hid (four_fit f1.1 f1.2)
  have FD := Lib.hid (four_fit f3.1 f3.2)
  obtain ⟨W, hW, h0, hz⟩ := HRel0.start f w (startH s)
  have HW := Lib.hid hW
  unfold startH at HW
  have H0 := Lib.hid h0
  have HZ := Lib.hid hz
  clear f1 f3 hW h0 hz
  go_enter Try.func43, Try.ntmps43
  go_upto_region 3 with fail
  rw [HW.out]
  clear HW
  go_cut [7, 8] from 12 to 17 (fun v7 v8 wx => GRel f w (startH s) v7 v8 wx)
  case first =>
    have e1 := H0.out.fl.2.1
    have e3 := H0.out.fl.2.2.2.1
    go_region_held3 (fun w' => HRel0 f w (startH s) w' ∧ w'.cell? ⟨w.heap.size, 1, none⟩ = some (.int .u32 f.s) ∧ w'.cell? ⟨w.heap.size, 3, none⟩ = some (.int .u32 f.d)) (first | exact ⟨H0.out.drew, e1, e3⟩ | exact keepH ⟨H0.out.drew, e1, e3⟩ | exact keepH (keepH ⟨H0.out.drew, e1, e3⟩) | exact keepH (keepH (keepH ⟨H0.out.drew, e1, e3⟩)) | exact keepH (keepH (keepH (keepH ⟨H0.out.drew, e1, e3⟩))))
      (first | (go_at_call 62; with_reducible refine (SS.out _).mono ?_; rintro e w' ⟨rfl, o, rfl⟩) | (go_at_call 62; with_reducible refine (SD.out _).mono ?_; rintro e w' ⟨rfl, o, rfl⟩))
    all_goals
      rename_i hS
      have hz := HZ.out
      clear e1 e3
      go_wp2_with fail
      go_meet
      refine GRel.of hS.1 (by omega) (by omega) ?_ ?_
      all_goals
        intro j hj
        have hj' : j = 0 ∨ j = 1 ∨ j = 2 ∨ j = 3 := by omega
        rcases hj' with rfl | rfl | rfl | rfl <;> simp [go_sem]
  case rest =>
    obtain ⟨g7, g8, rfl, rfl, hH⟩ := hcut
    have HH := Lib.hid hH
    clear hH H0 HZ SS SD
    have hs1 : w.heap.size + 1 < wc.heap.size := lt_of_block HH.out.cell
    obtain ⟨e0, -, e2, -, e4⟩ := HH.out.fl
    go_wp2_with fail
    refine (add_any (w.heap.size + 1) wc.heap.size 1 (startH s) [f.p % 256] rfl (by decide) (by intro b hb; simp at hb; omega) _ (by omega) (HH.out.alloc _).cell (one_at wc _)).mono ?_
    rintro e w1 ⟨rfl, hv1, hg1⟩
    have H1 := Lib.hid ((HH.out.alloc (.cells #[.int .u8 (f.p % 256)] 5)).kept hg1 hv1)
    clear HH hs1 e0 e2 e4 hv1 hg1
    obtain ⟨x1, hx1⟩ : ∃ x, x = [f.p % 256].foldl stepH (startH s) := ⟨_, rfl⟩
    rw [← hx1] at H1
    have HX1 := Lib.hid hx1
    clear hx1
    go_wp2_with fail
    refine (add_any (w.heap.size + 1) g7 4 x1 (four f.s 4) rfl (by decide) FS.out _ (by have := H1.out.b7; omega) H1.out.cell (fun j hj => by rw [four_get f.s j hj]; exact H1.out.a7 j hj)).mono ?_
    rintro e w2 ⟨rfl, hv2, hg2⟩
    have H2 := Lib.hid (H1.out.kept hg2 hv2)
    clear H1 hv2 hg2
    obtain ⟨x2, hx2⟩ : ∃ x, x = (four f.s 4).foldl stepH x1 := ⟨_, rfl⟩
    rw [← hx2] at H2
    have HX2 := Lib.hid hx2
    clear hx2
    go_wp2_with fail
    refine (add_any (w.heap.size + 1) g8 4 x2 (four f.d 4) rfl (by decide) FD.out _ (by have := H2.out.b8; omega) H2.out.cell (fun j hj => by rw [four_get f.d j hj]; exact H2.out.a8 j hj)).mono ?_
    rintro e w3 ⟨rfl, hv3, hg3⟩
    have H3 := Lib.hid (H2.out.kept hg3 hv3)
    clear H2 hv3 hg3
    obtain ⟨x3, hx3⟩ : ∃ x, x = (four f.d 4).foldl stepH x2 := ⟨_, rfl⟩
    rw [← hx3] at H3
    have HX3 := Lib.hid hx3
    clear hx3
    have hs3 : w.heap.size + 1 < w3.heap.size := lt_of_block H3.out.cell
    obtain ⟨-, -, e2, -, e4⟩ := H3.out.fl
    go_wp2_with fail
    refine (add_any (w.heap.size + 1) w3.heap.size 4 x3 [f.sp / 256 % 256, f.sp % 256, f.dp / 256 % 256, f.dp % 256] rfl (by decide) (by intro b hb; simp at hb; omega) _ (by omega) (H3.out.alloc _).cell (four_at w3 _ _ _ _)).mono ?_
    rintro e w4 ⟨rfl, hv4, hg4⟩
    have H4 := Lib.hid ((H3.out.alloc (.cells #[.int .u8 (f.sp / 256 % 256), .int .u8 (f.sp % 256), .int .u8 (f.dp / 256 % 256), .int .u8 (f.dp % 256)] 5)).kept hg4 hv4)
    clear H3 hs3 e2 e4 hv4 hg4
    obtain ⟨x4, hx4⟩ : ∃ x, x = [f.sp / 256 % 256, f.sp % 256, f.dp / 256 % 256, f.dp % 256].foldl stepH x3 := ⟨_, rfl⟩
    rw [← hx4] at H4
    have HV : Hid (hashF s f = finH x4) := Lib.hid (by rw [hash_parts, ← HX1.out, ← HX2.out, ← HX3.out, ← hx4])
    unfold finH at HV
    clear hx4 HX1 HX2 HX3
    have c0 := cell_of_one H4.out.cell
    have c1 := free_of_one H4.out.cell
    have HB := Lib.hid H4.out.below
    clear H4
    go_wp2
    go_ret
    exact ⟨by rw [HV.out]; rfl, ((HB.out.setCell (p := ⟨w.heap.size + 1, 0, none⟩) (by simp) _).setCell (p := ⟨w.heap.size + 1, 0, none⟩) (by simp) _)⟩
end Go.Proofs.Ytkacbeighaccjaa
