/- Contracts of the document's Byte, Bytes and Hash. Condition: the addresses fit their kinds. -/
import Derived.Test.YtkacbeighaccjaaHsP
import Derived.LoopTactic
import Derived.Deep.Onto
namespace Go.Proofs.Ytkacbeighaccjaa
open Go Go.RowKit
set_option linter.unusedVariables false
set_option linter.unusedSimpArgs false

theorem byte0 (a : Int) (h0 : 0 ≤ a) (h1 : a < 4294967296) (w : World) : Calls Try.prog 80 #[.int .u32 a, .int .i64 0] w fun e w' => e = .returned (.int .i64 (a / 16777216)) ∧ w = w' := by
  go_enter Try.func80, Try.ntmps80
  go_wp2
  go_ret
  exact ⟨ret_int (by omega), rfl⟩
theorem byte1 (a : Int) (h0 : 0 ≤ a) (h1 : a < 4294967296) (w : World) : Calls Try.prog 80 #[.int .u32 a, .int .i64 1] w fun e w' => e = .returned (.int .i64 (a / 65536 % 256)) ∧ w = w' := by
  go_enter Try.func80, Try.ntmps80
  go_wp2
  go_ret
  exact ⟨ret_int (by omega), rfl⟩
theorem byte2 (a : Int) (h0 : 0 ≤ a) (h1 : a < 4294967296) (w : World) : Calls Try.prog 80 #[.int .u32 a, .int .i64 2] w fun e w' => e = .returned (.int .i64 (a / 256 % 256)) ∧ w = w' := by
  go_enter Try.func80, Try.ntmps80
  go_wp2
  go_ret
  exact ⟨ret_int (by omega), rfl⟩
theorem byte3 (a : Int) (h0 : 0 ≤ a) (h1 : a < 4294967296) (w : World) : Calls Try.prog 80 #[.int .u32 a, .int .i64 3] w fun e w' => e = .returned (.int .i64 (a % 256)) ∧ w = w' := by
  go_enter Try.func80, Try.ntmps80
  go_wp2
  go_ret
  exact ⟨ret_int (by omega), rfl⟩

theorem byte_any (a : Int) (a0 : 0 ≤ a) (a1 : a < 4294967296) (k : Nat) (hk : k < 4) (w : World) :
    Calls Try.prog 80 #[.int .u32 a, .int .i64 k] w fun e w' => e = .returned (.int .i64 (byteAt a k)) ∧ w = w' := by
  match k, hk with
  | 0, _ => exact byte0 a a0 a1 w
  | 1, _ => exact byte1 a a0 a1 w
  | 2, _ => exact byte2 a a0 a1 w
  | 3, _ => exact byte3 a a0 a1 w
theorem row_one (w : World) (x : Int) : (w.alloc (.cells #[.int .u8 x] 5)).ownsRow w.heap.size 5 1 (.slice (some ⟨w.heap.size, 0, none⟩) 1 1) 1 (u8s [x]) :=
  ⟨rfl, .inr ⟨w.heap.size, 1, _, rfl, Nat.le_refl _, heap_alloc_new w _, Nat.le_refl _, by decide, rfl, rfl⟩⟩
theorem cell_four_new (w : World) (x0 x1 x2 x3 : Value) (t : TypeId) : ∀ j u, [x0, x1, x2, x3][j]? = some u → (w.alloc (.cells #[x0, x1, x2, x3] t)).cell? ((⟨w.heap.size, 0, none⟩ : Addr).add j) = some u := by
  intro j u hj
  rw [Go.WideShapes.add_plain]
  match j, hj with
  | 0, hj => simp at hj; subst hj; simp [go_sem]
  | 1, hj => simp at hj; subst hj; simp [go_sem]
  | 2, hj => simp at hj; subst hj; simp [go_sem]
  | 3, hj => simp at hj; subst hj; simp [go_sem]
  | j + 4, hj => simp at hj
theorem u8s_four {l m : List Int} {x0 x1 x2 x3 : Int} (h : l ++ [x0, x1, x2, x3] = m) : u8s l ++ [Value.int .u8 x0, Value.int .u8 x1, Value.int .u8 x2, Value.int .u8 x3] = u8s m := by rw [← h]; simp [u8s]
theorem u8s_more {l m : List Int} {x : Int} (h : l ++ [x] = m) : u8s l ++ [Value.int .u8 x] = u8s m := by rw [← h]; simp [u8s]

set_option maxHeartbeats 2000000 in
set_option maxRecDepth 100000 in
theorem refBytes (f : Fl) (w : World) (f1 : 0 ≤ f.s ∧ f.s < 4294967296) (f3 : 0 ≤ f.d ∧ f.d < 4294967296) :
    Calls Try.prog 63 #[f.val] w fun e w' => ∃ v, e = .returned v ∧ w'.ownsRow w.heap.size 5 1 v 13 (u8s (bytesF f)) ∧ Below w.heap.size w w' := by
  obtain ⟨i0, hi, hz0, hz1, hz2⟩ := info_parts info5
  have BS := Lib.hid (fun (k : Nat) (hk : k < 4) (w : World) => byte_any f.s f1.1 f1.2 k hk w)
  have BD := Lib.hid (fun (k : Nat) (hk : k < 4) (w : World) => byte_any f.d f3.1 f3.2 k hk w)
  have FS := Lib.hid (fun k => byteAt_fits f1.1 f1.2 k)
  have FD := Lib.hid (fun k => byteAt_fits f3.1 f3.2 k)
  obtain ⟨W, hW, hF, hb, hsz⟩ : ∃ W, w.alloc f.obj = W ∧ FlAt W w.heap.size f ∧ Below w.heap.size w W ∧ W.heap.size = w.heap.size + 1 := ⟨_, rfl, flAt_new w f, bl_al (Below.refl _ _) _, by simp⟩
  have HW := Lib.hid hW
  have HF := Lib.hid hF
  have HB := Lib.hid hb
  have HZ := Lib.hid hsz
  clear hW hF hb hsz f1 f3
  go_enter Try.func63, Try.ntmps63
  go_wp2
  rw [HW.out]
  have O1 := Lib.hid (row_one W (f.p % 256))
  have B1 := Lib.hid (bl_al (Below.refl W.heap.size W) (.cells #[.int .u8 (f.p % 256)] 5))
  rw [← HZ.out]
  go_loopw [3, 4] (fun v i wr => ∃ k : Nat, k ≤ 4 ∧ i = .int .i64 k ∧ Hid (wr.ownsRow W.heap.size 5 1 v (k + 1) (u8s ([f.p % 256] ++ four f.s k))) ∧ Hid (Below W.heap.size W wr)) (fun _ i _ => 4 - (intOf i).toNat)
  case atStart => exact ⟨0, by omega, rfl, O1, B1⟩
  case round =>
    obtain ⟨k, hk, rfl, hO, hB⟩ := hrel
    obtain ⟨e0, e1, e2, e3, e4⟩ := flAt_below HF.out hB.out (by rw [HZ.out]; omega)
    by_cases hlt : k < 4
    · obtain ⟨b, hbv⟩ : ∃ b, b = byteAt f.s k := ⟨_, rfl⟩
      have hb0 := FS.out k
      have BK := BS.out k hlt
      have HN := Lib.hid (show ([f.p % 256] ++ four f.s k) ++ [b] = [f.p % 256] ++ four f.s (k + 1) by rw [four_succ, hbv, List.append_assoc])
      rw [← hbv] at hb0 BK
      obtain ⟨hb0, hb1⟩ := hb0
      obtain ⟨L, hL⟩ : ∃ L, L = [f.p % 256] ++ four f.s k := ⟨_, rfl⟩
      rw [← hL] at HN hO
      have BKH := Lib.hid BK
      have hown := hO.out
      have hsz := hB.out.size
      clear hL hbv BK O1 B1
      go_wp2_with (first | (go_at_call 80; refine (BKH.out _).mono ?_; rintro e w2 ⟨rfl, rfl⟩) | (at_builtin; refine wpList_append_own _ rfl _ _ 101 rfl W.heap.size 5 i0 (.int .u8 0) 1 1 Try.underlying101 hi hz0 hz1 hz2 rfl (by decide) _ _ _ rfl (hown.alloc _) ⟨wr.heap.size, 0, none⟩ 1 1 [.int .u8 b] rfl rfl ?c1 ?c2 ?c3 ?c4 ?c5 ?_))
      case c1 => exact cell_one_new _ _ _
      case c2 => intro u hu; simp at hu; subst hu; rfl
      case c3 => unfold maxLen; omega
      case c4 => omega
      case c5 => simp; omega
      intro v' w3 hown3 hgrow _
      have hB3 := Lib.hid ((bl_al hB.out _).grown hgrow (by simp; omega) (fun k hk => (hown.lt k hk).1))
      rw [u8s_more HN.out] at hown3
      have HO3 := Lib.hid hown3
      clear hown hown3 hgrow hB
      go_wp2
      go_roundw
      case rel => exact ⟨k + 1, by omega, by go_num, HO3, hB3⟩
      case measure => simp [intOf]; omega
    · rw [show k = 4 by omega] at hO
      clear O1 B1
      go_wp2
      go_loopw [3, 5] (fun v i wr => ∃ k : Nat, k ≤ 4 ∧ i = .int .i64 k ∧ Hid (wr.ownsRow W.heap.size 5 1 v (k + 5) (u8s ([f.p % 256] ++ four f.s 4 ++ four f.d k))) ∧ Hid (Below W.heap.size W wr)) (fun _ i _ => 4 - (intOf i).toNat)
      case atStart =>
        refine ⟨0, by omega, rfl, ?_, hB⟩
        rw [show [f.p % 256] ++ four f.s 4 ++ four f.d 0 = [f.p % 256] ++ four f.s 4 by simp [four]]
        exact hO
      case round =>
        clear hO hB e0 e1 e2 e3 e4
        obtain ⟨m, hm, rfl, hO, hB⟩ := hrel
        obtain ⟨e0, e1, e2, e3, e4⟩ := flAt_below HF.out hB.out (by rw [HZ.out]; omega)
        by_cases hlm : m < 4
        · obtain ⟨b, hbv⟩ : ∃ b, b = byteAt f.d m := ⟨_, rfl⟩
          have hb0 := FD.out m
          have BK := BD.out m hlm
          have HN := Lib.hid (show ([f.p % 256] ++ four f.s 4 ++ four f.d m) ++ [b] = [f.p % 256] ++ four f.s 4 ++ four f.d (m + 1) by rw [four_succ f.d, hbv, List.append_assoc ([f.p % 256] ++ four f.s 4)])
          rw [← hbv] at hb0 BK
          obtain ⟨hb0, hb1⟩ := hb0
          obtain ⟨L, hL⟩ : ∃ L, L = [f.p % 256] ++ four f.s 4 ++ four f.d m := ⟨_, rfl⟩
          rw [← hL] at HN hO
          have BKH := Lib.hid BK
          have hown := hO.out
          have hsz := hB.out.size
          clear hL hbv BK
          go_wp2_with (first | (go_at_call 80; refine (BKH.out _).mono ?_; rintro e w2 ⟨rfl, rfl⟩) | (at_builtin; refine wpList_append_own _ rfl _ _ 101 rfl W.heap.size 5 i0 (.int .u8 0) 1 1 Try.underlying101 hi hz0 hz1 hz2 rfl (by decide) _ _ _ rfl (hown.alloc _) ⟨wr.heap.size, 0, none⟩ 1 1 [.int .u8 b] rfl rfl ?c1 ?c2 ?c3 ?c4 ?c5 ?_))
          case c1 => exact cell_one_new _ _ _
          case c2 => intro u hu; simp at hu; subst hu; rfl
          case c3 => unfold maxLen; omega
          case c4 => omega
          case c5 => simp; omega
          intro v' w3 hown3 hgrow _
          have hB3 := Lib.hid ((bl_al hB.out _).grown hgrow (by simp; omega) (fun k hk => (hown.lt k hk).1))
          rw [u8s_more HN.out] at hown3
          have HO3 := Lib.hid hown3
          clear hown hown3 hgrow hB
          go_wp2
          go_roundw
          case rel => exact ⟨m + 1, by omega, by go_num, Lib.hid (by rw [show m + 1 + 5 = m + 5 + 1 by omega]; exact HO3.out), hB3⟩
          case measure => simp [intOf]; omega
        · rw [show m = 4 by omega] at hO
          obtain ⟨L, hL⟩ : ∃ L, L = [f.p % 256] ++ four f.s 4 ++ four f.d 4 := ⟨_, rfl⟩
          rw [← hL] at hO
          have HL := Lib.hid hL
          have hown := hO.out
          have hsz := hB.out.size
          clear hL
          go_wp2_with (at_builtin; refine wpList_append_own _ rfl _ _ 101 rfl W.heap.size 5 i0 (.int .u8 0) 1 1 Try.underlying101 hi hz0 hz1 hz2 rfl (by decide) _ _ _ rfl (hown.alloc _) ⟨wr.heap.size, 0, none⟩ 4 4 [.int .u8 (f.sp / 256 % 256), .int .u8 (f.sp % 256), .int .u8 (f.dp / 256 % 256), .int .u8 (f.dp % 256)] rfl rfl ?c1 ?c2 ?c3 ?c4 ?c5 ?_)
          case c1 => exact cell_four_new _ _ _ _ _ _
          case c2 => intro u hu; simp at hu; rcases hu with rfl | rfl | rfl | rfl <;> rfl
          case c3 => decide
          case c4 => omega
          case c5 => simp; omega
          intro v' w3 hown3 hgrow _
          have hB3 := Lib.hid ((bl_al hB.out _).grown hgrow (by simp; omega) (fun k hk => (hown.lt k hk).1))
          rw [u8s_four (show L ++ [f.sp / 256 % 256, f.sp % 256, f.dp / 256 % 256, f.dp % 256] = bytesF f by rw [HL.out]; rfl)] at hown3
          have HO3 := Lib.hid hown3
          clear hown hown3 hgrow hB
          go_wp2
          go_ret
          exact ⟨_, rfl, HO3.out.mono (by rw [HZ.out]; omega), HB.out.trans (hB3.out.mono (by rw [HZ.out]; omega))⟩
theorem refBytes_cells (f : Fl) (w : World) (f1 : 0 ≤ f.s ∧ f.s < 4294967296) (f3 : 0 ≤ f.d ∧ f.d < 4294967296) :
    Calls Try.prog 63 #[f.val] w fun e w' => ∃ g cap, e = .returned (.slice (some ⟨g, 0, none⟩) 13 cap) ∧ Hid (∀ j, j < 13 → w'.cell? ⟨g, j, none⟩ = some (.int .u8 ((bytesF f).getD j 0))) ∧ Below w.heap.size w w' := by
  refine (refBytes f w f1 f3).mono ?_
  rintro e w' ⟨v, rfl, ho, hb⟩
  rcases ho.2 with ⟨_, h0⟩ | ⟨g, cap, cur, hv, _⟩
  · exact absurd h0 (by decide)
  · refine ⟨g, cap, by rw [hv], ?_, hb⟩
    intro j hj
    have hl : j < (bytesF f).length := by rw [bytes_len]; exact hj
    have h := ho.cells (g := g) (by rw [hv]; rfl) j (.int .u8 ((bytesF f).getD j 0)) (by unfold u8s; rw [List.getElem?_map]; simp [List.getD_eq_getElem?_getD, hl])
    rw [Go.WideShapes.add_plain] at h
    simpa using h

set_option maxHeartbeats 2000000 in
set_option maxRecDepth 100000 in
theorem refHash (s : Int) (f : Fl) (w : World) (f1 : 0 ≤ f.s ∧ f.s < 4294967296) (f3 : 0 ≤ f.d ∧ f.d < 4294967296) :
    Calls Try.prog 44 #[.int .u64 s, f.val] w fun e w' => e = .returned (.int .u64 (hashF s f)) ∧ Below w.heap.size w w' := by
  have RB := Lib.hid (fun (w : World) => refBytes_cells f w f1 f3)
  have FIT := Lib.hid (bytes_fit f f1 f3)
  clear f1 f3
  go_enter Try.func44, Try.ntmps44
  go_wp2_with (go_at_call 63; refine (RB.out _).mono ?_; rintro e w2 ⟨g, cap, rfl, hC2, hb2⟩)
  have hB2 := Lib.hid (bl_tr (bl_al (Below.refl w.heap.size w) f.obj) hb2)
  clear hb2
  go_loopw [5, 7] (fun v i wr => ∃ k : Nat, ∃ h : Int, k ≤ 13 ∧ i = .int .i64 k ∧ v = .int .u64 h ∧ Hid (h = ((bytesF f).take k).foldl stepH (startH s)) ∧ Hid (∀ j, j < 13 → wr.cell? ⟨g, j, none⟩ = some (.int .u8 ((bytesF f).getD j 0))) ∧ Hid (Below w.heap.size w wr)) (fun _ i _ => 13 - (intOf i).toNat)
  case atStart => exact ⟨0, _, by omega, rfl, rfl, Lib.hid rfl, hC2, hB2⟩
  case round =>
    clear hC2 hB2
    obtain ⟨k, h, hk, rfl, rfl, hh, hC, hB⟩ := hrel
    by_cases hlt : k < 13
    · have hc := hC.out k hlt
      obtain ⟨b, hbv⟩ : ∃ b, b = (bytesF f).getD k 0 := ⟨_, rfl⟩
      rw [← hbv] at hc
      have hl : k < (bytesF f).length := by rw [bytes_len]; exact hlt
      obtain ⟨b0, b1⟩ := FIT.out b (by rw [hbv, List.getD_eq_getElem?_getD, List.getElem?_eq_getElem hl]; exact List.getElem_mem hl)
      have HN := Lib.hid (show stepH h b = ((bytesF f).take (k + 1)).foldl stepH (startH s) by rw [take_more _ 0 hl, List.foldl_append, ← hh.out, ← hbv]; rfl)
      unfold stepH at HN
      clear hbv hl
      go_wp2
      go_roundw
      case rel => exact ⟨k + 1, _, by omega, by go_num, rfl, HN, hC, hB⟩
      case measure => simp [intOf]; omega
    · have HN := Lib.hid (show h = (bytesF f).foldl stepH (startH s) by rw [hh.out, List.take_of_length_le (by rw [bytes_len]; omega)])
      have HV : Hid (hashF s f = finH h) := Lib.hid (by rw [HN.out]; rfl)
      unfold finH at HV
      go_wp2
      go_ret
      exact ⟨by rw [HV.out]; rfl, hB.out⟩
end Go.Proofs.Ytkacbeighaccjaa
