/- Contract of the document's Bytes: a new row of a flow's thirteen bytes; nothing that was there is turned. Condition: the addresses fit their kinds. -/
import Derived.Test.YtolkheelmmgnbaaDoorB1
import Derived.Test.YtolkheelmmgnbaaDoorF1
import Derived.Deep.Onto
namespace Go.Proofs.YtolkheelmmgnbaaDoor
open Go Go.RowKit Go.Sort

/-- A byte of an address. -/
def byteAt (a : Int) (k : Nat) : Int := if k = 0 then a / 16777216 else if k = 1 then a / 65536 % 256 else if k = 2 then a / 256 % 256 else a % 256
theorem byteAt_fits {a : Int} (a0 : 0 ≤ a) (a1 : a < 4294967296) (k : Nat) : 0 ≤ byteAt a k ∧ byteAt a k < 256 := by
  unfold byteAt
  repeat' split
  all_goals omega
theorem byte_any (a : Int) (a0 : 0 ≤ a) (a1 : a < 4294967296) (k : Nat) (hk : k < 4) (w : World) :
    Calls Tryd.prog 42 #[.int .u32 a, .int .i64 k] w fun e w' => e = .returned (.int .i64 (byteAt a k)) ∧ w = w' := by
  match k, hk with
  | 0, _ => exact byte0 a a0 a1 w
  | 1, _ => exact byte1 a a0 a1 w
  | 2, _ => exact byte2 a a0 a1 w
  | 3, _ => exact byte3 a a0 a1 w
def four (a : Int) (k : Nat) : List Int := (List.range k).map (byteAt a)
theorem four_succ (a : Int) (k : Nat) : four a (k + 1) = four a k ++ [byteAt a k] := by simp [four, List.range_succ]
/-- A flow's bytes. -/
def bytesF (f : Fl) : List Int := [f.p % 256] ++ four f.s 4 ++ four f.d 4 ++ [f.sp / 256 % 256, f.sp % 256, f.dp / 256 % 256, f.dp % 256]
theorem info5 : (Tryd.prog.info? 5).map (fun i => (i.zero, i.size, i.bytes)) = some (some (.int .u8 0), 1, 1) := by kernel_rfl
def u8s (l : List Int) : List Value := l.map (Value.int .u8)
theorem row_one (w : World) (x : Int) : (w.alloc (.cells #[.int .u8 x] 5)).ownsRow w.heap.size 5 1 (.slice (some ⟨w.heap.size, 0, none⟩) 1 1) 1 (u8s [x]) :=
  ⟨rfl, .inr ⟨w.heap.size, 1, _, rfl, Nat.le_refl _, heap_alloc_new w _, Nat.le_refl _, by decide, rfl, rfl⟩⟩
theorem cell_four_new (w : World) (x0 x1 x2 x3 : Value) (t : TypeId) : ∀ j u, [x0, x1, x2, x3][j]? = some u → (w.alloc (.cells #[x0, x1, x2, x3] t)).cell? ((⟨w.heap.size, 0, none⟩ : Addr).add j) = some u := by
  intro j u hj
  rw [Lib.add_plain]
  match j, hj with
  | 0, hj => simp at hj; subst hj; simp [go_sem]
  | 1, hj => simp at hj; subst hj; simp [go_sem]
  | 2, hj => simp at hj; subst hj; simp [go_sem]
  | 3, hj => simp at hj; subst hj; simp [go_sem]
  | j + 4, hj => simp at hj
theorem u8s_four {l m : List Int} {x0 x1 x2 x3 : Int} (h : l ++ [x0, x1, x2, x3] = m) : u8s l ++ [Value.int .u8 x0, Value.int .u8 x1, Value.int .u8 x2, Value.int .u8 x3] = u8s m := by rw [← h]; simp [u8s]
theorem u8s_more {l m : List Int} {x : Int} (h : l ++ [x] = m) : u8s l ++ [Value.int .u8 x] = u8s m := by rw [← h]; simp [u8s]

set_option maxHeartbeats 2000000 in
set_option maxRecDepth 100000 in
theorem refBytes (f : Fl) (w : World) (f1 : 0 ≤ f.s ∧ f.s < 4294967296) (f3 : 0 ≤ f.d ∧ f.d < 4294967296) :
    Calls Tryd.prog 47 #[f.val] w fun e w' => ∃ v, e = .returned v ∧ w'.ownsRow w.heap.size 5 1 v 13 (u8s (bytesF f)) ∧ Below w.heap.size w w' := by
  obtain ⟨i0, hi, hz0, hz1, hz2⟩ := info_parts info5
  have BS := Lib.hid (fun (k : Nat) (hk : k < 4) (w : World) => byte_any f.s f1.1 f1.2 k hk w)
  have BD := Lib.hid (fun (k : Nat) (hk : k < 4) (w : World) => byte_any f.d f3.1 f3.2 k hk w)
  have FS := Lib.hid (fun k => byteAt_fits f1.1 f1.2 k)
  have FD := Lib.hid (fun k => byteAt_fits f3.1 f3.2 k)
  obtain ⟨W, hW, hF, hb, hsz⟩ : ∃ W, w.alloc f.obj = W ∧ FlAt W w.heap.size f ∧ Below w.heap.size w W ∧ W.heap.size = w.heap.size + 1 := ⟨_, rfl, flAt_new w f, bl_al (Below.refl _ _) _, by simp⟩
  have HW := Lib.hid hW
  have HF := Lib.hid hF
  have HB := Lib.hid hb
  have HZ := Lib.hid hsz
  clear hW hF hb hsz f1 f3
  go_enter Tryd.func47, Tryd.ntmps47
  go_wp2
  rw [HW.out]
  have O1 := Lib.hid (row_one W (f.p % 256))
  have B1 := Lib.hid (bl_al (Below.refl W.heap.size W) (.cells #[.int .u8 (f.p % 256)] 5))
  rw [← HZ.out]
  go_loopw [3, 4] (fun v i wr => ∃ k : Nat, k ≤ 4 ∧ i = .int .i64 k ∧ Hid (wr.ownsRow W.heap.size 5 1 v (k + 1) (u8s ([f.p % 256] ++ four f.s k))) ∧ Hid (Below W.heap.size W wr)) (fun _ i _ => 4 - (intOf i).toNat)
  case atStart => exact ⟨0, by omega, rfl, O1, B1⟩
  case round =>
    obtain ⟨k, hk, rfl, hO, hB⟩ := hrel
    obtain ⟨e0, e1, e2, e3, e4⟩ := flAt_below HF.out hB.out (by rw [HZ.out]; omega)
    by_cases hlt : k < 4
    · obtain ⟨b, hbv⟩ : ∃ b, b = byteAt f.s k := ⟨_, rfl⟩
      have hb0 := FS.out k
      have BK := BS.out k hlt
      have HN := Lib.hid (show ([f.p % 256] ++ four f.s k) ++ [b] = [f.p % 256] ++ four f.s (k + 1) by rw [four_succ, hbv, List.append_assoc])
      rw [← hbv] at hb0 BK
      obtain ⟨hb0, hb1⟩ := hb0
      obtain ⟨L, hL⟩ : ∃ L, L = [f.p % 256] ++ four f.s k := ⟨_, rfl⟩
      rw [← hL] at HN hO
      have BKH := Lib.hid BK
      have hown := hO.out
      have hsz := hB.out.size
      clear hL hbv BK O1 B1
      go_wp2_with (first | (go_at_call 42; refine (BKH.out _).mono ?_; rintro e w2 ⟨rfl, rfl⟩) | (at_builtin; refine wpList_append_own _ rfl _ _ 76 rfl W.heap.size 5 i0 (.int .u8 0) 1 1 Tryd.underlying76 hi hz0 hz1 hz2 rfl (by decide) _ _ _ rfl (hown.alloc _) ⟨wr.heap.size, 0, none⟩ 1 1 [.int .u8 b] rfl rfl ?c1 ?c2 ?c3 ?c4 ?c5 ?_))
      case c1 => exact cell_one_new _ _ _
      case c2 => intro u hu; simp at hu; subst hu; rfl
      case c3 => unfold maxLen; omega
      case c4 => omega
      case c5 => simp; omega
      intro v' w3 hown3 hgrow _
      have hB3 := Lib.hid ((bl_al hB.out _).grown hgrow (by simp; omega) (fun k hk => (hown.lt k hk).1))
      rw [u8s_more HN.out] at hown3
      have HO3 := Lib.hid hown3
      clear hown hown3 hgrow hB
      go_wp2
      go_roundw
      case rel => exact ⟨k + 1, by omega, by go_num, HO3, hB3⟩
      case measure => simp [intOf]; omega
    · rw [show k = 4 by omega] at hO
      clear O1 B1
      go_wp2
      go_loopw [3, 5] (fun v i wr => ∃ k : Nat, k ≤ 4 ∧ i = .int .i64 k ∧ Hid (wr.ownsRow W.heap.size 5 1 v (k + 5) (u8s ([f.p % 256] ++ four f.s 4 ++ four f.d k))) ∧ Hid (Below W.heap.size W wr)) (fun _ i _ => 4 - (intOf i).toNat)
      case atStart =>
        refine ⟨0, by omega, rfl, ?_, hB⟩
        rw [show [f.p % 256] ++ four f.s 4 ++ four f.d 0 = [f.p % 256] ++ four f.s 4 by simp [four]]
        exact hO
      case round =>
        clear hO hB e0 e1 e2 e3 e4
        obtain ⟨m, hm, rfl, hO, hB⟩ := hrel
        obtain ⟨e0, e1, e2, e3, e4⟩ := flAt_below HF.out hB.out (by rw [HZ.out]; omega)
        by_cases hlm : m < 4
        · obtain ⟨b, hbv⟩ : ∃ b, b = byteAt f.d m := ⟨_, rfl⟩
          have hb0 := FD.out m
          have BK := BD.out m hlm
          have HN := Lib.hid (show ([f.p % 256] ++ four f.s 4 ++ four f.d m) ++ [b] = [f.p % 256] ++ four f.s 4 ++ four f.d (m + 1) by rw [four_succ f.d, hbv, List.append_assoc ([f.p % 256] ++ four f.s 4)])
          rw [← hbv] at hb0 BK
          obtain ⟨hb0, hb1⟩ := hb0
          obtain ⟨L, hL⟩ : ∃ L, L = [f.p % 256] ++ four f.s 4 ++ four f.d m := ⟨_, rfl⟩
          rw [← hL] at HN hO
          have BKH := Lib.hid BK
          have hown := hO.out
          have hsz := hB.out.size
          clear hL hbv BK
          go_wp2_with (first | (go_at_call 42; refine (BKH.out _).mono ?_; rintro e w2 ⟨rfl, rfl⟩) | (at_builtin; refine wpList_append_own _ rfl _ _ 76 rfl W.heap.size 5 i0 (.int .u8 0) 1 1 Tryd.underlying76 hi hz0 hz1 hz2 rfl (by decide) _ _ _ rfl (hown.alloc _) ⟨wr.heap.size, 0, none⟩ 1 1 [.int .u8 b] rfl rfl ?c1 ?c2 ?c3 ?c4 ?c5 ?_))
          case c1 => exact cell_one_new _ _ _
          case c2 => intro u hu; simp at hu; subst hu; rfl
          case c3 => unfold maxLen; omega
          case c4 => omega
          case c5 => simp; omega
          intro v' w3 hown3 hgrow _
          have hB3 := Lib.hid ((bl_al hB.out _).grown hgrow (by simp; omega) (fun k hk => (hown.lt k hk).1))
          rw [u8s_more HN.out] at hown3
          have HO3 := Lib.hid hown3
          clear hown hown3 hgrow hB
          go_wp2
          go_roundw
          case rel => exact ⟨m + 1, by omega, by go_num, Lib.hid (by rw [show m + 1 + 5 = m + 5 + 1 by omega]; exact HO3.out), hB3⟩
          case measure => simp [intOf]; omega
        · rw [show m = 4 by omega] at hO
          obtain ⟨L, hL⟩ : ∃ L, L = [f.p % 256] ++ four f.s 4 ++ four f.d 4 := ⟨_, rfl⟩
          rw [← hL] at hO
          have HL := Lib.hid hL
          have hown := hO.out
          have hsz := hB.out.size
          clear hL
          go_wp2_with (at_builtin; refine wpList_append_own _ rfl _ _ 76 rfl W.heap.size 5 i0 (.int .u8 0) 1 1 Tryd.underlying76 hi hz0 hz1 hz2 rfl (by decide) _ _ _ rfl (hown.alloc _) ⟨wr.heap.size, 0, none⟩ 4 4 [.int .u8 (f.sp / 256 % 256), .int .u8 (f.sp % 256), .int .u8 (f.dp / 256 % 256), .int .u8 (f.dp % 256)] rfl rfl ?c1 ?c2 ?c3 ?c4 ?c5 ?_)
          case c1 => exact cell_four_new _ _ _ _ _ _
          case c2 => intro u hu; simp at hu; rcases hu with rfl | rfl | rfl | rfl <;> rfl
          case c3 => decide
          case c4 => omega
          case c5 => simp; omega
          intro v' w3 hown3 hgrow _
          have hB3 := Lib.hid ((bl_al hB.out _).grown hgrow (by simp; omega) (fun k hk => (hown.lt k hk).1))
          rw [u8s_four (show L ++ [f.sp / 256 % 256, f.sp % 256, f.dp / 256 % 256, f.dp % 256] = bytesF f by rw [HL.out]; rfl)] at hown3
          have HO3 := Lib.hid hown3
          clear hown hown3 hgrow hB
          go_wp2
          go_ret
          exact ⟨_, rfl, HO3.out.mono (by rw [HZ.out]; omega), HB.out.trans (hB3.out.mono (by rw [HZ.out]; omega))⟩
end Go.Proofs.YtolkheelmmgnbaaDoor
