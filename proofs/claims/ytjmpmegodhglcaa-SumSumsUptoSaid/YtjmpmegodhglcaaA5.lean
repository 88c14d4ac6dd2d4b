/- New rows of bytes, and rows of such rows, in memory; the contract of towpathlaw02.alive: it returns true. No conditions. -/
import Derived.Test.YtjmpmegodhglcaaA3
import Derived.Test.YtjmpmegodhglcaaA4
import Derived.Lib.SlBytesConst
import Derived.Laws.IdiomStrings
namespace Go.Proofs.Ytjmpmegodhglcaa
open Go Go.RowKit

theorem bl_al {w w' : World} (h : Below w.heap.size w w') (o : Obj) : Below w.heap.size w (w'.alloc o) := h.alloc h.size o
theorem bl_tr {a b c : World} (h1 : Below a.heap.size a b) (h2 : Below b.heap.size b c) : Below a.heap.size a c := h1.trans (h2.mono h1.size)
theorem At.below {w w' : World} {v : Value} {l : List Int} (h : At w v l) (hb : Below w.heap.size w w') : At w' v l := by
  obtain ⟨a, cap, e, h0 | ⟨b, off, ha, hc⟩⟩ := h
  · exact ⟨a, cap, e, .inl h0⟩
  · refine ⟨a, cap, e, .inr ⟨b, off, ha, fun j hj => ?_⟩⟩
    have := hc j hj
    exact (hb.cell (p := ⟨b, off + j, none⟩) (block_lt_of_cell this)).trans this
theorem Parts.below {w w' : World} {v : Value} {ps : List (List Int)} (h : Parts w v ps) (hb : Below w.heap.size w w') : Parts w' v ps := by
  obtain ⟨a, cap, e, h0 | ⟨b, off, ha, hc⟩⟩ := h
  · exact ⟨a, cap, e, .inl h0⟩
  · refine ⟨a, cap, e, .inr ⟨b, off, ha, fun j p hj => ?_⟩⟩
    obtain ⟨u, hu, hA⟩ := hc j p hj
    exact ⟨u, (hb.cell (p := ⟨b, off + j, none⟩) (block_lt_of_cell hu)).trans hu, hA.below hb⟩
theorem cells_new (w : World) (us : List Value) (t : TypeId) (m : Nat × Nat) (j : Nat) (u : Value) (h : us[j]? = some u) : (w.alloc (.cells us.toArray t m)).cell? ⟨w.heap.size, 0 + j, none⟩ = some u := by
  rw [World.cell?_alloc_mark, Nat.zero_add, List.getElem?_toArray, h]
theorem At.new (w : World) (l : List Int) (C : Array Value) (hC : C = (l.map (Value.int .u8)).toArray) (t : TypeId) (m : Nat × Nat) (c : Nat) (n : Nat) (hn : n = w.heap.size) (k : Nat) (hk : k = l.length) : At (w.alloc (.cells C t m)) (.slice (some ⟨n, 0, none⟩) k c) l := by
  subst hC hn hk
  refine ⟨_, c, rfl, .inr ⟨w.heap.size, 0, rfl, fun j hj => ?_⟩⟩
  apply cells_new
  rw [List.getElem?_map, List.getElem?_eq_getElem hj, List.getD_eq_getElem?_getD, List.getElem?_eq_getElem hj]
  rfl
theorem Parts.one {w : World} {u : Value} {p : List Int} (h : At w u p) (t : TypeId) (n : Nat) (hn : n = w.heap.size) : Parts (w.alloc (.cells #[u] t)) (.slice (some ⟨n, 0, none⟩) 1 1) [p] := by
  subst hn
  refine ⟨_, 1, rfl, .inr ⟨_, 0, rfl, fun j q hj => ?_⟩⟩
  match j, hj with
  | 0, hj =>
    cases hj
    exact ⟨u, cells_new w [u] t (0, 0) 0 u rfl, h.below (bl_al (Below.refl _ _) _)⟩
theorem Parts.two {w : World} {u v : Value} {p q : List Int} (h : At w u p) (h' : At w v q) (t : TypeId) (n : Nat) (hn : n = w.heap.size) : Parts (w.alloc (.cells #[u, v] t)) (.slice (some ⟨n, 0, none⟩) 2 2) [p, q] := by
  subst hn
  refine ⟨_, 2, rfl, .inr ⟨_, 0, rfl, fun j x hj => ?_⟩⟩
  match j, hj with
  | 0, hj =>
    cases hj
    exact ⟨u, cells_new w [u, v] t (0, 0) 0 u rfl, h.below (bl_al (Below.refl _ _) _)⟩
  | 1, hj =>
    cases hj
    exact ⟨v, cells_new w [u, v] t (0, 0) 1 v rfl, h'.below (bl_al (Below.refl _ _) _)⟩
theorem Parts.three {w : World} {u v x : Value} {p q r : List Int} (h : At w u p) (h' : At w v q) (h2 : At w x r) (t : TypeId) (n : Nat) (hn : n = w.heap.size) : Parts (w.alloc (.cells #[u, v, x] t)) (.slice (some ⟨n, 0, none⟩) 3 3) [p, q, r] := by
  subst hn
  refine ⟨_, 3, rfl, .inr ⟨_, 0, rfl, fun j y hj => ?_⟩⟩
  match j, hj with
  | 0, hj =>
    cases hj
    exact ⟨u, cells_new w [u, v, x] t (0, 0) 0 u rfl, h.below (bl_al (Below.refl _ _) _)⟩
  | 1, hj =>
    cases hj
    exact ⟨v, cells_new w [u, v, x] t (0, 0) 1 v rfl, h'.below (bl_al (Below.refl _ _) _)⟩
  | 2, hj =>
    cases hj
    exact ⟨x, cells_new w [u, v, x] t (0, 0) 2 x rfl, h2.below (bl_al (Below.refl _ _) _)⟩
theorem At.nil (w : World) (a : Option Addr) (c : Nat) : At w (.slice a 0 c) [] := ⟨a, c, rfl, .inl rfl⟩
theorem Parts.none (w : World) (a : Option Addr) (c : Nat) : Parts w (.slice a 0 c) [] := ⟨a, c, rfl, .inl rfl⟩
theorem Prs.one (w : World) (m n : Int) (t : TypeId) (b : Nat) (hb : b = w.heap.size) : Prs (w.alloc (.cells #[.int .u16 m, .int .u16 n] t)) (.slice (some ⟨b, 0, none⟩) 1 1) [(m, n)] := by
  subst hb
  refine ⟨_, 1, rfl, .inr ⟨_, 0, rfl, fun j x hj => ?_⟩⟩
  match j, hj with
  | 0, hj =>
    cases hj
    exact ⟨cells_new w [.int .u16 m, .int .u16 n] t (0, 0) 0 _ rfl, cells_new w [.int .u16 m, .int .u16 n] t (0, 0) 1 _ rfl⟩

theorem alive_sum (w : World) (o : Obj) (ho : o = .cells #[.int .u8 0, .int .u8 1, .int .u8 242, .int .u8 3, .int .u8 244, .int .u8 245, .int .u8 246, .int .u8 247] 5) :
    Calls Try.prog 11 #[.slice (some ⟨w.heap.size + 1, 0, none⟩) 1 1] ((w.alloc o).alloc (.cells #[.slice (some ⟨w.heap.size, 0, none⟩) 8 8] 22)) fun e w' => e = .returned (.int .u16 8717) ∧ ((w.alloc o).alloc (.cells #[.slice (some ⟨w.heap.size, 0, none⟩) 8 8] 22)) = w' := by
  subst ho
  have H := sum_any [[0, 1, 242, 3, 244, 245, 246, 247]] _ _ (Parts.one (At.new w [0, 1, 242, 3, 244, 245, 246, 247] _ rfl 5 (0, 0) 8 w.heap.size rfl 8 rfl) 22 (w.heap.size + 1) (by simp)) (by unfold fit; decide) (by decide) (by decide)
  rw [show (65535 - car (ws [[0, 1, 242, 3, 244, 245, 246, 247]].flatten)) = 8717 by decide] at H
  exact H

theorem alive_check (w : World) (o1 o2 : Obj) (h1 : o1 = .cells #[.int .u8 49, .int .u8 50, .int .u8 51, .int .u8 52] 5 (4, 5)) (h2 : o2 = .cells #[.int .u8 53, .int .u8 54, .int .u8 55, .int .u8 56, .int .u8 57] 5 (5, 6)) :
    Calls Try.prog 18 #[.slice (some ⟨w.heap.size + 1 + 1, 0, none⟩) 2 2] (((w.alloc o1).alloc o2).alloc (.cells #[.slice (some ⟨w.heap.size, 0, none⟩) 4 4, .slice (some ⟨w.heap.size + 1, 0, none⟩) 5 5] 22)) fun e w' => e = .returned (.int .u32 3421780262) ∧ ((w.alloc o1).alloc o2).alloc (.cells #[.slice (some ⟨w.heap.size, 0, none⟩) 4 4, .slice (some ⟨w.heap.size + 1, 0, none⟩) 5 5] 22) = w' := by
  have A := (At.new w [49, 50, 51, 52] _ rfl 5 (4, 5) 4 w.heap.size rfl 4 rfl).below (bl_al (Below.refl _ _) o2)
  subst h1 h2
  have B := At.new (w.alloc (.cells #[.int .u8 49, .int .u8 50, .int .u8 51, .int .u8 52] 5 (4, 5))) [53, 54, 55, 56, 57] _ rfl 5 (5, 6) 5 (w.heap.size + 1) (by simp) 5 rfl
  have H := check_any [[49, 50, 51, 52], [53, 54, 55, 56, 57]] _ _ (Parts.two A B 22 (w.heap.size + 1 + 1) (by simp)) (by unfold fit; decide) (by decide) (by decide)
  rw [show crc [[49, 50, 51, 52], [53, 54, 55, 56, 57]].flatten = 3421780262 by decide +kernel] at H
  exact H
theorem alive_update (w : World) : Calls Try.prog 16 #[.int .u16 56623, .slice (some ⟨w.heap.size, 0, none⟩) 1 1] (w.alloc (.cells #[.int .u16 21845, .int .u16 12933] 32)) fun e w' => e = .returned (.int .u16 0) ∧ Below (w.heap.size + 1) (w.alloc (.cells #[.int .u16 21845, .int .u16 12933] 32)) w' := by
  have H := update_any 56623 [(21845, 12933)] _ _ (by unfold w16; decide) (Prs.one w 21845 12933 32 w.heap.size rfl) (by unfold fit2 w16; decide) (by decide)
  rw [show ([(21845, 12933)] : List (Int × Int)).foldl up 56623 = 0 by decide, show (w.alloc (.cells #[.int .u16 21845, .int .u16 12933] 32)).heap.size = w.heap.size + 1 by simp] at H
  exact H

set_option maxRecDepth 100000 in
theorem alive_any (w : World) : Calls Try.prog 9 #[] w fun e w' => e = .returned (.bool true) ∧ Below w.heap.size w w' := by
  have kc := fun (w : World) (C : Array Value) (n c : Nat) => Lib.run_convert_bytes_const (P := Try.prog) w 22 5 C n c Try.underlying22 Try.underlying5
  have kd := fun (w : World) (o : Obj) (C : Array Value) (n c : Nat) => Lib.run_convert_bytes_const (P := Try.prog) (w.alloc o) 22 5 C n c Try.underlying22 Try.underlying5
  simp only [World.size_alloc] at kd
  have S := Lib.hid (alive_sum w _ rfl)
  go_enter Try.func9, Try.ntmps9
  go_wp2_with fail
  refine S.out.mono ?_
  rintro e w2 ⟨rfl, rfl⟩
  have B := Lib.hid (bl_al (bl_al (Below.refl w.heap.size w) (.cells #[.int .u8 0, .int .u8 1, .int .u8 242, .int .u8 3, .int .u8 244, .int .u8 245, .int .u8 246, .int .u8 247] 5)) (.cells #[.slice (some ⟨w.heap.size, 0, none⟩) 8 8] 22))
  obtain ⟨x, hx⟩ : ∃ x, x = (w.alloc (.cells #[.int .u8 0, .int .u8 1, .int .u8 242, .int .u8 3, .int .u8 244, .int .u8 245, .int .u8 246, .int .u8 247] 5)).alloc (.cells #[.slice (some ⟨w.heap.size, 0, none⟩) 8 8] 22) := ⟨_, rfl⟩
  rw [← hx] at B
  rw [← hx]
  clear hx S
  have S := Lib.hid (alive_check x _ _ rfl rfl)
  go_wp2_with fail
  refine S.out.mono ?_
  rintro e w2 ⟨rfl, rfl⟩
  have B2 := Lib.hid (bl_al (bl_al (bl_al B.out (.cells #[.int .u8 49, .int .u8 50, .int .u8 51, .int .u8 52] 5 (4, 5))) (.cells #[.int .u8 53, .int .u8 54, .int .u8 55, .int .u8 56, .int .u8 57] 5 (5, 6))) (.cells #[.slice (some ⟨x.heap.size, 0, none⟩) 4 4, .slice (some ⟨x.heap.size + 1, 0, none⟩) 5 5] 22))
  obtain ⟨y, hy⟩ : ∃ y, y = ((x.alloc (.cells #[.int .u8 49, .int .u8 50, .int .u8 51, .int .u8 52] 5 (4, 5))).alloc (.cells #[.int .u8 53, .int .u8 54, .int .u8 55, .int .u8 56, .int .u8 57] 5 (5, 6))).alloc (.cells #[.slice (some ⟨x.heap.size, 0, none⟩) 4 4, .slice (some ⟨x.heap.size + 1, 0, none⟩) 5 5] 22) := ⟨_, rfl⟩
  rw [← hy] at B2
  rw [← hy]
  clear hy S B kc kd
  have S := Lib.hid (alive_update y)
  go_wp2_with fail
  refine S.out.mono ?_
  rintro e w2 ⟨rfl, hb⟩
  have HB := Lib.hid hb
  clear hb
  go_wp2
  go_ret
  exact ⟨rfl, (bl_al B2.out _).trans (HB.out.mono (by have := B2.out.size; omega))⟩
end Go.Proofs.Ytjmpmegodhglcaa
