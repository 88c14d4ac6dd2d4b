/- Contract of towpathlaw04.word on a row that came in; two and three changes behind one another. Conditions: the place lies in the row. -/
import Derived.Test.YtfgajgdbojapcaaSumsQ
import Derived.Test.YtfgajgdbojapcaaRwA
import Derived.Test.YtfgajgdbojapcaaRdC
namespace Go.Proofs.Ytfgajgdbojapcaa
open Go Go.RowKit
set_option linter.unusedVariables false
set_option linter.unusedSimpArgs false

set_option maxRecDepth 100000 in
theorem lword_any (a : Option Addr) (n c I : Nat) (l : List Int) (W : Int) (hW : W = ((2 * I : Nat) : Int)) (w : World) (hA : In w a n c l) (hI : 2 * I + 1 < n) (hb : n ≤ 1048576) :
    Calls Try.prog 36 #[.slice a n c, .int .i64 W] w fun e w' => e = .returned (.int .u16 (wordAt l I)) ∧ ∃ k, w' = w.drewN k := by
  subst hW
  obtain ⟨b, off, rfl⟩ := in_addr hA (by omega)
  have c0 := in_cell hA (2 * I) (by omega)
  have c1 := in_cell hA (2 * I + 1) (by omega)
  have hl := hA.len
  have f0 := fit_at hA.fit (j := 2 * I) (by omega)
  have f1 := fit_at hA.fit (j := 2 * I + 1) (by omega)
  have HV : Hid (wordAt l I = 256 * l.getD (2 * I) 0 + l.getD (2 * I + 1) 0) := Lib.hid rfl
  obtain ⟨x, hx⟩ : ∃ x, x = l.getD (2 * I) 0 := ⟨_, rfl⟩
  obtain ⟨y, hy⟩ : ∃ y, y = l.getD (2 * I + 1) 0 := ⟨_, rfl⟩
  rw [← hx] at c0 f0 HV
  rw [← hy] at c1 f1 HV
  obtain ⟨z, hz⟩ : ∃ z, z = wordAt l I := ⟨_, rfl⟩
  rw [← hz] at HV
  rw [← hz]
  obtain ⟨a0, a1⟩ := f0
  obtain ⟨b0, b1⟩ := f1
  obtain ⟨J, hJ⟩ : ∃ J, J = 2 * I := ⟨_, rfl⟩
  rw [← hJ] at c0 c1 hI
  rw [← hJ]
  have v4 : IntKind.i64.wrap ((J : Int) + 1) = ((J + 1 : Nat) : Int) := by rw [IntWalk.i64_in _ (by omega)]; omega
  have i0 : (J : Int) < (n : Int) := by omega
  have i1 : ((J + 1 : Nat) : Int) < (n : Int) := by omega
  have hor : bits .or .u16 (x * 256) y = 256 * x + y := or_word a0 a1 b0 b1
  clear hx hy hz hA hl hJ
  go_enter Try.func36, Try.ntmps36
  go_wp2
  go_quiet (fail)
  go_wp2
  go_ret
  exact ⟨by rw [HV.out]; rfl, _, rfl⟩

theorem Prs.two (w : World) (m n r s : Int) (t : TypeId) (b : Nat) (hb : b = w.heap.size) : Prs (w.alloc (.cells #[.int .u16 m, .int .u16 n, .int .u16 r, .int .u16 s] t)) (.slice (some ⟨b, 0, none⟩) 2 2) [(m, n), (r, s)] := by
  subst hb
  refine ⟨_, 2, rfl, .inr ⟨_, 0, rfl, fun j x hj => ?_⟩⟩
  match j, hj with
  | 0, hj =>
    cases hj
    exact ⟨cells_new w [.int .u16 m, .int .u16 n, .int .u16 r, .int .u16 s] t (0, 0) 0 _ rfl, cells_new w [.int .u16 m, .int .u16 n, .int .u16 r, .int .u16 s] t (0, 0) 1 _ rfl⟩
  | 1, hj =>
    cases hj
    exact ⟨cells_new w [.int .u16 m, .int .u16 n, .int .u16 r, .int .u16 s] t (0, 0) 2 _ rfl, cells_new w [.int .u16 m, .int .u16 n, .int .u16 r, .int .u16 s] t (0, 0) 3 _ rfl⟩
theorem Prs.three (w : World) (m n r s x y : Int) (t : TypeId) (b : Nat) (hb : b = w.heap.size) : Prs (w.alloc (.cells #[.int .u16 m, .int .u16 n, .int .u16 r, .int .u16 s, .int .u16 x, .int .u16 y] t)) (.slice (some ⟨b, 0, none⟩) 3 3) [(m, n), (r, s), (x, y)] := by
  subst hb
  refine ⟨_, 3, rfl, .inr ⟨_, 0, rfl, fun j z hj => ?_⟩⟩
  match j, hj with
  | 0, hj =>
    cases hj
    exact ⟨cells_new w [.int .u16 m, .int .u16 n, .int .u16 r, .int .u16 s, .int .u16 x, .int .u16 y] t (0, 0) 0 _ rfl, cells_new w [.int .u16 m, .int .u16 n, .int .u16 r, .int .u16 s, .int .u16 x, .int .u16 y] t (0, 0) 1 _ rfl⟩
  | 1, hj =>
    cases hj
    exact ⟨cells_new w [.int .u16 m, .int .u16 n, .int .u16 r, .int .u16 s, .int .u16 x, .int .u16 y] t (0, 0) 2 _ rfl, cells_new w [.int .u16 m, .int .u16 n, .int .u16 r, .int .u16 s, .int .u16 x, .int .u16 y] t (0, 0) 3 _ rfl⟩
  | 2, hj =>
    cases hj
    exact ⟨cells_new w [.int .u16 m, .int .u16 n, .int .u16 r, .int .u16 s, .int .u16 x, .int .u16 y] t (0, 0) 4 _ rfl, cells_new w [.int .u16 m, .int .u16 n, .int .u16 r, .int .u16 s, .int .u16 x, .int .u16 y] t (0, 0) 5 _ rfl⟩
end Go.Proofs.Ytfgajgdbojapcaa
