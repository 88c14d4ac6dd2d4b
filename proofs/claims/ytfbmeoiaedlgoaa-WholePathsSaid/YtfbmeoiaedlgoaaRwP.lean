/- Plain facts for layer 4: a packet's bytes with addresses and ports changed, its sums changed by these words, are the bytes of the packet with the other flow. No conditions but those stated. -/
import Derived.Test.YtfbmeoiaedlgoaaRwA
namespace Go.Proofs.Ytfbmeoiaedlgoaa
open Go Go.RowKit
set_option linter.unusedVariables false
set_option linter.unusedSimpArgs false

theorem setW_zero (x v : Int) (B : List Int) : setW (b2 x ++ B) 0 v = b2 v ++ B := rfl
theorem setw_two (x y : Int) (B : List Int) (I : Nat) (a b : Int) : setw (x :: y :: B) (I + 1) a b = x :: y :: setw B I a b := by
  unfold setw
  rw [show 2 * (I + 1) + 1 = (2 * I + 1) + 1 + 1 by omega, show 2 * (I + 1) = 2 * I + 1 + 1 by omega]
  rfl
theorem wordAt_two (x y : Int) (B : List Int) (I : Nat) : wordAt (x :: y :: B) (I + 1) = wordAt B I := by
  unfold wordAt
  rw [show 2 * (I + 1) + 1 = (2 * I + 1) + 1 + 1 by omega, show 2 * (I + 1) = 2 * I + 1 + 1 by omega]
  rfl
theorem setW_succ (x v : Int) (B : List Int) (I : Nat) : setW (b2 x ++ B) (I + 1) v = b2 x ++ setW B I v := setw_two _ _ _ _ _ _
theorem setW_app : ∀ (a : Nat) (A B : List Int) (I : Nat) (v : Int), A.length = 2 * a → setW (A ++ B) (a + I) v = A ++ setW B I v
  | 0, A, B, I, v, h => by
    have : A = [] := List.eq_nil_of_length_eq_zero (by omega)
    subst this
    rw [Nat.zero_add]
    rfl
  | a + 1, [], B, I, v, h => by simp at h
  | a + 1, [x], B, I, v, h => by simp at h; omega
  | a + 1, x :: y :: A, B, I, v, h => by
    have ih := setW_app a A B I v (by simp at h; omega)
    show setw (x :: y :: (A ++ B)) (a + 1 + I) _ _ = x :: y :: (A ++ setW B I v)
    rw [show a + 1 + I = (a + I) + 1 by omega, setw_two, ← ih]
    rfl
theorem wordAt_zero {x : Int} (h : w16 x) (B : List Int) : wordAt (b2 x ++ B) 0 = x := by
  unfold w16 at h
  show 256 * (x / 256 % 256) + x % 256 = x
  omega
theorem wordAt_succ (x : Int) (B : List Int) (I : Nat) : wordAt (b2 x ++ B) (I + 1) = wordAt B I := wordAt_two _ _ _ _
theorem wordAt_app : ∀ (a : Nat) (A B : List Int) (I : Nat), A.length = 2 * a → wordAt (A ++ B) (a + I) = wordAt B I
  | 0, A, B, I, h => by
    have : A = [] := List.eq_nil_of_length_eq_zero (by omega)
    subst this
    rw [Nat.zero_add]
    rfl
  | a + 1, [], B, I, h => by simp at h
  | a + 1, [x], B, I, h => by simp at h; omega
  | a + 1, x :: y :: A, B, I, h => by
    have ih := wordAt_app a A B I (by simp at h; omega)
    show wordAt (x :: y :: (A ++ B)) (a + 1 + I) = _
    rw [show a + 1 + I = (a + I) + 1 by omega, wordAt_two, ih]

/-- A packet's bytes, its words that a rewriting changes named. -/
def form (A : List Int) (c s1 s2 d1 d2 sp dp : Int) (M : List Int) (u : Int) (T : List Int) : List Int :=
  A ++ (b2 c ++ (b2 s1 ++ (b2 s2 ++ (b2 d1 ++ (b2 d2 ++ (b2 sp ++ (b2 dp ++ (M ++ (b2 u ++ T)))))))))
section
variable (A : List Int) (c s1 s2 d1 d2 sp dp : Int) (M : List Int) (u : Int) (T : List Int) (m : Nat) (v : Int) (hA : A.length = 10) (hM : M.length = 2 * m)
include hA
theorem put5 : setW (form A c s1 s2 d1 d2 sp dp M u T) 5 v = form A v s1 s2 d1 d2 sp dp M u T := by
  unfold form; rw [show (5 : Nat) = 5 + 0 from rfl, setW_app 5 _ _ _ _ hA, setW_zero]
theorem put6 : setW (form A c s1 s2 d1 d2 sp dp M u T) 6 v = form A c v s2 d1 d2 sp dp M u T := by
  unfold form; rw [show (6 : Nat) = 5 + 1 from rfl, setW_app 5 _ _ _ _ hA, setW_succ, setW_zero]
theorem put7 : setW (form A c s1 s2 d1 d2 sp dp M u T) 7 v = form A c s1 v d1 d2 sp dp M u T := by
  unfold form; rw [show (7 : Nat) = 5 + 2 from rfl, setW_app 5 _ _ _ _ hA, setW_succ, setW_succ, setW_zero]
theorem put8 : setW (form A c s1 s2 d1 d2 sp dp M u T) 8 v = form A c s1 s2 v d2 sp dp M u T := by
  unfold form; rw [show (8 : Nat) = 5 + 3 from rfl, setW_app 5 _ _ _ _ hA, setW_succ, setW_succ, setW_succ, setW_zero]
theorem put9 : setW (form A c s1 s2 d1 d2 sp dp M u T) 9 v = form A c s1 s2 d1 v sp dp M u T := by
  unfold form; rw [show (9 : Nat) = 5 + 4 from rfl, setW_app 5 _ _ _ _ hA, setW_succ, setW_succ, setW_succ, setW_succ, setW_zero]
theorem put10 : setW (form A c s1 s2 d1 d2 sp dp M u T) 10 v = form A c s1 s2 d1 d2 v dp M u T := by
  unfold form; rw [show (10 : Nat) = 5 + 5 from rfl, setW_app 5 _ _ _ _ hA, setW_succ, setW_succ, setW_succ, setW_succ, setW_succ, setW_zero]
theorem put11 : setW (form A c s1 s2 d1 d2 sp dp M u T) 11 v = form A c s1 s2 d1 d2 sp v M u T := by
  unfold form; rw [show (11 : Nat) = 5 + 6 from rfl, setW_app 5 _ _ _ _ hA, setW_succ, setW_succ, setW_succ, setW_succ, setW_succ, setW_succ, setW_zero]
include hM
theorem putJ : setW (form A c s1 s2 d1 d2 sp dp M u T) (12 + m) v = form A c s1 s2 d1 d2 sp dp M v T := by
  unfold form; rw [show 12 + m = 5 + (m + 7) by omega, setW_app 5 _ _ _ _ hA, setW_succ, setW_succ, setW_succ, setW_succ, setW_succ, setW_succ, setW_succ, show m = m + 0 from rfl, setW_app m _ _ _ _ hM, setW_zero]
theorem getJ (hu : w16 u) : wordAt (form A c s1 s2 d1 d2 sp dp M u T) (12 + m) = u := by
  unfold form; rw [show 12 + m = 5 + (m + 7) by omega, wordAt_app 5 _ _ _ hA, wordAt_succ, wordAt_succ, wordAt_succ, wordAt_succ, wordAt_succ, wordAt_succ, wordAt_succ, show m = m + 0 from rfl, wordAt_app m _ _ _ hM, wordAt_zero hu]
omit hM
theorem get5 (h : w16 c) : wordAt (form A c s1 s2 d1 d2 sp dp M u T) 5 = c := by
  unfold form; rw [show (5 : Nat) = 5 + 0 from rfl, wordAt_app 5 _ _ _ hA, wordAt_zero h]
theorem get6 (h : w16 s1) : wordAt (form A c s1 s2 d1 d2 sp dp M u T) 6 = s1 := by
  unfold form; rw [show (6 : Nat) = 5 + 1 from rfl, wordAt_app 5 _ _ _ hA, wordAt_succ, wordAt_zero h]
theorem get7 (h : w16 s2) : wordAt (form A c s1 s2 d1 d2 sp dp M u T) 7 = s2 := by
  unfold form; rw [show (7 : Nat) = 5 + 2 from rfl, wordAt_app 5 _ _ _ hA, wordAt_succ, wordAt_succ, wordAt_zero h]
theorem get8 (h : w16 d1) : wordAt (form A c s1 s2 d1 d2 sp dp M u T) 8 = d1 := by
  unfold form; rw [show (8 : Nat) = 5 + 3 from rfl, wordAt_app 5 _ _ _ hA, wordAt_succ, wordAt_succ, wordAt_succ, wordAt_zero h]
theorem get9 (h : w16 d2) : wordAt (form A c s1 s2 d1 d2 sp dp M u T) 9 = d2 := by
  unfold form; rw [show (9 : Nat) = 5 + 4 from rfl, wordAt_app 5 _ _ _ hA, wordAt_succ, wordAt_succ, wordAt_succ, wordAt_succ, wordAt_zero h]
theorem get10 (h : w16 sp) : wordAt (form A c s1 s2 d1 d2 sp dp M u T) 10 = sp := by
  unfold form; rw [show (10 : Nat) = 5 + 5 from rfl, wordAt_app 5 _ _ _ hA, wordAt_succ, wordAt_succ, wordAt_succ, wordAt_succ, wordAt_succ, wordAt_zero h]
theorem get11 (h : w16 dp) : wordAt (form A c s1 s2 d1 d2 sp dp M u T) 11 = dp := by
  unfold form; rw [show (11 : Nat) = 5 + 6 from rfl, wordAt_app 5 _ _ _ hA, wordAt_succ, wordAt_succ, wordAt_succ, wordAt_succ, wordAt_succ, wordAt_succ, wordAt_zero h]
include hM
theorem chg6 (hc : w16 c) (hu : w16 u) (h : w16 s1) (hv : w16 v) : chg (form A c s1 s2 d1 d2 sp dp M u T) 6 v [5, 12 + m] = form A (up c (s1, v)) v s2 d1 d2 sp dp M (up u (s1, v)) T := by
  unfold chg fixs
  rw [get6 _ _ _ _ _ _ _ _ _ _ _ hA h, put6 _ _ _ _ _ _ _ _ _ _ _ _ hA, List.foldl_cons, List.foldl_cons, List.foldl_nil, get5 _ _ _ _ _ _ _ _ _ _ _ hA hc, put5 _ _ _ _ _ _ _ _ _ _ _ _ hA, getJ _ _ _ _ _ _ _ _ _ _ _ m hA hM hu, putJ _ _ _ _ _ _ _ _ _ _ _ m _ hA hM]
theorem chg7 (hc : w16 c) (hu : w16 u) (h : w16 s2) (hv : w16 v) : chg (form A c s1 s2 d1 d2 sp dp M u T) 7 v [5, 12 + m] = form A (up c (s2, v)) s1 v d1 d2 sp dp M (up u (s2, v)) T := by
  unfold chg fixs
  rw [get7 _ _ _ _ _ _ _ _ _ _ _ hA h, put7 _ _ _ _ _ _ _ _ _ _ _ _ hA, List.foldl_cons, List.foldl_cons, List.foldl_nil, get5 _ _ _ _ _ _ _ _ _ _ _ hA hc, put5 _ _ _ _ _ _ _ _ _ _ _ _ hA, getJ _ _ _ _ _ _ _ _ _ _ _ m hA hM hu, putJ _ _ _ _ _ _ _ _ _ _ _ m _ hA hM]
theorem chg8 (hc : w16 c) (hu : w16 u) (h : w16 d1) (hv : w16 v) : chg (form A c s1 s2 d1 d2 sp dp M u T) 8 v [5, 12 + m] = form A (up c (d1, v)) s1 s2 v d2 sp dp M (up u (d1, v)) T := by
  unfold chg fixs
  rw [get8 _ _ _ _ _ _ _ _ _ _ _ hA h, put8 _ _ _ _ _ _ _ _ _ _ _ _ hA, List.foldl_cons, List.foldl_cons, List.foldl_nil, get5 _ _ _ _ _ _ _ _ _ _ _ hA hc, put5 _ _ _ _ _ _ _ _ _ _ _ _ hA, getJ _ _ _ _ _ _ _ _ _ _ _ m hA hM hu, putJ _ _ _ _ _ _ _ _ _ _ _ m _ hA hM]
theorem chg9 (hc : w16 c) (hu : w16 u) (h : w16 d2) (hv : w16 v) : chg (form A c s1 s2 d1 d2 sp dp M u T) 9 v [5, 12 + m] = form A (up c (d2, v)) s1 s2 d1 v sp dp M (up u (d2, v)) T := by
  unfold chg fixs
  rw [get9 _ _ _ _ _ _ _ _ _ _ _ hA h, put9 _ _ _ _ _ _ _ _ _ _ _ _ hA, List.foldl_cons, List.foldl_cons, List.foldl_nil, get5 _ _ _ _ _ _ _ _ _ _ _ hA hc, put5 _ _ _ _ _ _ _ _ _ _ _ _ hA, getJ _ _ _ _ _ _ _ _ _ _ _ m hA hM hu, putJ _ _ _ _ _ _ _ _ _ _ _ m _ hA hM]
theorem chg10 (hu : w16 u) (h : w16 sp) (hv : w16 v) : chg (form A c s1 s2 d1 d2 sp dp M u T) 10 v [12 + m] = form A c s1 s2 d1 d2 v dp M (up u (sp, v)) T := by
  unfold chg fixs
  rw [get10 _ _ _ _ _ _ _ _ _ _ _ hA h, put10 _ _ _ _ _ _ _ _ _ _ _ _ hA, List.foldl_cons, List.foldl_nil, getJ _ _ _ _ _ _ _ _ _ _ _ m hA hM hu, putJ _ _ _ _ _ _ _ _ _ _ _ m _ hA hM]
theorem chg11 (hu : w16 u) (h : w16 dp) (hv : w16 v) : chg (form A c s1 s2 d1 d2 sp dp M u T) 11 v [12 + m] = form A c s1 s2 d1 d2 sp v M (up u (dp, v)) T := by
  unfold chg fixs
  rw [get11 _ _ _ _ _ _ _ _ _ _ _ hA h, put11 _ _ _ _ _ _ _ _ _ _ _ _ hA, List.foldl_cons, List.foldl_nil, getJ _ _ _ _ _ _ _ _ _ _ _ m hA hM hu, putJ _ _ _ _ _ _ _ _ _ _ _ m _ hA hM]
end
theorem up_step {x m n : Int} (hx : w16 x) (hm : w16 m) (hn : w16 n) : w16 (up x (m, n)) ∧ (up x (m, n) - x - m + n) % 65535 = 0 ∧ (x ≤ 65534 → up x (m, n) ≤ 65534) := by
  refine ⟨up_w16 hx hm hn, ?_, ?_⟩
  · unfold w16 at hx hm hn
    unfold up car
    simp only
    split <;> omega
  · intro h
    unfold w16 at hx hm hn
    unfold up car
    simp only
    split <;> omega
end Go.Proofs.Ytfbmeoiaedlgoaa
