/- LeaseFull, plainly: a vip's 8064 blocks, each lent once. No conditions but those stated. -/
import Derived.Test.YtanajblldlgalaaDoorLsQ
namespace Go.Proofs.YtanajblldlgalaaDoor
open Go Go.RowKit
set_option linter.unusedVariables false
set_option linter.unusedSimpArgs false

/-- The j-th block of the vip. -/
def fuX (T : Int) (j : Nat) : Ls := ⟨16843009, 1024 + 8 * (j : Int), 167837696, T⟩
def fuL (T : Int) (a n : Nat) : List Ls := (List.range n).map (fun j => fuX T (a + j))
theorem fuL_len (T : Int) (a n : Nat) : (fuL T a n).length = n := by simp [fuL]
theorem fuL_more (T : Int) (a n : Nat) : fuL T a (n + 1) = fuL T a n ++ [fuX T (a + n)] := by simp [fuL, List.range_succ]
theorem fuL_cons (T : Int) (a n : Nat) : fuL T a (n + 1) = fuX T a :: fuL T (a + 1) n := by
  simp only [fuL, List.range_succ_eq_map, List.map_cons, List.map_map, Nat.add_zero, List.cons.injEq, true_and]
  refine List.map_congr_left (fun j _ => ?_)
  show fuX T (a + (j + 1)) = fuX T (a + 1 + j)
  rw [show a + (j + 1) = a + 1 + j by omega]
theorem mem_fu {T : Int} {a n : Nat} {x : Ls} (h : x ∈ fuL T a n) : ∃ j, a ≤ j ∧ j < a + n ∧ x = fuX T j := by
  unfold fuL at h
  rw [List.mem_map] at h
  obtain ⟨j, hj, rfl⟩ := h
  rw [List.mem_range] at hj
  exact ⟨a + j, by omega, by omega, rfl⟩
theorem fu_mem {T : Int} {a n j : Nat} (h1 : a ≤ j) (h2 : j < a + n) : fuX T j ∈ fuL T a n := by
  unfold fuL
  rw [List.mem_map]
  exact ⟨j - a, List.mem_range.2 (by omega), by rw [show a + (j - a) = j by omega]⟩
theorem fu_lt {T : Int} {i j : Nat} (h : i < j) : ltL (fuX T i) (fuX T j) = true := by
  rw [ltL_iff]
  right
  refine ⟨rfl, ?_⟩
  show (1024 + 8 * (i : Int)) < 1024 + 8 * (j : Int)
  omega
theorem fu_good {T : Int} (h0 : 0 ≤ T) (h1 : T ≤ 1099511627840) {j : Nat} (hj : j < 8064) : GoodL (fuX T j) := by
  refine ⟨?_, ?_, ?_, h0, h1⟩
  · show IsDip 167837696
    decide
  · show IsVipA 16843009
    decide
  · show OkFst (1024 + 8 * (j : Int))
    unfold OkFst
    omega
theorem fu_pair (T : Int) (n : Nat) : ∀ a, (fuL T a n).Pairwise (fun x y => ltL x y = true) := by
  induction n with
  | zero => intro a; exact List.Pairwise.nil
  | succ n ih =>
    intro a
    rw [fuL_cons, List.pairwise_cons]
    refine ⟨fun y hy => ?_, ih (a + 1)⟩
    obtain ⟨j, h1, h2, rfl⟩ := mem_fu hy
    exact fu_lt (by omega)
theorem fu_ok {T : Int} (h0 : 0 ≤ T) (h1 : T ≤ 1099511627840) {a n : Nat} (h : a + n ≤ 8064) : OkL (fuL T a n) := by
  refine ⟨fun x hx => ?_, fu_pair T n a⟩
  obtain ⟨j, _, h3, rfl⟩ := mem_fu hx
  exact fu_good h0 h1 (by omega)
/-- The list with a hole at k. -/
def hoL (T : Int) (k : Nat) : List Ls := fuL T 0 k ++ fuL T (k + 1) (8063 - k)
theorem ho_ok {T : Int} (h0 : 0 ≤ T) (h1 : T ≤ 1099511627840) {k : Nat} (h : k < 8064) : OkL (hoL T k) := by
  refine ⟨fun x hx => ?_, ?_⟩
  · rcases List.mem_append.1 hx with hx | hx
    · exact (fu_ok h0 h1 (by omega)).1 x hx
    · exact (fu_ok h0 h1 (by omega)).1 x hx
  · unfold hoL
    rw [List.pairwise_append]
    refine ⟨fu_pair _ _ _, fu_pair _ _ _, fun x hx y hy => ?_⟩
    obtain ⟨i, _, h3, rfl⟩ := mem_fu hx
    obtain ⟨j, h4, _, rfl⟩ := mem_fu hy
    exact fu_lt (by omega)
theorem ho_len (T : Int) {k : Nat} (h : k < 8064) : (hoL T k).length = 8063 := by
  unfold hoL
  rw [List.length_append, fuL_len, fuL_len]
  omega
theorem fu_of {now : Int} {l : List Ls} (h : ∀ x ∈ l, x.dip = 167837696) : ofL 167837697 now l = [] := by
  unfold ofL
  rw [List.filter_eq_nil_iff]
  intro x hx hq
  unfold isO at hq
  rw [h x hx] at hq
  simp at hq
theorem fu_dip {T : Int} {a n : Nat} : ∀ x ∈ fuL T a n, x.dip = 167837696 := fun x hx => by
  obtain ⟨j, _, _, rfl⟩ := mem_fu hx
  rfl
theorem fu_lent {T now : Int} (h : now ≤ T) {l : List Ls} {j : Nat} (hm : fuX T j ∈ l) : lentB 16843009 now l j = true := by
  unfold lentB
  rw [List.any_eq_true]
  refine ⟨_, hm, ?_⟩
  unfold livL
  rw [Bool.and_eq_true, Bool.and_eq_true]
  exact ⟨decide_eq_true rfl, decide_eq_true h, decide_eq_true rfl⟩
theorem fu_full {now T : Int} (h0 : 0 ≤ now) (h1 : now ≤ 1073741824) (hT : T = now + 5) : grantL (fuL T 0 8064) 16843009 167837697 now = ([], ls0, 5) := by
  unfold grantL
  rw [if_pos ⟨by unfold OkTm; omega, by decide, by decide, fu_ok (by omega) (by omega) (by omega)⟩, fu_of fu_dip, if_neg (by simp), free_none (fun j hj => fu_lent (by omega) (fu_mem (by omega) (by omega)))]
theorem fu_late {now T : Int} (h0 : 0 ≤ now) (h1 : now ≤ 1073741824) (hT : T = now + 5) : grantL (fuL T 0 8064) 16843009 167837697 (now + 6) = (⟨16843009, 1024, 167837697, now + 70⟩ :: fuL T 1 8063, ⟨16843009, 1024, 167837697, now + 70⟩, 0) := by
  have hf : freeL 16843009 (now + 6) (fuL T 0 8064) = some 0 := free_some (by omega) (by
    unfold lentB
    rw [List.any_eq_false]
    intro x hx
    obtain ⟨j, _, _, rfl⟩ := mem_fu hx
    have : livL (now + 6) (fuX T j) = false := by
      unfold livL
      refine decide_eq_false ?_
      show ¬ now + 6 ≤ T
      omega
    rw [this]
    simp) (fun j hj => by omega)
  have hw : withL ⟨16843009, 1024, 167837697, now + 70⟩ (fuL T 0 8064) = ⟨16843009, 1024, 167837697, now + 70⟩ :: fuL T 1 8063 := by
    rw [fuL_cons]
    refine with_split1 (a := []) (fun y hy => by simp at hy) (sameK_iff.2 ⟨rfl, rfl⟩) (fun y hy => ?_)
    obtain ⟨j, h1, _, rfl⟩ := mem_fu hy
    rw [ltL_iff]
    right
    refine ⟨rfl, ?_⟩
    show (1024 : Int) < 1024 + 8 * (j : Int)
    omega
  unfold grantL
  rw [if_pos ⟨by unfold OkTm; omega, by decide, by decide, fu_ok (by omega) (by omega) (by omega)⟩, fu_of fu_dip, if_neg (by simp), hf]
  have e : (⟨16843009, 1024 + 8 * ((0 : Nat) : Int), 167837697, now + 6 + 64⟩ : Ls) = ⟨16843009, 1024, 167837697, now + 70⟩ := by
    rw [show now + 6 + 64 = now + 70 by omega]
    rfl
  dsimp only
  rw [e, hw]
theorem fu_hole {now T : Int} (h0 : 0 ≤ now) (h1 : now ≤ 1073741824) (hT : T = now + 5) {k : Nat} (hk : k < 8064) : grantL (hoL T k) 16843009 167837697 now = (fuL T 0 k ++ ⟨16843009, 1024 + 8 * (k : Int), 167837697, now + 64⟩ :: fuL T (k + 1) (8063 - k), ⟨16843009, 1024 + 8 * (k : Int), 167837697, now + 64⟩, 0) := by
  have hf : freeL 16843009 now (hoL T k) = some k := free_some hk (by
    unfold lentB
    rw [List.any_eq_false]
    intro x hx
    have : x.first ≠ 1024 + 8 * (k : Int) := by
      rcases List.mem_append.1 hx with hx | hx
      · obtain ⟨j, _, h3, rfl⟩ := mem_fu hx
        show (1024 + 8 * (j : Int)) ≠ _
        omega
      · obtain ⟨j, h3, _, rfl⟩ := mem_fu hx
        show (1024 + 8 * (j : Int)) ≠ _
        omega
    rw [decide_eq_false this]
    simp) (fun j hj => fu_lent (by omega) (List.mem_append.2 (.inl (fu_mem (by omega) (by omega)))))
  have hw : withL ⟨16843009, 1024 + 8 * (k : Int), 167837697, now + 64⟩ (hoL T k) = fuL T 0 k ++ ⟨16843009, 1024 + 8 * (k : Int), 167837697, now + 64⟩ :: fuL T (k + 1) (8063 - k) := by
    refine with_split (fun y hy => ?_) (fun y hy => ?_)
    · obtain ⟨j, _, h3, rfl⟩ := mem_fu hy
      rw [ltL_iff]
      right
      refine ⟨rfl, ?_⟩
      show 1024 + 8 * (j : Int) < 1024 + 8 * (k : Int)
      omega
    · obtain ⟨j, h3, _, rfl⟩ := mem_fu hy
      rw [ltL_iff]
      right
      refine ⟨rfl, ?_⟩
      show 1024 + 8 * (k : Int) < 1024 + 8 * (j : Int)
      omega
  have hd : ofL 167837697 now (hoL T k) = [] := fu_of (fun x hx => by
    rcases List.mem_append.1 hx with hx | hx
    · exact fu_dip x hx
    · exact fu_dip x hx)
  unfold grantL
  rw [if_pos ⟨by unfold OkTm; omega, by decide, by decide, ho_ok (by omega) (by omega) hk⟩, hd, if_neg (by simp), hf]
  dsimp only
  rw [hw]
theorem ho_is (T : Int) {k : Nat} (hk : k < 8064) : fuL T 0 8064 = fuL T 0 k ++ fuX T k :: fuL T (k + 1) (8063 - k) := by
  apply List.ext_getElem?
  intro i
  unfold fuL
  by_cases h1 : i < k
  · rw [List.getElem?_append_left (by simpa using h1), List.getElem?_map, List.getElem?_map, List.getElem?_range (by omega), List.getElem?_range h1]
  · rw [List.getElem?_append_right (by simpa using h1), List.length_map, List.length_range]
    by_cases h2 : i < 8064
    · rw [List.getElem?_map, List.getElem?_range h2]
      obtain ⟨d, rfl⟩ : ∃ d, i = k + d := ⟨i - k, by omega⟩
      rw [show k + d - k = d by omega]
      cases d with
      | zero => simp
      | succ d =>
        rw [List.getElem?_cons_succ, List.getElem?_map, List.getElem?_range (by omega)]
        show some (fuX T (0 + (k + (d + 1)))) = some (fuX T (k + 1 + d))
        rw [show 0 + (k + (d + 1)) = k + 1 + d by omega]
    · rw [List.getElem?_eq_none (by simp; omega), List.getElem?_eq_none (by simp; omega)]
theorem fu_take (T : Int) {k : Nat} (hk : k < 8064) : (fuL T 0 8064).take k = fuL T 0 k ∧ (fuL T 0 8064).drop (k + 1) = fuL T (k + 1) (8063 - k) ∧ (fuL T 0 8064).getD k ls0 = fuX T k := by
  have hl := fuL_len T 0 k
  rw [ho_is T hk]
  refine ⟨?_, ?_, ?_⟩
  · rw [List.take_append_of_le_length (by omega), List.take_of_length_le (by omega)]
  · rw [List.drop_append, hl, List.drop_eq_nil_of_le (by omega), show k + 1 - k = 1 by omega]
    rfl
  · rw [List.getD_eq_getElem?_getD, List.getElem?_append_right (by omega), hl, Nat.sub_self]
    rfl
end Go.Proofs.YtanajblldlgalaaDoor
