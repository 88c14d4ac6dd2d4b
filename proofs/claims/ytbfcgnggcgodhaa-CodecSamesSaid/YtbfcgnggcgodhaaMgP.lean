/- Plain facts of layer 6, no program: what bytes a message's frame has, how they are read again, that a changed or cut frame is none. No conditions but those stated. -/
import Derived.Test.YtbfcgnggcgodhaaGenB
import Derived.Test.YtbfcgnggcgodhaaCrA
import Derived.Test.YtbfcgnggcgodhaaRowI
namespace Go.Proofs.Ytbfcgnggcgodhaa
open Go Go.RowKit
set_option linter.unusedVariables false
set_option linter.unusedSimpArgs false

/-- A message laid open. -/
structure Mg where
  kind : Int
  nums : List Int
  data : List Int
structure OkM (m : Mg) : Prop where
  kind : 0 ≤ m.kind ∧ m.kind ≤ 255
  nums : m.nums.length ≤ 40
  data : m.data.length ≤ 65536
structure TyM (m : Mg) : Prop where
  nums : fitI m.nums
  data : fit m.data
def nb (l : List Int) : List Int := l.flatMap b8
theorem nb_len (l : List Int) : (nb l).length = 8 * l.length := by
  unfold nb
  induction l with
  | nil => rfl
  | cons a l ih => rw [List.flatMap_cons, List.length_append, b8_len, ih, List.length_cons]; omega
theorem fit_nb (l : List Int) : fit (nb l) := by
  intro b hb
  obtain ⟨a, _, h⟩ := List.mem_flatMap.1 hb
  exact fit_b8 a b h
theorem nb_app (l k : List Int) : nb (l ++ k) = nb l ++ nb k := List.flatMap_append
/-- The bytes ahead of the check, of which the first five. -/
def top (m : Mg) : List Int := [84, 80, 1, m.kind % 256, (m.nums.length : Int) % 256]
def fbd (m : Mg) : List Int := top m ++ (nb m.nums ++ (b4 m.data.length ++ m.data))
/-- A message's frame. -/
def frm (m : Mg) : List Int := fbd m ++ b4 (crc (fbd m))
theorem top_len (m : Mg) : (top m).length = 5 := rfl
theorem b4_len (n : Int) : (b4 n).length = 4 := rfl
theorem fbd_len (m : Mg) : (fbd m).length = 9 + 8 * m.nums.length + m.data.length := by
  unfold fbd
  rw [List.length_append, List.length_append, List.length_append, nb_len, top_len, b4_len]
  omega
theorem frm_len (m : Mg) : (frm m).length = 13 + 8 * m.nums.length + m.data.length := by
  unfold frm
  rw [List.length_append, fbd_len, b4_len]
  omega
theorem fit_top (m : Mg) : fit (top m) := fit_cons (by omega) (fit_cons (by omega) (fit_cons (by omega) (fit_cons (by omega) (fit_cons (by omega) fit_nil))))
theorem fit_fbd {m : Mg} (h : fit m.data) : fit (fbd m) := fit_app (fit_top m) (fit_app (fit_nb _) (fit_app (fit_b4 _) h))
theorem fit_frm {m : Mg} (h : fit m.data) : fit (frm m) := fit_app (fit_fbd h) (fit_b4 _)
theorem crc_bound {l : List Int} (h : fit l) : 0 ≤ crc l ∧ crc l < 4294967296 := by
  have := cl_lt l h (r := start) (by decide)
  unfold crc
  omega
/-- What bytes say. -/
def cnt (b : List Int) : Nat := (b.getD 4 0).toNat
def rdn (b : List Int) (i : Nat) : Int := sg (n8 b (5 + 8 * i))
def decM (b : List Int) : Mg := ⟨b.getD 3 0, (List.range (cnt b)).map (rdn b), (b.drop (9 + 8 * cnt b)).take (b.length - 13 - 8 * cnt b)⟩
/-- Bytes are a frame. -/
def IsF (b : List Int) : Prop := OkM (decM b) ∧ frm (decM b) = b
theorem n8_app (l k : List Int) (i : Nat) (h : l.length ≤ i) : n8 (l ++ k) i = n8 k (i - l.length) := by
  unfold n8
  have e : ∀ j, (l ++ k).getD (i + j) 0 = k.getD (i - l.length + j) 0 := fun j => by
    rw [List.getD_eq_getElem?_getD, List.getD_eq_getElem?_getD, List.getElem?_append_right (by omega), show i + j - l.length = i - l.length + j by omega]
  have e0 := e 0
  simp only [Nat.add_zero] at e0
  rw [e0, e 1, e 2, e 3, e 4, e 5, e 6, e 7]
theorem n8_nb {l : List Int} {i : Nat} (k : List Int) (h : i < l.length) : n8 (nb l ++ k) (8 * i) = l.getD i 0 % 18446744073709551616 := by
  induction l generalizing i with
  | nil => simp at h
  | cons a l ih =>
    have e : nb (a :: l) = b8 a ++ nb l := rfl
    cases i with
    | zero =>
      rw [e, List.append_assoc]
      exact eight_back a
    | succ i =>
      rw [e, List.append_assoc, n8_app _ _ _ (by rw [b8_len]; omega), b8_len, show 8 * (i + 1) - 8 = 8 * i by omega, ih (by simpa using h)]
      rfl
theorem list_range_map {l : List Int} {g : Nat → Int} {n : Nat} (hn : n = l.length) (h : ∀ i, i < l.length → g i = l.getD i 0) : (List.range n).map g = l := by
  subst hn
  apply List.ext_getElem
  · simp
  · intro i h1 h2
    rw [List.getElem_map, List.getElem_range, h i h2, List.getD_eq_getElem?_getD, List.getElem?_eq_getElem h2]
    rfl
theorem dec_frm {m : Mg} (h : OkM m) (t : TyM m) : decM (frm m) = m := by
  obtain ⟨kind, nums, data⟩ := m
  obtain ⟨hk, hn, hd⟩ := h
  obtain ⟨tn, td⟩ := t
  simp only at hk hn hd tn td
  have e4 : (frm ⟨kind, nums, data⟩).getD 4 0 = (nums.length : Int) % 256 := rfl
  have e3 : (frm ⟨kind, nums, data⟩).getD 3 0 = kind % 256 := rfl
  have ec : cnt (frm ⟨kind, nums, data⟩) = nums.length := by unfold cnt; rw [e4]; omega
  have el := frm_len ⟨kind, nums, data⟩
  simp only at el
  unfold decM
  rw [ec, e3]
  simp only [Mg.mk.injEq]
  refine ⟨by omega, list_range_map rfl (fun i hi => ?_), ?_⟩
  · unfold rdn
    have e : frm ⟨kind, nums, data⟩ = top ⟨kind, nums, data⟩ ++ (nb nums ++ ((b4 data.length ++ data) ++ b4 (crc (fbd ⟨kind, nums, data⟩)))) := by
      unfold frm fbd
      simp only [List.append_assoc]
    rw [e, n8_app _ _ _ (by rw [top_len]; omega), top_len, show 5 + 8 * i - 5 = 8 * i by omega, n8_nb _ hi, sg_back (fitI_at tn hi)]
  · have e : frm ⟨kind, nums, data⟩ = (top ⟨kind, nums, data⟩ ++ (nb nums ++ b4 data.length)) ++ (data ++ b4 (crc (fbd ⟨kind, nums, data⟩))) := by
      unfold frm fbd
      simp only [List.append_assoc]
    have el2 : (top ⟨kind, nums, data⟩ ++ (nb nums ++ b4 data.length)).length = 9 + 8 * nums.length := by
      rw [List.length_append, List.length_append, nb_len, top_len, b4_len]
      omega
    rw [el]
    rw [show 13 + 8 * nums.length + data.length - 13 - 8 * nums.length = data.length by omega, e, List.drop_append_of_le_length (by omega), List.drop_of_length_le (by omega), List.nil_append, List.take_append_of_le_length (Nat.le_refl _), List.take_length]
theorem sg_typed {b : List Int} (hf : fit b) (i : Nat) : -9223372036854775808 ≤ rdn b i ∧ rdn b i < 9223372036854775808 := by
  unfold rdn
  apply sg_bound
  have g := getD_fit hf
  have := g (5 + 8 * i); have := g (5 + 8 * i + 1); have := g (5 + 8 * i + 2); have := g (5 + 8 * i + 3); have := g (5 + 8 * i + 4); have := g (5 + 8 * i + 5); have := g (5 + 8 * i + 6); have := g (5 + 8 * i + 7)
  unfold n8
  omega
theorem decM_typed {b : List Int} (hf : fit b) : TyM (decM b) := by
  refine ⟨?_, fun x hx => hf x (List.mem_of_mem_drop (List.mem_of_mem_take hx))⟩
  intro x hx
  obtain ⟨i, _, rfl⟩ := List.mem_map.1 hx
  exact sg_typed hf i
theorem IsF.of {m : Mg} (h : OkM m) (t : TyM m) : IsF (frm m) := by
  have e := dec_frm h t
  unfold IsF
  rw [e]
  exact ⟨h, rfl⟩
theorem IsF.size {b : List Int} (h : IsF b) : b.length = 13 + 8 * cnt b + (decM b).data.length := by
  have e := frm_len (decM b)
  rw [h.2] at e
  have : (decM b).nums.length = cnt b := by simp [decM]
  omega
/-- The check stands at the end. -/
theorem frm_check (m : Mg) : (frm m).drop ((frm m).length - 4) = b4 (crc ((frm m).take ((frm m).length - 4))) := by
  have e : (frm m).length - 4 = (fbd m).length := by rw [frm_len, fbd_len]; omega
  rw [e]
  unfold frm
  rw [List.drop_left, List.take_left]
theorem IsF.check {b : List Int} (h : IsF b) : b.drop (b.length - 4) = b4 (crc (b.take (b.length - 4))) := by
  rw [← h.2]
  exact frm_check _
theorem b4_inj {x y : Int} (hx : 0 ≤ x ∧ x < 4294967296) (hy : 0 ≤ y ∧ y < 4294967296) (h : b4 x = b4 y) : x = y := by
  have h1 := four_back hx
  have h2 := four_back hy
  simp only [b4, List.cons.injEq, and_true] at h
  omega
theorem slipF {b : List Int} (h : IsF b) (hf : fit b) {i : Nat} {v : Int} (hi : i < b.length) (hv : 0 ≤ v ∧ v < 256) (hne : v ≠ b.getD i 0) : ¬ IsF (b.set i v) := by
  intro h2
  have c1 := h.check
  have c2 := h2.check
  have hs := h.size
  rw [List.length_set] at c2
  by_cases hc : i < b.length - 4
  · have e1 : (b.set i v).drop (b.length - 4) = b.drop (b.length - 4) := by rw [List.drop_set, if_pos hc]
    have e2 : (b.set i v).take (b.length - 4) = (b.take (b.length - 4)).set i v := List.take_set
    have hft := fit_take hf (b.length - 4)
    have hit : i < (b.take (b.length - 4)).length := by rw [List.length_take]; omega
    rw [e1, e2, c1] at c2
    have := b4_inj (crc_bound hft) (crc_bound (fit_set hft i hv)) c2
    refine crc_slip_at hft hit hv ?_ this.symm
    rw [List.getD_eq_getElem?_getD, List.getElem?_take, if_pos hc, ← List.getD_eq_getElem?_getD]
    exact hne
  · have e1 : (b.set i v).take (b.length - 4) = b.take (b.length - 4) := by
      rw [List.take_set]
      exact List.set_eq_of_length_le (by rw [List.length_take]; omega)
    rw [e1, ← c1, List.drop_set, if_neg hc] at c2
    have e := congrArg (fun l => l.getD (i - (b.length - 4)) 0) c2
    simp only [List.getD_eq_getElem?_getD] at e
    rw [List.getElem?_set_self (by rw [List.length_drop]; omega), List.getElem?_drop, show b.length - 4 + (i - (b.length - 4)) = i by omega] at e
    simp only [Option.getD_some] at e
    exact hne (by rw [e, List.getD_eq_getElem?_getD])
theorem IsF.len {b : List Int} (h : IsF b) : n4 b (5 + 8 * cnt b) = (b.length : Int) - 13 - 8 * cnt b := by
  have hs := h.size
  obtain ⟨m, hm⟩ : ∃ m, m = decM b := ⟨_, rfl⟩
  have hc : m.nums.length = cnt b := by rw [hm]; simp [decM]
  have hk := h.1.data
  have e2 := h.2
  rw [← hm] at hs hk e2
  rw [← hc] at hs ⊢
  rw [← e2]
  have e : frm m = (top m ++ nb m.nums) ++ (b4 m.data.length ++ (m.data ++ b4 (crc (fbd m)))) := by
    unfold frm fbd
    simp only [List.append_assoc]
  have el : (top m ++ nb m.nums).length = 5 + 8 * m.nums.length := by rw [List.length_append, nb_len, top_len]
  have hl := frm_len m
  have g : ∀ j, (frm m).getD (5 + 8 * m.nums.length + j) 0 = (b4 m.data.length ++ (m.data ++ b4 (crc (fbd m)))).getD j 0 := fun j => by
    rw [e, List.getD_eq_getElem?_getD, List.getD_eq_getElem?_getD, List.getElem?_append_right (by omega), show 5 + 8 * m.nums.length + j - (top m ++ nb m.nums).length = j by omega]
  have g0 := g 0
  simp only [Nat.add_zero] at g0
  have hb := four_back (n := (m.data.length : Int)) ⟨by omega, by omega⟩
  unfold n4
  rw [g0, g 1, g 2, g 3, hl]
  show 16777216 * ((m.data.length : Int) / 16777216 % 256) + 65536 * ((m.data.length : Int) / 65536 % 256) + 256 * ((m.data.length : Int) / 256 % 256) + (m.data.length : Int) % 256 = _
  omega
theorem cutF {b : List Int} (h : IsF b) {k : Nat} (hk : k < b.length) : ¬ IsF (b.take k) := by
  intro h2
  have s1 := h.len
  have s2 := h2.len
  have z2 := h2.size
  have el : (b.take k).length = k := by rw [List.length_take]; omega
  rw [el] at s2 z2
  have g : ∀ j, j < k → (b.take k).getD j 0 = b.getD j 0 := fun j hj => by
    rw [List.getD_eq_getElem?_getD, List.getElem?_take, if_pos hj, ← List.getD_eq_getElem?_getD]
  have hc : cnt (b.take k) = cnt b := by unfold cnt; rw [g 4 (by omega)]
  rw [hc] at s2 z2
  have hn : n4 (b.take k) (5 + 8 * cnt b) = n4 b (5 + 8 * cnt b) := by
    unfold n4
    rw [g _ (by omega), g _ (by omega), g _ (by omega), g _ (by omega)]
  rw [hn] at s2
  omega
theorem frm_inj {m n : Mg} (hm : OkM m) (tm : TyM m) (hn : OkM n) (tn : TyM n) (h : frm m = frm n) : m = n := by rw [← dec_frm hm tm, ← dec_frm hn tn, h]
end Go.Proofs.Ytbfcgnggcgodhaa
