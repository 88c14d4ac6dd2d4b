/- Plain lists: the pieces of a text between points; that joined they are the text; that the pieces of four numerals are those numerals; Parse of a text of four numbers, and the text of what Parse takes. No program here; no conditions but those stated. -/
import Derived.Test.YtolkheelmmgnbaaDoorA4
namespace Go.Proofs.YtolkheelmmgnbaaDoor
open Go Go.RowKit

/-- The pieces of a list of bytes between points. -/
def cutL : List UInt8 → List (List UInt8)
  | [] => [[]]
  | c :: r => if c = 46 then [] :: cutL r else match cutL r with | [] => [[c]] | h :: t => (c :: h) :: t
theorem cutL_ne : ∀ s : List UInt8, cutL s ≠ []
  | [] => by simp [cutL]
  | c :: r => by
    unfold cutL
    split
    · simp
    · split <;> simp
theorem cutL_cons {c : UInt8} (h : c ≠ 46) {r x : List UInt8} {t : List (List UInt8)} (hr : cutL r = x :: t) : cutL (c :: r) = (c :: x) :: t := by
  rw [cutL, if_neg h, hr]
theorem cutL_dot (r : List UInt8) : cutL (46 :: r) = [] :: cutL r := by rw [cutL, if_pos rfl]

theorem index_dot (l : List UInt8) : Lib.index (46 :: l) [46] = 0 := by simp [Lib.index]
theorem index_other {b : UInt8} (h : b ≠ 46) (l : List UInt8) : Lib.index (b :: l) [46] = if Lib.index l [46] == -1 then -1 else Lib.index l [46] + 1 := by
  have : ([46] : List UInt8).isPrefixOf (b :: l) = false := by
    simp [List.isPrefixOf]
    exact fun e => h e.symm
  rw [Lib.index, this]
  rfl

theorem split_cut : ∀ s : List UInt8, Lib.splitK [46] 0 (s.count 46) s = cutL s
  | [] => rfl
  | b :: l => by
    have ih := split_cut l
    by_cases hb : b = 46
    · subst hb
      rw [List.count_cons_self, Lib.splitK, index_dot, cutL_dot, ← ih]
      rfl
    · rw [List.count_cons_of_ne (fun e => hb e)]
      by_cases hi : Lib.index l [46] = -1
      · have e1 : Lib.index (b :: l) [46] = -1 := by rw [index_other hb, hi]; rfl
        cases hk : l.count 46 with
        | zero =>
          rw [hk, Lib.splitK] at ih
          rw [Lib.splitK, cutL_cons hb ih.symm]
        | succ k =>
          rw [hk, Lib.splitK, hi] at ih
          rw [Lib.splitK, e1, cutL_cons hb ih.symm]
          rfl
      · have hge := Lib.index_ge l [46]
        obtain ⟨i, hi'⟩ : ∃ i : Nat, Lib.index l [46] = i := ⟨(Lib.index l [46]).toNat, by omega⟩
        have n1 : ((i : Int) == -1) = false := by simp
        have e1 : Lib.index (b :: l) [46] = (i + 1 : Nat) := by rw [index_other hb, hi', n1]; simp
        cases hk : l.count 46 with
        | zero =>
          exfalso
          rcases Lib.index_spec l [46] with ⟨h1, _⟩ | ⟨j, h1, h2, h3, _⟩
          · exact hi h1
          · have h4 : ([46] : List UInt8).isPrefixOf (l.drop j) = true := h3
            have hm : (46 : UInt8) ∈ l := by
              cases hd : l.drop j with
              | nil => rw [hd] at h4; simp at h4
              | cons x xs =>
                rw [hd] at h4
                simp at h4
                have : x ∈ l := List.mem_of_mem_drop (i := j) (by rw [hd]; simp)
                rw [h4]; exact this
            exact absurd hk (Nat.ne_of_gt (List.count_pos_iff.2 hm))
        | succ k =>
          rw [hk, Lib.splitK, hi', n1] at ih
          have n2 : (((i + 1 : Nat) : Int) == -1) = false := by simp; omega
          rw [Lib.splitK, e1, n2]
          simp only [Bool.false_eq_true, if_false, Int.toNat_natCast, Nat.add_zero, List.length_cons, List.length_nil] at ih ⊢
          rw [cutL_cons hb ih.symm]
          rfl

theorem pcs_data (s : ByteArray) : (pcs s).map (·.data.toList) = cutL s.data.toList := by
  unfold pcs
  rw [Lib.splitB_data]
  have : Lib.countB s dot = s.data.toList.count 46 := Lib.count_one 46 s.data.toList
  rw [this]
  exact split_cut s.data.toList

theorem join_two (x y : List UInt8) (t : List (List UInt8)) : Lib.join (x :: y :: t) [46] = x ++ 46 :: Lib.join (y :: t) [46] := by
  rw [Lib.join_cons, Lib.join_cons]
  simp [Lib.joinTail]
theorem join_cut : ∀ s : List UInt8, Lib.join (cutL s) [46] = s
  | [] => by simp [cutL, Lib.join_one]
  | c :: r => by
    have ih := join_cut r
    cases hr : cutL r with
    | nil => exact absurd hr (cutL_ne r)
    | cons x t =>
      rw [hr] at ih
      by_cases hc : c = 46
      · subst hc
        rw [cutL_dot, hr, join_two, ih]
        rfl
      · rw [cutL_cons hc hr]
        cases t with
        | nil => rw [Lib.join_one] at ih ⊢; rw [ih]
        | cons y t =>
          rw [join_two] at ih ⊢
          rw [← ih]
          rfl

theorem cut_plain : ∀ x : List UInt8, (46 : UInt8) ∉ x → cutL x = [x]
  | [], _ => rfl
  | c :: r, h => by
    have hc : c ≠ 46 := fun e => h (by simp [e])
    exact cutL_cons hc (cut_plain r (fun e => h (List.mem_cons_of_mem _ e)))
theorem cut_app : ∀ (x r : List UInt8), (46 : UInt8) ∉ x → cutL (x ++ 46 :: r) = x :: cutL r
  | [], r, _ => cutL_dot r
  | c :: x, r, h => by
    have hc : c ≠ 46 := fun e => h (by simp [e])
    exact cutL_cons hc (cut_app x r (fun e => h (List.mem_cons_of_mem _ e)))

/-- A numeral's bytes are digits. -/
theorem dec_digits (u : Nat) : ∀ b ∈ Lib.decDigits u, 48 ≤ b.toNat ∧ b.toNat ≤ 57 := by
  rw [Lib.decDigits_eq]
  intro b hb
  obtain ⟨t, _, rfl⟩ := List.mem_map.1 hb
  unfold Lib.dg
  have : u / 10 ^ (Lib.nDigits u - 1 - t) % 10 < 10 := Nat.mod_lt _ (by decide)
  rw [UInt8.toNat_ofNat']
  omega
theorem dec_nodot (u : Nat) : (46 : UInt8) ∉ Lib.decDigits u := by
  intro h
  have := dec_digits u 46 h
  simp at this

theorem dec_three {u : Nat} (h1 : 100 ≤ u) (h2 : u < 1000) : Lib.decDigits u = [UInt8.ofNat (48 + u / 100), UInt8.ofNat (48 + u / 10 % 10), UInt8.ofNat (48 + u % 10)] := by
  rw [Lib.decDigits, dif_neg (by omega), Lib.decDigits_two (by omega) (by omega)]
  have : u / 10 / 10 = u / 100 := by omega
  rw [this]
  rfl
theorem par_one : ∀ u : Fin 10, Lib.parseUintB 8 [UInt8.ofNat (48 + u.val)] = .ok u.val := by decide +kernel
theorem par_two : ∀ u : Fin 100, 10 ≤ u.val → Lib.parseUintB 8 [UInt8.ofNat (48 + u.val / 10), UInt8.ofNat (48 + u.val % 10)] = .ok u.val := by decide +kernel
theorem par_three : ∀ u : Fin 256, 100 ≤ u.val → Lib.parseUintB 8 [UInt8.ofNat (48 + u.val / 100), UInt8.ofNat (48 + u.val / 10 % 10), UInt8.ofNat (48 + u.val % 10)] = .ok u.val := by decide +kernel
theorem par_dec (u : Nat) (h : u < 256) : Lib.parseUintB 8 (Lib.decDigits u) = .ok u := by
  by_cases h1 : u < 10
  · rw [Lib.decDigits_one h1]; exact par_one ⟨u, h1⟩
  by_cases h2 : u < 100
  · rw [Lib.decDigits_two h1 h2]; exact par_two ⟨u, h2⟩ (show 10 ≤ u by omega)
  · rw [dec_three (by omega) (by omega)]; exact par_three ⟨u, h⟩ (show 100 ≤ u by omega)
theorem dec_len (u : Nat) (h : u < 256) : (Lib.decDigits u).length ≤ 3 := by
  by_cases h1 : u < 10
  · rw [Lib.decDigits_one h1]; simp
  by_cases h2 : u < 100
  · rw [Lib.decDigits_two h1 h2]; simp
  · rw [dec_three (by omega) (by omega)]; simp
theorem num_dec (u : Nat) (h : u < 256) : num? (decS u) = some u := by
  have e : (decS (u : Int)).data.toList = Lib.decDigits u := rfl
  unfold num?
  rw [e, par_dec u h]
  simp

theorem text_data (a b c d : Nat) : textL a b c d = Lib.decDigits a ++ 46 :: (Lib.decDigits b ++ 46 :: (Lib.decDigits c ++ 46 :: Lib.decDigits d)) := by
  unfold textL
  rw [join_two, join_two, join_two, Lib.join_one]
  rfl
theorem cut_text (a b c d : Nat) : cutL (textL a b c d) = [Lib.decDigits a, Lib.decDigits b, Lib.decDigits c, Lib.decDigits d] := by
  rw [text_data, cut_app _ _ (dec_nodot a), cut_app _ _ (dec_nodot b), cut_app _ _ (dec_nodot c), cut_plain _ (dec_nodot d)]
theorem bytes_eq {a b : ByteArray} (h : a.data.toList = b.data.toList) : a = b := by
  obtain ⟨⟨x⟩⟩ := a
  obtain ⟨⟨y⟩⟩ := b
  simp only at h
  rw [h]
theorem pcs_text (a b c d : Nat) : pcs ⟨(textL a b c d).toArray⟩ = [decS a, decS b, decS c, decS d] := by
  have h := pcs_data ⟨(textL a b c d).toArray⟩
  rw [show (⟨(textL a b c d).toArray⟩ : ByteArray).data.toList = textL a b c d from rfl, cut_text] at h
  have hl : (pcs ⟨(textL a b c d).toArray⟩).length = 4 := by simpa using congrArg List.length h
  generalize pcs ⟨(textL a b c d).toArray⟩ = l at h hl ⊢
  match l, hl with
  | [p0, p1, p2, p3], _ =>
    simp only [List.map_cons, List.map_nil, List.cons.injEq, and_true] at h
    rw [bytes_eq (a := p0) (b := decS a) h.1, bytes_eq (a := p1) (b := decS b) h.2.1, bytes_eq (a := p2) (b := decS c) h.2.2.1, bytes_eq (a := p3) (b := decS d) h.2.2.2]

/-- Parse of a text is the address. -/
theorem parse_text (a b c d : Nat) (ha : a < 256) (hb : b < 256) (hc : c < 256) (hd : d < 256) : parseV ⟨(textL a b c d).toArray⟩ = some (addr4 a b c d) := by
  have hl : (⟨(textL a b c d).toArray⟩ : ByteArray).size ≤ 15 := by
    have e : (⟨(textL a b c d).toArray⟩ : ByteArray).size = (textL a b c d).length := by simp [ByteArray.size]
    rw [e, text_data]
    have := dec_len a ha
    have := dec_len b hb
    have := dec_len c hc
    have := dec_len d hd
    simp only [List.length_append, List.length_cons]
    omega
  rw [parseV, if_neg (by omega), pcs_text]
  simp only [parseP, num_dec a ha, num_dec b hb, num_dec c hc, num_dec d hd]

/-- The text of what Parse takes is the text. -/
theorem text_parse {s : ByteArray} {x : Int} (h : parseV s = some x) : ∃ a b c d : Nat, a < 256 ∧ b < 256 ∧ c < 256 ∧ d < 256 ∧ x = addr4 a b c d ∧ s = ⟨(textL a b c d).toArray⟩ := by
  unfold parseV at h
  split at h
  · cases h
  unfold parseP at h
  split at h
  · rename_i p0 p1 p2 p3 hp
    split at h
    · rename_i a b c d h0 h1 h2 h3
      obtain ⟨-, e0, l0⟩ := num_ok h0
      obtain ⟨-, e1, l1⟩ := num_ok h1
      obtain ⟨-, e2, l2⟩ := num_ok h2
      obtain ⟨-, e3, l3⟩ := num_ok h3
      refine ⟨a, b, c, d, by omega, by omega, by omega, by omega, (Option.some.inj h).symm, ?_⟩
      apply bytes_eq
      have hj := join_cut s.data.toList
      rw [← pcs_data, hp] at hj
      rw [← hj, e0, e1, e2, e3]
      rfl
    · cases h
  · cases h
end Go.Proofs.YtolkheelmmgnbaaDoor
