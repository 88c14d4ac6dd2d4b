/- Plain facts for layer 3, no program: what bytes a packet has, how they are read again, that a changed byte is told. No conditions but those stated. -/
import Derived.Test.YtfbmeoiaedlgoaaRow
namespace Go.Proofs.Ytfbmeoiaedlgoaa
open Go Go.RowKit
set_option linter.unusedVariables false
set_option linter.unusedSimpArgs false

/-- A packet laid open. -/
structure Pk where
  tos : Int
  id : Int
  ttl : Int
  proto : Int
  src : Int
  sp : Int
  dst : Int
  dp : Int
  seq : Int
  ack : Int
  flags : Int
  win : Int
  data : List Int

def b2 (n : Int) : List Int := [n / 256 % 256, n % 256]
def b4 (n : Int) : List Int := [n / 16777216 % 256, n / 65536 % 256, n / 256 % 256, n % 256]
/-- The first header, ahead of n bytes, with the sum c. -/
def hdr (p : Pk) (n c : Int) : List Int := [69, p.tos % 256] ++ (b2 (20 + n) ++ (b2 p.id ++ ([64, 0] ++ ([p.ttl % 256, p.proto % 256] ++ (b2 c ++ (b4 p.src ++ b4 p.dst))))))
def segU (p : Pk) (c : Int) : List Int := b2 p.sp ++ (b2 p.dp ++ (b2 (8 + p.data.length) ++ (b2 c ++ p.data)))
def segT (p : Pk) (c : Int) : List Int := b2 p.sp ++ (b2 p.dp ++ (b4 p.seq ++ (b4 p.ack ++ ([80, p.flags % 256] ++ (b2 p.win ++ (b2 c ++ ([0, 0] ++ p.data)))))))
def seg (p : Pk) (c : Int) : List Int := if p.proto = 17 then segU p c else segT p c
def pre (p : Pk) (n : Int) : List Int := b4 p.src ++ (b4 p.dst ++ ([0, p.proto % 256] ++ b2 n))
def segLen (p : Pk) : Nat := (if p.proto = 17 then 8 else 20) + p.data.length
/-- The two sums. -/
def rawSum (p : Pk) : Int := 65535 - car (ws (pre p (segLen p) ++ seg p 0))
def segSum (p : Pk) : Int := if p.proto = 17 ∧ rawSum p = 0 then 65535 else rawSum p
def ipSum (p : Pk) : Int := 65535 - car (ws (hdr p (segLen p) 0))
/-- A packet's bytes. -/
def bts (p : Pk) : List Int := hdr p (segLen p) (ipSum p) ++ seg p (segSum p)

/-- In form. -/
structure Ok (p : Pk) : Prop where
  tos : 0 ≤ p.tos ∧ p.tos ≤ 255
  id : 0 ≤ p.id ∧ p.id ≤ 65535
  ttl : 1 ≤ p.ttl ∧ p.ttl ≤ 255
  proto : p.proto = 6 ∨ p.proto = 17
  sp : 0 ≤ p.sp ∧ p.sp ≤ 65535
  dp : 0 ≤ p.dp ∧ p.dp ≤ 65535
  flags : 0 ≤ p.flags ∧ p.flags ≤ 255
  win : 0 ≤ p.win ∧ p.win ≤ 65535
  udp : p.proto = 17 → p.seq = 0 ∧ p.ack = 0 ∧ p.flags = 0 ∧ p.win = 0
  len : segLen p ≤ 1480
/-- What the types say. -/
structure Typed (p : Pk) : Prop where
  src : 0 ≤ p.src ∧ p.src < 4294967296
  dst : 0 ≤ p.dst ∧ p.dst < 4294967296
  seq : 0 ≤ p.seq ∧ p.seq < 4294967296
  ack : 0 ≤ p.ack ∧ p.ack < 4294967296
  data : fit p.data

theorem fit_nil : fit [] := by intro b hb; cases hb
theorem fit_cons {x : Int} {l : List Int} (hx : 0 ≤ x ∧ x < 256) (h : fit l) : fit (x :: l) := by
  intro b hb
  rcases List.mem_cons.1 hb with rfl | hb
  · exact hx
  · exact h b hb
theorem fit_b2 (n : Int) : fit (b2 n) := fit_cons (by omega) (fit_cons (by omega) fit_nil)
theorem fit_b4 (n : Int) : fit (b4 n) := fit_cons (by omega) (fit_cons (by omega) (fit_cons (by omega) (fit_cons (by omega) fit_nil)))
theorem fit_hdr (p : Pk) (n c : Int) : fit (hdr p n c) := by
  unfold hdr
  exact fit_app (fit_cons (by omega) (fit_cons (by omega) fit_nil)) (fit_app (fit_b2 _) (fit_app (fit_b2 _) (fit_app (fit_cons (by omega) (fit_cons (by omega) fit_nil)) (fit_app (fit_cons (by omega) (fit_cons (by omega) fit_nil)) (fit_app (fit_b2 _) (fit_app (fit_b4 _) (fit_b4 _)))))))
theorem fit_segU {p : Pk} (h : fit p.data) (c : Int) : fit (segU p c) := by
  unfold segU
  exact fit_app (fit_b2 _) (fit_app (fit_b2 _) (fit_app (fit_b2 _) (fit_app (fit_b2 _) h)))
theorem fit_segT {p : Pk} (h : fit p.data) (c : Int) : fit (segT p c) := by
  unfold segT
  exact fit_app (fit_b2 _) (fit_app (fit_b2 _) (fit_app (fit_b4 _) (fit_app (fit_b4 _) (fit_app (fit_cons (by omega) (fit_cons (by omega) fit_nil)) (fit_app (fit_b2 _) (fit_app (fit_b2 _) (fit_app (fit_cons (by omega) (fit_cons (by omega) fit_nil)) h)))))))
theorem fit_seg {p : Pk} (h : fit p.data) (c : Int) : fit (seg p c) := by
  unfold seg
  split
  · exact fit_segU h c
  · exact fit_segT h c
theorem fit_pre (p : Pk) (n : Int) : fit (pre p n) := by
  unfold pre
  exact fit_app (fit_b4 _) (fit_app (fit_b4 _) (fit_app (fit_cons (by omega) (fit_cons (by omega) fit_nil)) (fit_b2 _)))
theorem fit_bts {p : Pk} (h : fit p.data) : fit (bts p) := fit_app (fit_hdr _ _ _) (fit_seg h _)

theorem hdr_len (p : Pk) (n c : Int) : (hdr p n c).length = 20 := rfl
theorem pre_len (p : Pk) (n : Int) : (pre p n).length = 12 := rfl
theorem segU_len (p : Pk) (c : Int) : (segU p c).length = 8 + p.data.length := by simp [segU, b2]; omega
theorem segT_len (p : Pk) (c : Int) : (segT p c).length = 20 + p.data.length := by simp [segT, b2, b4]; omega
theorem seg_len (p : Pk) (c : Int) : (seg p c).length = segLen p := by
  unfold seg segLen
  split
  · exact segU_len p c
  · exact segT_len p c
theorem bts_len (p : Pk) : (bts p).length = 20 + segLen p := by
  unfold bts
  rw [List.length_append, hdr_len, seg_len]

/-- The sums put in their places. -/
theorem hdr_set (p : Pk) (n c : Int) : setw (hdr p n 0) 5 (c / 256 % 256) (c % 256) = hdr p n c := rfl
theorem segU_set (p : Pk) (c : Int) : setw (segU p 0) 3 (c / 256 % 256) (c % 256) = segU p c := rfl
theorem segT_set (p : Pk) (c : Int) : setw (segT p 0) 8 (c / 256 % 256) (c % 256) = segT p c := rfl

theorem car_mod {s : Int} (h : 0 ≤ s) : car s % 65535 = s % 65535 := by
  unfold car
  split <;> omega
theorem car_w16 {s : Int} (h : 0 ≤ s) : w16 (65535 - car s) := by
  have := car_fits h
  unfold w16
  omega
theorem ws_hdr (p : Pk) (n c : Int) (hc : w16 c) : ws (hdr p n c) = ws (hdr p n 0) + c := by
  unfold w16 at hc
  have h := ws_setw (hdr p n 0) 5 (c / 256 % 256) (c % 256) (by rw [hdr_len]; omega)
  rw [hdr_set, show wordAt (hdr p n 0) 5 = 0 from rfl] at h
  omega
theorem ws_segU (p : Pk) (c : Int) (hc : w16 c) : ws (segU p c) = ws (segU p 0) + c := by
  unfold w16 at hc
  have h := ws_setw (segU p 0) 3 (c / 256 % 256) (c % 256) (by rw [segU_len]; omega)
  rw [segU_set, show wordAt (segU p 0) 3 = 0 from rfl] at h
  omega
theorem ws_segT (p : Pk) (c : Int) (hc : w16 c) : ws (segT p c) = ws (segT p 0) + c := by
  unfold w16 at hc
  have h := ws_setw (segT p 0) 8 (c / 256 % 256) (c % 256) (by rw [segT_len]; omega)
  rw [segT_set, show wordAt (segT p 0) 8 = 0 from rfl] at h
  omega
theorem ws_seg (p : Pk) (c : Int) (hc : w16 c) : ws (seg p c) = ws (seg p 0) + c := by
  unfold seg
  split
  · exact ws_segU p c hc
  · exact ws_segT p c hc
theorem ipSum_w16 (p : Pk) : w16 (ipSum p) := car_w16 (ws_fits _ (fit_hdr _ _ _)).1
theorem rawSum_w16 {p : Pk} (h : fit p.data) : w16 (rawSum p) := car_w16 (ws_fits _ (fit_app (fit_pre _ _) (fit_seg h _))).1
theorem segSum_w16 {p : Pk} (h : fit p.data) : w16 (segSum p) := by
  unfold segSum
  split
  · unfold w16; omega
  · exact rawSum_w16 h
theorem hdr_good (p : Pk) : ws (hdr p (segLen p) (ipSum p)) % 65535 = 0 := by
  rw [ws_hdr _ _ _ (ipSum_w16 p)]
  unfold ipSum
  have h := (ws_fits _ (fit_hdr p (segLen p) 0)).1
  have h2 := car_mod h
  omega
theorem seg_good {p : Pk} (h : fit p.data) : ws (pre p (segLen p) ++ seg p (segSum p)) % 65535 = 0 := by
  rw [ws_app_even _ _ (by rw [pre_len]), ws_seg _ _ (segSum_w16 h)]
  have h1 := (ws_fits _ (fit_app (fit_pre p (segLen p)) (fit_seg h 0))).1
  have h2 := car_mod h1
  rw [ws_app_even _ _ (by rw [pre_len])] at h1 h2
  have e : rawSum p = 65535 - car (ws (pre p (segLen p)) + ws (seg p 0)) := by unfold rawSum; rw [ws_app_even _ _ (by rw [pre_len])]
  unfold segSum
  split
  · rename_i h3
    rw [e] at h3
    omega
  · rw [e]
    omega

/-- Numbers in bytes. -/
def n2 (b : List Int) (i : Nat) : Int := 256 * b.getD i 0 + b.getD (i + 1) 0
def n4 (b : List Int) (i : Nat) : Int := 16777216 * b.getD i 0 + 65536 * b.getD (i + 1) 0 + 256 * b.getD (i + 2) 0 + b.getD (i + 3) 0
/-- The packet that bytes say. -/
def dec (b : List Int) : Pk :=
  { tos := b.getD 1 0, id := n2 b 4, ttl := b.getD 8 0, proto := b.getD 9 0, src := n4 b 12, sp := n2 b 20, dst := n4 b 16, dp := n2 b 22,
    seq := if b.getD 9 0 = 6 then n4 b 24 else 0, ack := if b.getD 9 0 = 6 then n4 b 28 else 0, flags := if b.getD 9 0 = 6 then b.getD 33 0 else 0, win := if b.getD 9 0 = 6 then n2 b 34 else 0,
    data := b.drop (if b.getD 9 0 = 17 then 28 else 40) }
theorem two_back {n : Int} (h : 0 ≤ n ∧ n ≤ 65535) : 256 * (n / 256 % 256) + n % 256 = n := by omega
theorem four_back {n : Int} (h : 0 ≤ n ∧ n < 4294967296) : 16777216 * (n / 16777216 % 256) + 65536 * (n / 65536 % 256) + 256 * (n / 256 % 256) + n % 256 = n := by omega
theorem one_back {n : Int} (h : 0 ≤ n ∧ n ≤ 255) : n % 256 = n := by omega
theorem dec_bts {p : Pk} (h : Ok p) (t : Typed p) : dec (bts p) = p := by
  have hl := h.len
  rcases h.proto with hp | hp
  · have e : bts p = hdr p (segLen p) (ipSum p) ++ segT p (segSum p) := by unfold bts seg; rw [if_neg (by omega)]
    have e9 : (bts p).getD 9 0 = 6 := by rw [e]; show p.proto % 256 = 6; omega
    obtain ⟨tos, id, ttl, proto, src, sp, dst, dp, seq, ack, flags, win, data⟩ := p
    simp only at hp
    unfold dec
    rw [if_pos e9, if_pos e9, if_pos e9, if_pos e9, if_neg (by rw [e9]; decide), e9, e]
    simp only [Pk.mk.injEq]
    refine ⟨one_back h.tos, two_back h.id, one_back ⟨by have := h.ttl.1; exact Int.le_trans (by decide) this, h.ttl.2⟩, hp.symm, four_back t.src, two_back h.sp, four_back t.dst, two_back h.dp, four_back t.seq, four_back t.ack, one_back h.flags, two_back h.win, rfl⟩
  · have e : bts p = hdr p (segLen p) (ipSum p) ++ segU p (segSum p) := by unfold bts seg; rw [if_pos hp]
    have e9 : (bts p).getD 9 0 = 17 := by rw [e]; show p.proto % 256 = 17; omega
    obtain ⟨u1, u2, u3, u4⟩ := h.udp hp
    obtain ⟨tos, id, ttl, proto, src, sp, dst, dp, seq, ack, flags, win, data⟩ := p
    simp only at hp u1 u2 u3 u4
    unfold dec
    rw [if_neg (by rw [e9]; decide), if_neg (by rw [e9]; decide), if_neg (by rw [e9]; decide), if_neg (by rw [e9]; decide), if_pos e9, e9, e]
    simp only [Pk.mk.injEq]
    refine ⟨one_back h.tos, two_back h.id, one_back ⟨by have := h.ttl.1; exact Int.le_trans (by decide) this, h.ttl.2⟩, hp.symm, four_back t.src, two_back h.sp, four_back t.dst, two_back h.dp, u1.symm, u2.symm, u3.symm, u4.symm, rfl⟩
theorem getD_fit {b : List Int} (hf : fit b) (i : Nat) : 0 ≤ b.getD i 0 ∧ b.getD i 0 < 256 := by
  by_cases h : i < b.length
  · exact fit_at hf h
  · rw [List.getD_eq_getElem?_getD, List.getElem?_eq_none (by omega)]
    decide
theorem dec_typed {b : List Int} (hf : fit b) : Typed (dec b) := by
  have g := getD_fit hf
  have q : ∀ i, 0 ≤ n4 b i ∧ n4 b i < 4294967296 := fun i => by
    have := g i; have := g (i + 1); have := g (i + 2); have := g (i + 3)
    unfold n4
    omega
  refine ⟨q 12, q 16, ?_, ?_, fun x hx => hf x (List.mem_of_mem_drop hx)⟩
  · unfold dec; simp only; split
    · exact q 24
    · decide
  · unfold dec; simp only; split
    · exact q 28
    · decide
/-- Bytes are a packet's. -/
def Is (b : List Int) : Prop := Ok (dec b) ∧ bts (dec b) = b
theorem Is.of {b : List Int} {p : Pk} (h : Ok p) (t : Typed p) (e : bts p = b) : Is b ∧ dec b = p := by
  subst e
  have e := dec_bts h t
  exact ⟨by unfold Is; rw [e]; exact ⟨h, rfl⟩, e⟩

/-- One byte changed. -/
theorem ws_set : ∀ (l : List Int) (i : Nat) (v : Int), i < l.length → ws (l.set i v) = ws l + (v - l.getD i 0) * (if i % 2 = 0 then 256 else 1)
  | [], _, _, h => by simp at h
  | [a], 0, v, _ => by simp [ws]; omega
  | [a], i + 1, _, h => by simp at h
  | a :: b :: r, 0, v, _ => by simp [ws]; omega
  | a :: b :: r, 1, v, _ => by simp [ws]; omega
  | a :: b :: r, i + 2, v, h => by
    have ih := ws_set r i v (by simp at h; omega)
    have e1 : (a :: b :: r).set (i + 2) v = a :: b :: r.set i v := rfl
    have e2 : (a :: b :: r).getD (i + 2) 0 = r.getD i 0 := rfl
    rw [e1, e2, show (i + 2) % 2 = i % 2 by omega]
    simp only [ws, ih]
    omega
theorem set_bad {l : List Int} (hf : fit l) {i : Nat} {v : Int} (hi : i < l.length) (hv : 0 ≤ v ∧ v < 256) (hne : v ≠ l.getD i 0) (h : ws l % 65535 = 0) : ws (l.set i v) % 65535 ≠ 0 := by
  rw [ws_set l i v hi]
  have := fit_at hf hi
  split <;> omega
/-- What is summed behind the first header, out of the bytes alone. -/
def psd (b : List Int) : List Int := (b.drop 12).take 8 ++ ([0, b.getD 9 0] ++ b2 ((b.length - 20 : Nat) : Int))
theorem bts_take (p : Pk) : (bts p).take 20 = hdr p (segLen p) (ipSum p) := by
  unfold bts
  rw [List.take_append_of_le_length (by rw [hdr_len]; omega)]
  rfl
theorem bts_drop (p : Pk) : (bts p).drop 20 = seg p (segSum p) := by
  unfold bts
  rw [List.drop_append_of_le_length (by rw [hdr_len]; omega)]
  rfl
theorem bts_psd (p : Pk) : psd (bts p) = pre p (segLen p) := by
  unfold psd
  rw [bts_len, show 20 + segLen p - 20 = segLen p by omega]
  rfl
theorem Is.sums {b : List Int} (h : Is b) (hf : fit b) : ws (b.take 20) % 65535 = 0 ∧ ws (psd b ++ b.drop 20) % 65535 = 0 := by
  have t := dec_typed hf
  obtain ⟨_, e⟩ := h
  obtain ⟨p, hp⟩ : ∃ p, p = dec b := ⟨_, rfl⟩
  rw [← hp] at e t
  subst e
  rw [bts_take, bts_psd, bts_drop]
  exact ⟨hdr_good p, seg_good t.data⟩
theorem slip {b : List Int} (h : Is b) (hf : fit b) {i : Nat} {v : Int} (hi : i < b.length) (hv : 0 ≤ v ∧ v < 256) (hne : v ≠ b.getD i 0) : ¬ Is (b.set i v) := by
  intro h2
  have s1 := h.sums hf
  have s2 := h2.sums (fit_set hf i hv)
  by_cases h20 : i < 20
  · have e : (b.set i v).take 20 = (b.take 20).set i v := List.take_set
    rw [e] at s2
    refine set_bad (fit_take hf 20) (by rw [List.length_take]; omega) hv ?_ s1.1 s2.1
    rw [List.getD_eq_getElem?_getD, List.getElem?_take, if_pos h20, ← List.getD_eq_getElem?_getD]
    exact hne
  · have e1 : (b.set i v).drop 20 = (b.drop 20).set (i - 20) v := by rw [List.drop_set, if_neg h20]
    have e2 : psd (b.set i v) = psd b := by
      unfold psd
      rw [List.length_set, List.getD_eq_getElem?_getD, List.getElem?_set_ne (by omega), ← List.getD_eq_getElem?_getD, List.drop_set, if_neg (by omega), List.take_set, List.set_eq_of_length_le (by rw [List.length_take, List.length_drop]; omega)]
    have e3 : psd b ++ (b.drop 20).set (i - 20) v = (psd b ++ b.drop 20).set ((psd b).length + (i - 20)) v := by
      rw [List.set_append_right _ _ (by omega), Nat.add_sub_cancel_left]
    rw [e1, e2, e3] at s2
    have hfp : fit (psd b) := fit_app (fun x hx => hf x (List.mem_of_mem_drop (List.mem_of_mem_take hx))) (fit_app (fit_cons (by omega) (fit_cons (getD_fit hf 9) fit_nil)) (fit_b2 _))
    refine set_bad (fit_app hfp (fun x hx => hf x (List.mem_of_mem_drop hx))) (by rw [List.length_append, List.length_drop]; omega) hv ?_ s1.2 s2.2
    rw [List.getD_eq_getElem?_getD, List.getElem?_append_right (by omega), Nat.add_sub_cancel_left, List.getElem?_drop, show 20 + (i - 20) = i by omega, ← List.getD_eq_getElem?_getD]
    exact hne
/-- Its length stands in it. -/
theorem Is.size {b : List Int} (h : Is b) : n2 b 2 = b.length ∧ 28 ≤ b.length ∧ b.length ≤ 1500 := by
  obtain ⟨h1, e⟩ := h
  obtain ⟨p, hp⟩ : ∃ p, p = dec b := ⟨_, rfl⟩
  rw [← hp] at h1 e
  subst e
  have hl := h1.len
  have e2 : n2 (bts p) 2 = 256 * ((20 + (segLen p : Int)) / 256 % 256) + (20 + (segLen p : Int)) % 256 := rfl
  rw [e2, bts_len]
  have : 8 ≤ segLen p := by unfold segLen; split <;> omega
  omega
end Go.Proofs.Ytfbmeoiaedlgoaa
