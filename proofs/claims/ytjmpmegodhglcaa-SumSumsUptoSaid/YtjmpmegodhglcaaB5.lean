/- An append from whatever row came in; Sum of one row, of two and of three; the contract of SumParts. Conditions: the rows hold bytes, at most 2^21 of them. -/
import Derived.Test.YtjmpmegodhglcaaB1
import Derived.Laws.AppendOwnNone
namespace Go.Proofs.Ytjmpmegodhglcaa
open Go Go.RowKit

/-- 'append(v, x...)' onto a row of the call's own, x nil, empty or not. -/
theorem append_any {P : Program} {w : World} {ops : Array Oper} {rest : List Oper} {o : Oper} {a : Act} {Q : Exit → Act → World → Prop} (hgd : o.guard = Option.none) (s x : Operand) (t : TypeId)
    (ho : o.op = .call { callee := .builtin .append, args := #[s, x], argTypes := #[t, t] })
    (base : Nat) (e : TypeId) (i : TypeInfo) (z : Value) (size bytes : Nat) (ht : P.underlying t = some (.slice e)) (hi : P.info? e = some i) (hz : i.zero = some z)
    (hsize : i.size = size) (hby : i.bytes = bytes) (hzs : z.cells.size = size) (hsz : 0 < size)
    (v : Value) (n : Nat) (xs : List Value) (hs : a.eval s = v) (hown : w.ownsRow base e size v n xs)
    (ao : Option Addr) (m c : Nat) (news : List Value) (hx : a.eval x = .slice ao m c) (hnone : ao = none → m = 0 ∧ c = 0) (hl : news.length = m * size)
    (hnews : ∀ ad, ao = some ad → ∀ j u, news[j]? = some u → w.cell? (ad.add j) = some u) (h1 : ∀ u ∈ news, u.oneCell' = true)
    (h63 : n + m ≤ maxLen) (hbytes : (n + m) * bytes ≤ 140737488355328) (hbase : base ≤ w.heap.size)
    (h : ∀ v' w', w'.ownsRow base e size v' (n + m) (xs ++ news) → w.grownBy w' v.ownBlock → wpList P ops Q rest (a.put o.dst v') w') : wpList P ops Q (o :: rest) a w := by
  cases ao with
  | some ad => exact wpList_append_own w hgd s x t ho base e i z size bytes ht hi hz hsize hby hzs hsz v n xs hs hown ad m c news hx hl (hnews ad rfl) h1 h63 hbytes hbase fun v' w' h2 h3 _ => h v' w' h2 h3
  | none =>
    obtain ⟨rfl, rfl⟩ := hnone rfl
    have hnews : news = [] := List.eq_nil_of_length_eq_zero (by simpa using hl)
    subst hnews
    refine wpList_append_own_none hgd s x t ho base e i size ht hi v n xs hs hown hx ?_
    exact h v w (by simpa using hown) (World.grownBy.refl w _)

/-- A row of bytes that came in. -/
structure In (w : World) (a : Option Addr) (n cap : Nat) (l : List Int) : Prop where
  len : l.length = n
  room : n ≤ cap
  none : a = Option.none → cap = 0
  here : At w (.slice a n cap) l
  fit : fit l
theorem In.below {w w' : World} {a : Option Addr} {n cap : Nat} {l : List Int} (h : In w a n cap l) (hb : Below w.heap.size w w') : In w' a n cap l := ⟨h.len, h.room, h.none, h.here.below hb, h.fit⟩
theorem At.take {w : World} {a : Option Addr} {n cap : Nat} {l : List Int} (h : At w (.slice a n cap) l) (hn : l.length = n) (k : Nat) (hk : k ≤ n) : At w (.slice a k cap) (l.take k) := by
  have hlk : (l.take k).length = k := by rw [List.length_take]; omega
  obtain ⟨a', cap', e, hA⟩ := h
  cases e
  refine ⟨a, cap, by rw [hlk], ?_⟩
  rcases hA with rfl | ⟨b, off, ha, hc⟩
  · exact .inl (by simp)
  · refine .inr ⟨b, off, ha, fun j hj => ?_⟩
    rw [hlk] at hj
    rw [hc j (by omega), List.getD_eq_getElem?_getD, List.getD_eq_getElem?_getD, List.getElem?_take, if_pos hj]
theorem In.take {w : World} {a : Option Addr} {n cap : Nat} {l : List Int} (h : In w a n cap l) (k : Nat) (hk : k ≤ n) : In w a k cap (l.take k) :=
  ⟨by rw [List.length_take, h.len]; omega, Nat.le_trans hk h.room, h.none, h.here.take h.len k hk, fit_take h.fit k⟩
/-- The cells that an append takes from it. -/
theorem In.cells {w : World} {a : Option Addr} {n cap : Nat} {l : List Int} (h : In w a n cap l) : ∀ ad, a = some ad → ∀ j u, (u8s l)[j]? = some u → w.cell? (ad.add j) = some u := by
  intro ad ha j u hu
  obtain ⟨a', cap', e, hA⟩ := h.here
  cases e
  rcases hA with rfl | ⟨b, off, ha', hc⟩
  · simp [u8s] at hu
  · rw [ha] at ha'
    cases ha'
    exact u8s_cells hc j u hu
theorem In.zero {w : World} {a : Option Addr} {n cap : Nat} {l : List Int} (h : In w a n cap l) : a = Option.none → n = 0 ∧ cap = 0 := fun e => by
  have h1 := h.none e
  have h2 := h.room
  exact ⟨by omega, h1⟩

theorem sum1 {W : World} {u : Value} {p : List Int} (h : At W u p) (hf : fit p) (hl : p.length ≤ 4294967296) (n : Nat) (hn : n = W.heap.size) :
    Calls Try.prog 11 #[.slice (some ⟨n, 0, none⟩) 1 1] (W.alloc (.cells #[u] 22)) fun e w' => e = .returned (.int .u16 (65535 - car (ws p))) ∧ (W.alloc (.cells #[u] 22)) = w' := by
  have H := sum_any [p] _ _ (Parts.one h 22 n hn) (by simpa using hf) (by simpa using hl) (by simp)
  rw [show [p].flatten = p by simp] at H
  exact H
theorem sum2 {W : World} {u v : Value} {p q : List Int} (h : At W u p) (h' : At W v q) (hf : fit p) (hf' : fit q) (hl : p.length + q.length ≤ 4294967296) (n : Nat) (hn : n = W.heap.size) :
    Calls Try.prog 11 #[.slice (some ⟨n, 0, none⟩) 2 2] (W.alloc (.cells #[u, v] 22)) fun e w' => e = .returned (.int .u16 (65535 - car (ws (p ++ q)))) ∧ (W.alloc (.cells #[u, v] 22)) = w' := by
  have H := sum_any [p, q] _ _ (Parts.two h h' 22 n hn) (by simpa using fit_app hf hf') (by simpa using hl) (by simp)
  rw [show [p, q].flatten = p ++ q by simp] at H
  exact H

theorem own_form {w : World} {B : Nat} {e : TypeId} {size n : Nat} {v : Value} {xs : List Value} (h : w.ownsRow B e size v n xs) : ∃ ao c, v = .slice ao n c := by
  rcases h.2 with ⟨hv, h0⟩ | ⟨g, cap, cur, hv, hb, _⟩
  · exact ⟨none, 0, by rw [hv, h0]⟩
  · exact ⟨_, _, hv⟩
theorem u8s_app (l m : List Int) : u8s l ++ u8s m = u8s (l ++ m) := by unfold u8s; rw [List.map_append]

set_option maxRecDepth 100000 in
theorem parts_any (la lb : List Int) (aa ab : Option Addr) (na nb ca cb : Nat) (w : World) (hA : In w aa na ca la) (hB : In w ab nb cb lb) (h1 : na ≤ 2097152) (h2 : nb ≤ 2097152) :
    Calls Try.prog 7 #[.slice aa na ca, .slice ab nb cb] w fun e w' => e = .returned (.bool true) ∧ Below w.heap.size w w' := by
  obtain ⟨i0, hi0, hz0, hz1, hz2⟩ := info_parts info5
  obtain ⟨K, hK⟩ : ∃ K, na / 2 = K := ⟨_, rfl⟩
  obtain ⟨M, hM⟩ : ∃ M, nb / 2 = M := ⟨_, rfl⟩
  have hKi : (na : Int) / 2 = (K : Int) := by omega
  have hMi : (nb : Int) / 2 = (M : Int) := by omega
  have hKn : K * 2 ≤ na := by omega
  have hMn : M * 2 ≤ nb := by omega
  have hca := hA.room
  have hcb := hB.room
  have HX := Lib.hid (hA.take (K * 2) hKn)
  have HY := Lib.hid (hB.take (M * 2) hMn)
  have HB := Lib.hid hB
  obtain ⟨x, hx⟩ : ∃ x, x = la.take (K * 2) := ⟨_, rfl⟩
  obtain ⟨y, hy⟩ : ∃ y, y = lb.take (M * 2) := ⟨_, rfl⟩
  rw [← hx] at HX
  rw [← hy] at HY
  clear hA hB hK hM hx hy
  go_enter Try.func7, Try.ntmps7
  go_wp2_with (go_at_call 9; refine (alive_any w).mono ?_; rintro e w1 ⟨rfl, hb⟩)
  have HB1 := Lib.hid hb
  clear hb
  go_quiet (fail)
  have HW := Lib.hid (below_drewN HB1.out nq)
  have own0 := World.ownsRow_made (e := 5) (size := 1) (w1.drewN nq) #[] 0 HW.out.size (by decide) rfl
  have HX1 := Lib.hid ((HX.out.below HW.out).below (bl_al (Below.refl _ _) (.cells #[] 5)))
  go_wp2_with (at_builtin; refine append_any rfl (.tmp 22) (.tmp 23) 22 rfl w.heap.size 5 i0 (.int .u8 0) 1 1 Try.underlying22 hi0 hz0 hz1 hz2 rfl (by decide) _ 0 [] rfl own0 aa (K * 2) ca (u8s x) rfl HX1.out.zero ?c1 HX1.out.cells (u8s_one x) ?c2 ?c3 ?c4 ?_)
  case c1 => unfold u8s; rw [List.length_map, HX.out.len]; omega
  case c2 => unfold maxLen; omega
  case c3 => omega
  case c4 => have := HW.out.size; simp at this ⊢; omega
  intro v1 w2 hown hgrow
  have HB2 := Lib.hid ((HW.out.alloc HW.out.size (.cells #[] 5)).grown hgrow (by have := HW.out.size; simp at this ⊢; omega) (fun k hk => by cases hk; exact HB1.out.size))
  have hfl := own_form hown
  obtain ⟨ao, c1, rfl⟩ := hfl
  have HL2 := Lib.hid (HB.out.below HB2.out)
  have hs2 := HB2.out.size
  clear hgrow own0 HX1 HW HB1
  go_wp2_with (at_builtin; refine append_any rfl (.tmp 24) (.tmp 25) 22 rfl w.heap.size 5 i0 (.int .u8 0) 1 1 Try.underlying22 hi0 hz0 hz1 hz2 rfl (by decide) _ (K * 2) (u8s x) rfl hown ab nb cb (u8s lb) rfl HL2.out.zero ?c1 HL2.out.cells (u8s_one lb) ?c2 ?c3 ?c4 ?_)
  case c1 => unfold u8s; rw [List.length_map, HL2.out.len]; omega
  case c2 => unfold maxLen; omega
  case c3 => omega
  case c4 => exact hs2
  intro v2 w3 hown3 hgrow3
  obtain ⟨a2, c2, hv2⟩ := own_form hown3
  subst hv2
  have HB3 := Lib.hid (HB2.out.grown hgrow3 hs2 (fun k hk => (hown.lt k hk).1))
  rw [u8s_app] at hown3
  have hlen : (x ++ lb).length = K * 2 + nb := by rw [List.length_append, HX.out.len, HL2.out.len]
  rw [← hlen] at hown3
  have HWH := Lib.hid (At.own hown3)
  rw [hlen] at HWH
  have HLEN := Lib.hid hlen
  clear hown hown3 hgrow3 hs2 HL2 HB2 hlen
  obtain ⟨P, hP⟩ : ∃ P, P = 65535 - car (ws (x ++ lb)) := ⟨_, rfl⟩
  obtain ⟨R, hR⟩ : ∃ R, R = 65535 - car (ws (x ++ y)) := ⟨_, rfl⟩
  obtain ⟨S, hS⟩ : ∃ S, S = 65535 - car (ws x) := ⟨_, rfl⟩
  have hR2 : 65535 - car (ws (y ++ x)) = R := by
    rw [hR, ws_app_even y x (by rw [HY.out.len]; omega), ws_app_even x y (by rw [HX.out.len]; omega), Int.add_comm]
  have HP := Lib.hid hP
  have HR := Lib.hid hR
  have HR2 := Lib.hid hR2
  have HS := Lib.hid hS
  clear hP hR hR2 hS
  go_wp2_with fail
  refine (sum2 (HX.out.below HB3.out).here (HB.out.below HB3.out).here HX.out.fit HB.out.fit (by rw [HX.out.len, HB.out.len]; omega) _ rfl).mono ?_
  rintro e _ ⟨rfl, rfl⟩
  rw [← HP.out]
  have hb := Lib.hid (HB3.out.alloc HB3.out.size (.cells #[.slice aa (K * 2) ca, .slice ab nb cb] 22))
  have hw := Lib.hid (HWH.out.below (bl_al (Below.refl _ _) (.cells #[.slice aa (K * 2) ca, .slice ab nb cb] 22)))
  obtain ⟨x0, hx0⟩ : ∃ X, X = w3.alloc (.cells #[.slice aa (K * 2) ca, .slice ab nb cb] 22) := ⟨_, rfl⟩
  rw [← hx0] at hb hw
  rw [← hx0]
  clear hx0 HB3 HWH
  rename Hid (Below w.heap.size w _) => HB3
  rename Hid (At _ _ _) => HWH
  go_wp2_with fail
  refine (sum1 HWH.out (fit_app HX.out.fit HB.out.fit) (by rw [HLEN.out]; omega) _ rfl).mono ?_
  rintro e _ ⟨rfl, rfl⟩
  rw [← HP.out]
  have hb := Lib.hid (HB3.out.alloc HB3.out.size (.cells #[.slice a2 (K * 2 + nb) c2] 22))
  have hw := Lib.hid (HWH.out.below (bl_al (Below.refl _ _) (.cells #[.slice a2 (K * 2 + nb) c2] 22)))
  obtain ⟨x1, hx1⟩ : ∃ X, X = x0.alloc (.cells #[.slice a2 (K * 2 + nb) c2] 22) := ⟨_, rfl⟩
  rw [← hx1] at hb hw
  rw [← hx1]
  clear hx1 HB3 HWH
  rename Hid (Below w.heap.size w _) => HB3
  rename Hid (At _ _ _) => HWH
  go_wp2_with fail
  refine (sum2 (HX.out.below HB3.out).here (HY.out.below HB3.out).here HX.out.fit HY.out.fit (by rw [HX.out.len, HY.out.len]; omega) _ rfl).mono ?_
  rintro e _ ⟨rfl, rfl⟩
  rw [← HR.out]
  have hb := Lib.hid (HB3.out.alloc HB3.out.size (.cells #[.slice aa (K * 2) ca, .slice ab (M * 2) cb] 22))
  have hw := Lib.hid (HWH.out.below (bl_al (Below.refl _ _) (.cells #[.slice aa (K * 2) ca, .slice ab (M * 2) cb] 22)))
  obtain ⟨x2, hx2⟩ : ∃ X, X = x1.alloc (.cells #[.slice aa (K * 2) ca, .slice ab (M * 2) cb] 22) := ⟨_, rfl⟩
  rw [← hx2] at hb hw
  rw [← hx2]
  clear hx2 HB3 HWH
  rename Hid (Below w.heap.size w _) => HB3
  rename Hid (At _ _ _) => HWH
  go_wp2_with fail
  refine (sum2 (HY.out.below HB3.out).here (HX.out.below HB3.out).here HY.out.fit HX.out.fit (by rw [HX.out.len, HY.out.len]; omega) _ rfl).mono ?_
  rintro e _ ⟨rfl, rfl⟩
  rw [HR2.out]
  have hb := Lib.hid (HB3.out.alloc HB3.out.size (.cells #[.slice ab (M * 2) cb, .slice aa (K * 2) ca] 22))
  have hw := Lib.hid (HWH.out.below (bl_al (Below.refl _ _) (.cells #[.slice ab (M * 2) cb, .slice aa (K * 2) ca] 22)))
  obtain ⟨x3, hx3⟩ : ∃ X, X = x2.alloc (.cells #[.slice ab (M * 2) cb, .slice aa (K * 2) ca] 22) := ⟨_, rfl⟩
  rw [← hx3] at hb hw
  rw [← hx3]
  clear hx3 HB3 HWH
  rename Hid (Below w.heap.size w _) => HB3
  rename Hid (At _ _ _) => HWH
  go_wp2_with fail
  refine (sum2 (At.nil _ none 0) (HX.out.below HB3.out).here (by unfold fit; simp) HX.out.fit (by rw [HX.out.len]; simp; omega) _ rfl).mono ?_
  rintro e _ ⟨rfl, rfl⟩
  rw [List.nil_append, ← HS.out]
  have hb := Lib.hid (HB3.out.alloc HB3.out.size (.cells #[.slice none 0 0, .slice aa (K * 2) ca] 22))
  have hw := Lib.hid (HWH.out.below (bl_al (Below.refl _ _) (.cells #[.slice none 0 0, .slice aa (K * 2) ca] 22)))
  obtain ⟨x4, hx4⟩ : ∃ X, X = x3.alloc (.cells #[.slice none 0 0, .slice aa (K * 2) ca] 22) := ⟨_, rfl⟩
  rw [← hx4] at hb hw
  rw [← hx4]
  clear hx4 HB3 HWH
  rename Hid (Below w.heap.size w _) => HB3
  rename Hid (At _ _ _) => HWH
  go_wp2_with fail
  refine (sum1 (HX.out.below HB3.out).here HX.out.fit (by rw [HX.out.len]; omega) _ rfl).mono ?_
  rintro e _ ⟨rfl, rfl⟩
  rw [← HS.out]
  go_wp2
  go_ret
  exact ⟨rfl, HB3.out.alloc HB3.out.size _⟩
end Go.Proofs.Ytjmpmegodhglcaa
