/- A round: choose. Conditions: those stated. -/
import Derived.Test.YtbkpkakjfhkfaaaRoE
import Derived.Deep.MidRow
namespace Go.Proofs.Ytbkpkakjfhkfaaa
open Go Go.RowKit
set_option linter.unusedVariables false
set_option linter.unusedSimpArgs false

theorem rnL_stage {r : Rd} {u v : Value} (h8 : r.ans.length = 8) (s : Int) : (rnL r u v).set 12 (.int .i64 s) = rnL { r with stage := s } u v := by
  obtain ⟨n, ans, b, want, stage, gr, log⟩ := r
  match ans, h8 with
  | [_, _, _, _, _, _, _, _], _ => rfl
theorem rnL_log {r : Rd} {u v v2 : Value} (h8 : r.ans.length = 8) : (rnL r u v).set 15 v2 = rnL r u v2 := by
  obtain ⟨n, ans, b, want, stage, gr, log⟩ := r
  match ans, h8 with
  | [_, _, _, _, _, _, _, _], _ => rfl
theorem ROb.relog {w : World} {p : Nat} {r : Rd} {u v : Value} (h : ROb w p r u v) (l : List Cm) : ROb w p { r with log := l } u v := h
/-- The crowd as it begins. -/
def cwSet (w : World) (p n : Nat) : World := w.setCells p 0 [.int .i64 n, .bool false, .bool false, .bool false, .bool false, .bool false, .bool false, .bool false, .bool false]
theorem tch_cw (w : World) (p n : Nat) : Tch (· = p) w (cwSet w p n) :=
  ((((((((tch_set w ⟨p, 0, none⟩ _).trans (tch_set _ ⟨p, 1, none⟩ _)).trans (tch_set _ ⟨p, 2, none⟩ _)).trans (tch_set _ ⟨p, 3, none⟩ _)).trans (tch_set _ ⟨p, 4, none⟩ _)).trans (tch_set _ ⟨p, 5, none⟩ _)).trans (tch_set _ ⟨p, 6, none⟩ _)).trans (tch_set _ ⟨p, 7, none⟩ _)).trans (tch_set _ ⟨p, 8, none⟩ _)
theorem rnL_n {r : Rd} {u v : Value} : (rnL r u v).set 0 (.int .i64 r.n) = rnL r u v := rfl
theorem rnL_setB {r : Rd} {u v : Value} (h8 : r.ans.length = 8) {k : Nat} (hk : k < 8) (b : Bool) : (rnL r u v).set (1 + k) (.bool b) = rnL { r with ans := r.ans.set k b } u v := by
  unfold rnL
  rw [Nat.add_comm, List.set_cons_succ, List.set_append_left _ _ (by simp; omega)]
  simp only [List.map_set]
theorem ROb.setB {w : World} {p : Nat} {r : Rd} {u v : Value} (h : ROb w p r u v) (h8 : r.ans.length = 8) {k : Nat} (hk : k < 8) (b : Bool) : ROb (w.setCell ⟨p, 1 + k, none⟩ (.bool b)) p { r with ans := r.ans.set k b } u v := h.put (1 + k) (.bool b) (rnL_setB h8 hk b)
theorem ROb.cw0 {w : World} {p : Nat} {r : Rd} {u v : Value} (h : ROb w p r u v) (h8 : r.ans.length = 8) : ROb (cwSet w p r.n) p { r with ans := none8 } u v := by
  have h0 := h.put 0 (.int .i64 r.n) rnL_n
  have h1 := h0.setB (by simp [h8]) (k := 0) (by decide) false
  have h2 := h1.setB (by simp [h8]) (k := 1) (by decide) false
  have h3 := h2.setB (by simp [h8]) (k := 2) (by decide) false
  have h4 := h3.setB (by simp [h8]) (k := 3) (by decide) false
  have h5 := h4.setB (by simp [h8]) (k := 4) (by decide) false
  have h6 := h5.setB (by simp [h8]) (k := 5) (by decide) false
  have h7 := h6.setB (by simp [h8]) (k := 6) (by decide) false
  have h9 := h7.setB (by simp [h8]) (k := 7) (by decide) false
  have e : (((((((r.ans.set 0 false).set 1 false).set 2 false).set 3 false).set 4 false).set 5 false).set 6 false).set 7 false = none8 := by
    generalize r.ans = l at h8
    match l, h8 with
    | [_, _, _, _, _, _, _, _], _ => rfl
  simp only at h9
  rw [e] at h9
  exact h9
theorem infoW9 : (Try.prog.info? 164).map (·.size) = some 9 := by kernel_rfl
theorem cw1 (n : Nat) : (#[.int .i64 n, .bool false, .bool false, .bool false, .bool false, .bool false, .bool false, .bool false, .bool false] : Array Value).all (·.oneCell') = true := by
  simp [Value.oneCell']
theorem RX.chosen {w0 w w9 w10 w11 : World} {p : Nat} {r : Rd} {K : Nat → Prop} {a1 : Option Addr} {c1 : Nat} {v1 : List Value} {a2 : Option Addr} {c2 : Nat} {v2 : List Value} {T : Nat → Prop} {a8 : Option Addr} {c8 N : Nat} {v8 : List Value}
    (h : RX w0 w p r K a1 c1 v1 a2 c2 v2) (hs : r.stage = 1) (hl : r.log.length ≤ 256) (hT : Tch T w w9) (hTk : ∀ k, T k → k = p ∨ (Value.slice a2 r.log.length c2).ownBlock = some k ∨ w.heap.size ≤ k)
    (hO : OwC w9 w0.heap.size (chosenL r) a8 c8 v8) (hN : N = (chosenL r).length) (hb : ∀ k, BkC a8 v8 k → RBk p a1 v1 a2 v2 k ∨ w.heap.size ≤ k)
    (h9 : w9.heap[p]? = some (.cells (rnL r (.slice a1 r.want.length c1) (.slice a8 N c8)).toArray tyR (0, 0))) (hT10 : Tch (· = p) w9 w10) (h11 : ROb w11 p (chooseR r) (.slice a1 r.want.length c1) (.slice a8 N c8)) (hT11 : Tch (· = p) w10 w11) : RX w0 w11 p (chooseR r) K a1 c1 v1 a8 c8 v8 ∧ Kpz K w w11 := by
  have hT2 : Tch (fun k => T k ∨ k = p) w w11 := (hT.mono (fun k h => .inl h)).trans ((hT10.mono (fun k h => .inr h)).trans (hT11.mono (fun k h => .inr h)))
  refine h.setLog hT2 (fun k hk => ?_) (by rw [hN] at h11; exact h11) rfl (((hO.keep hT10 (fun k hk => hO.notBox h9 k hk))).keep hT11 (fun k hk => hO.notBox h9 k hk)) hb (fun e => ?_) (h.ok.choose hl)
  · rcases hk with hk | hk
    · rcases hTk k hk with h2 | h2 | h2
      · exact .inl h2
      · exact .inr (.inl ⟨hs, h2⟩)
      · exact .inr (.inr h2)
    · exact .inl hk
  · have e2 : (if (chosenL r).length > 256 then (4 : Int) else 2) = 1 := e
    split at e2 <;> omega
set_option maxRecDepth 100000 in
set_option maxHeartbeats 8000000 in
theorem choose_c (w0 w : World) (p : Nat) (r : Rd) (K : Nat → Prop) (a1 : Option Addr) (c1 : Nat) (v1 : List Value) (a2 : Option Addr) (c2 : Nat) (v2 : List Value) (h : RX w0 w p r K a1 c1 v1 a2 c2 v2) (hs : r.stage = 1) (hl : r.log.length ≤ 256) :
    Calls Try.prog 97 #[.pointer (some ⟨p, 0, none⟩)] w fun e w' => e = .returned (.tuple #[]) ∧ ROn w0 w' p (chooseR r) K ∧ Kpz K w w' := by
  obtain ⟨i0, hi0, hz0, hz1, hz2⟩ := info_parts infoC
  have hp0 : ((some (⟨p, 0, none⟩ : Addr)) == none) = false := rfl
  have CF := Lib.hid (find_c w p r a1 a2 c1 c2 v1 v2 h.ob h.ok (h.want.in h.ok.wty) (h.log.in h.ok.lty))
  have H := Lib.hid h
  have HLL := Lib.hid hl
  have HSS := Lib.hid hs
  clear h hs hl
  go_enter Try.func97, Try.ntmps97
  go_wp2_with fail
  refine CF.out.mono ?_
  rintro e w1 ⟨rfl, hb1⟩
  have HK1 := Lib.hid (H.out.new hb1).2
  have H1 := Lib.hid (H.out.new hb1).1
  clear hb1 CF
  obtain ⟨m, hm⟩ : ∃ m, m = r.want.length := ⟨_, rfl⟩
  obtain ⟨n, hn⟩ : ∃ n, n = r.log.length := ⟨_, rfl⟩
  have HM := Lib.hid (And.intro hm hn)
  have hm1 : m ≤ 1 := by rw [hm]; exact H1.out.ok.one
  have hn1 : n ≤ 256 := by rw [hn]; exact HLL.out
  clear hm hn
  by_cases hf : findR r = 0
  · have HCH : Hid (chosenL r = r.log ++ r.want) := Lib.hid (by unfold chosenL; rw [if_pos hf])
    have hcs := H1.out.ob.cs H1.out.ok.len
    have c11 := hcs.c11
    have c15 := hcs.c15
    rw [← HM.out.1] at c11
    rw [← HM.out.2] at c15
    have hown := H1.out.log.own
    rw [← HM.out.2] at hown
    have HW2 := H1.out.want.in H1.out.ok.wty
    have HOO := Lib.hid hown
    have HZ : Hid (a1 = none → m = 0 ∧ c1 = 0) := Lib.hid (by rw [HM.out.1]; exact InC.zero HW2)
    have HCL : Hid ((cellsC r.want v1).length = m * 12) := Lib.hid (by rw [cellsC_len H1.out.want.vlen, ← HM.out.1])
    have HCE : Hid (∀ ad, a1 = some ad → ∀ j u, (cellsC r.want v1)[j]? = some u → w1.drew.cell? (ad.add j) = some u) := Lib.hid (fun ad e j u hu => by
      have h := H1.out.want.own
      rw [e] at h
      rcases h.2 with ⟨h2, _⟩ | ⟨g, cap, cur, h2, _⟩
      · cases h2
      · cases h2
        exact h.cells (g := g) rfl j u hu)
    have HC1 : Hid (∀ u ∈ cellsC r.want v1, u.oneCell' = true) := Lib.hid (cellsC_one1 (fun v hv => by
      obtain ⟨j, hj, hvj⟩ := List.getElem_of_mem hv
      obtain ⟨a3, c4, e2, _⟩ := H1.out.want.ends j (by rw [← H1.out.want.vlen]; exact hj)
      have e3 : v1.getD j undef = v := by rw [List.getD_eq_getElem?_getD, List.getElem?_eq_getElem hj]; exact hvj
      rw [← e3, e2]
      rfl))
    have hws : w0.heap.size ≤ w1.drew.heap.size := H1.out.bel.size
    clear hcs hown HW2
    rw [hf]
    clear hf
    go_upto_region 1 with fail
    go_region_law (first
      | (refine step_append_at rfl (.tmp 9) (.tmp 13) 22 rfl w0.heap.size tyC i0 _ 12 104 Try.underlying22 hi0 hz0 hz1 hz2 rfl (by decide) _ n (cellsC r.log v2) rfl HOO.out a1 m c1 (cellsC r.want v1) rfl HCL.out HZ.out HCE.out HC1.out (by unfold maxLen; omega) (by omega) hws ?_; intro v8 w8 hown8 hg8 hat8; obtain ⟨a8, c8, rfl⟩ := own_form hown8; have hT8 := tch_grown hg8; have hR8 : ROb w8 p r (.slice a1 r.want.length c1) (.slice a2 r.log.length c2) := hT8.at H1.out.ob (fun e => H1.out.log.notBox H1.out.ob p (bkC_own e.symm) rfl); have d15 := (hR8.cs H1.out.ok.len).c15; have f15 := hR8.free 15)
      | fail)
    all_goals
      have HO8 : Hid (OwC w8 w0.heap.size (chosenL r) a8 c8 (v2 ++ v1)) := Lib.hid (by
        rw [HCH.out]
        refine (H1.out.log.later (Below.refl _ _).drew).join (H1.out.want.later (Below.refl _ _).drew) ?_ (by rw [← HM.out.2]; exact hg8)
        rw [← HM.out.1, ← HM.out.2]
        exact hown8)
      have HN : Hid (n + m = (chosenL r).length) := Lib.hid (by rw [HCH.out, List.length_append, ← HM.out.1, ← HM.out.2])
      have HBK : Hid (∀ k, BkC a8 (v2 ++ v1) k → RBk p a1 v1 a2 v2 k ∨ w1.heap.size ≤ k) := Lib.hid (fun k hk => by
        rcases hk with ⟨ad, ha, rfl⟩ | ⟨v, hv, ad, n3, c3, e, rfl⟩
        · rw [ha] at hat8
          rcases hat8 with h | h
          · exact .inl (.inr (.inr (bkC_own (n := n) (c := c2) h.symm)))
          · have h2 : ad.block = w1.heap.size := Option.some.inj h
            exact .inr (by omega)
        · rcases List.mem_append.1 hv with h | h
          · exact .inl (.inr (.inr (.inr ⟨v, h, ad, n3, c3, e, rfl⟩)))
          · exact .inl (.inr (.inl (.inr ⟨v, h, ad, n3, c3, e, rfl⟩))))
      obtain ⟨w9, hw9⟩ : ∃ w9, w9 = w8.setCell ⟨p, 15, none⟩ (.slice a8 (n + m) c8) := ⟨_, rfl⟩
      rw [← hw9]
      have hR9 : w9.heap[p]? = some (.cells (rnL r (.slice a1 r.want.length c1) (.slice a8 (n + m) c8)).toArray tyR (0, 0)) := by
        have h2 := heap_setCell_same w8 p 15 _ _ (.slice a8 (n + m) c8) hR8
        rw [hw9, h2, ← rnL_log (r := r) (u := .slice a1 r.want.length c1) (v := .slice a2 r.log.length c2) (v2 := .slice a8 (n + m) c8) H1.out.ok.len]
        simp
      have hT89 : Tch (· = p) w8 w9 := by rw [hw9]; exact tch_set w8 ⟨p, 15, none⟩ _
      have HO9 : Hid (OwC w9 w0.heap.size (chosenL r) a8 c8 (v2 ++ v1)) := Lib.hid (HO8.out.keep hT89 (fun k hk => HO8.out.notBox hR8 k hk))
      have HT9 : Hid (Tch (fun k => some k = (Value.slice a2 n c2).ownBlock ∨ k = p) w1 w9) := Lib.hid ((((tch_new (Below.refl w1.heap.size w1).drew).mono (fun _ h => h.elim)).trans (hT8.mono (fun _ h => .inl h))).trans (hT89.mono (fun _ h => .inr h)))
      have HTK : Hid (∀ k, (some k = (Value.slice a2 n c2).ownBlock ∨ k = p) → k = p ∨ (Value.slice a2 r.log.length c2).ownBlock = some k ∨ w1.heap.size ≤ k) := Lib.hid (fun k hk => by
        rcases hk with h | h
        · exact .inr (.inl (by rw [← HM.out.2]; exact h.symm))
        · exact .inl h)
      have HR9 := Lib.hid hR9
      obtain ⟨N, hNN⟩ : ∃ N, N = n + m := ⟨_, rfl⟩
      rw [← hNN] at HN HR9 ⊢
      have hN7 : N ≤ 257 := by omega
      have HNN := Lib.hid hNN
      clear hown8 hg8 hat8 hT8 hR8 d15 f15 HO8 hw9 hR9 hT89 c11 c15 HOO HCL HCE HC1 HZ hws hNN HCH
      have hR9 : ROb w9 p r (.slice a1 r.want.length c1) (.slice a8 N c8) := HR9.out
      have d12 := (hR9.cs H1.out.ok.len).c12
      have f12 := hR9.free 12
      clear hR9
      go_upto_region 2 with fail
      go_upto_region 3 with fail
      obtain ⟨w10, hw10⟩ : ∃ w10, w10 = w9.setCell ⟨p, 12, none⟩ (.int .i64 2) := ⟨_, rfl⟩
      rw [← hw10]
      have hT10 : Tch (· = p) w9 w10 := by rw [hw10]; exact tch_set w9 ⟨p, 12, none⟩ _
      have hR10 : ROb w10 p { r with stage := 2 } (.slice a1 r.want.length c1) (.slice a8 N c8) := by
        have h9 : ROb w9 p r (.slice a1 r.want.length c1) (.slice a8 N c8) := HR9.out
        rw [hw10]
        exact h9.put 12 (.int .i64 2) (rnL_stage H1.out.ok.len 2)
      have d15 := (hR10.cs H1.out.ok.len).c15
      have e12 := (hR10.cs H1.out.ok.len).c12
      have g12 := hR10.free 12
      have HR10 := Lib.hid hR10
      have HT10 := Lib.hid hT10
      clear d12 f12 hw10 hT10 hR10
      by_cases hbig : N > 256
      · have gg : (N : Int) > 256 := by omega
        go_upto_region 5 with fail
        obtain ⟨w11, hw11⟩ : ∃ w11, w11 = w10.setCell ⟨p, 12, none⟩ (.int .i64 4) := ⟨_, rfl⟩
        rw [← hw11]
        have hT11 : Tch (· = p) w9 w11 := HT10.out.trans (by rw [hw11]; exact tch_set w10 ⟨p, 12, none⟩ _)
        have hR11 : ROb w11 p { r with stage := 4 } (.slice a1 r.want.length c1) (.slice a8 N c8) := by
          rw [hw11]
          exact HR10.out.put 12 (.int .i64 4) (rnL_stage (r := { r with stage := 2 }) H1.out.ok.len 4)
        have HE : Hid ((chooseR r) = { r with stage := 4, ans := none8, log := chosenL r }) := Lib.hid (by unfold chooseR; rw [if_pos (by rw [← HN.out]; exact hbig)])
        clear d15 e12 g12 hw11 gg hbig HR10 HT10
        have q0 := (hR11.cw H1.out.ok.len).sz
        have HTH : Hid (w11.there p 0 9) := Lib.hid (fun j hj => ⟨by
          rw [Nat.zero_add]
          have hcw := hR11.cw H1.out.ok.len
          rcases Nat.eq_zero_or_pos j with h0 | h0
          · rw [h0, hcw.sz]; rfl
          · rw [show j = 1 + (j - 1) by omega, hcw.ans (j - 1) (by omega)]; rfl, hR11.free _⟩)
        have HFI : Hid (ROn w0 (cwSet w11 p r.n) p (chooseR r) K ∧ Kpz K w (cwSet w11 p r.n)) := Lib.hid (by
          have h3 := hR11.cw0 H1.out.ok.len
          have h4 := H1.out.chosen HSS.out HLL.out HT9.out HTK.out HO9.out HN.out HBK.out HR9.out hT11 (w11 := cwSet w11 p r.n) (by rw [HE.out]; exact h3.relog (chosenL r)) (tch_cw w11 p r.n)
          exact ⟨⟨_, _, _, _, _, _, h4.1⟩, HK1.out.trans h4.2⟩)
        clear hR11 hT11
        go_wp2_with (refine wpList_store_mid rfl 164 (.tmp 37) (.tmp 35) rfl p 0 #[.int .i64 r.n, .bool false, .bool false, .bool false, .bool false, .bool false, .bool false, .bool false, .bool false] rfl rfl HTH.out infoW9 (cw1 r.n) ?_)
        go_end0
        exact ⟨rfl, HFI.out⟩
      · have gg : ¬ (N : Int) > 256 := by omega
        go_upto_region 5 with fail
        obtain ⟨w11, hw11⟩ : ∃ w11, w11 = w10 := ⟨_, rfl⟩
        rw [← hw11]
        have hT11 : Tch (· = p) w9 w11 := by rw [hw11]; exact HT10.out
        have hR11 : ROb w11 p { r with stage := 2 } (.slice a1 r.want.length c1) (.slice a8 N c8) := by
          rw [hw11]
          exact HR10.out
        have HE : Hid ((chooseR r) = { r with stage := 2, ans := none8, log := chosenL r }) := Lib.hid (by unfold chooseR; rw [if_neg (by rw [← HN.out]; exact hbig)])
        clear d15 e12 g12 hw11 gg hbig HR10 HT10
        have q0 := (hR11.cw H1.out.ok.len).sz
        have HTH : Hid (w11.there p 0 9) := Lib.hid (fun j hj => ⟨by
          rw [Nat.zero_add]
          have hcw := hR11.cw H1.out.ok.len
          rcases Nat.eq_zero_or_pos j with h0 | h0
          · rw [h0, hcw.sz]; rfl
          · rw [show j = 1 + (j - 1) by omega, hcw.ans (j - 1) (by omega)]; rfl, hR11.free _⟩)
        have HFI : Hid (ROn w0 (cwSet w11 p r.n) p (chooseR r) K ∧ Kpz K w (cwSet w11 p r.n)) := Lib.hid (by
          have h3 := hR11.cw0 H1.out.ok.len
          have h4 := H1.out.chosen HSS.out HLL.out HT9.out HTK.out HO9.out HN.out HBK.out HR9.out hT11 (w11 := cwSet w11 p r.n) (by rw [HE.out]; exact h3.relog (chosenL r)) (tch_cw w11 p r.n)
          exact ⟨⟨_, _, _, _, _, _, h4.1⟩, HK1.out.trans h4.2⟩)
        clear hR11 hT11
        go_wp2_with (refine wpList_store_mid rfl 164 (.tmp 37) (.tmp 35) rfl p 0 #[.int .i64 r.n, .bool false, .bool false, .bool false, .bool false, .bool false, .bool false, .bool false, .bool false] rfl rfl HTH.out infoW9 (cw1 r.n) ?_)
        go_end0
        exact ⟨rfl, HFI.out⟩
  · have HCH : Hid (chosenL r = r.log) := Lib.hid (by unfold chosenL; rw [if_neg hf])
    have HFF := Lib.hid hf
    have HO9 : Hid (OwC w1 w0.heap.size (chosenL r) a2 c2 v2) := Lib.hid (by rw [HCH.out]; exact H1.out.log)
    have HN : Hid (n = (chosenL r).length) := Lib.hid (by rw [HCH.out, HM.out.2])
    have HBK : Hid (∀ k, BkC a2 v2 k → RBk p a1 v1 a2 v2 k ∨ w1.heap.size ≤ k) := Lib.hid (fun k hk => .inl (.inr (.inr hk)))
    have HT9 : Hid (Tch Non w1 w1) := Lib.hid (Tch.refl _ _)
    have HTK : Hid (∀ k, Non k → k = p ∨ (Value.slice a2 r.log.length c2).ownBlock = some k ∨ w1.heap.size ≤ k) := Lib.hid (fun k hk => hk.elim)
    have HR9 : Hid (w1.heap[p]? = some (.cells (rnL r (.slice a1 r.want.length c1) (.slice a2 n c2)).toArray tyR (0, 0))) := Lib.hid (by rw [HM.out.2]; exact H1.out.ob)
    have hN7 : n ≤ 257 := by omega
    have hR9 : ROb w1 p r (.slice a1 r.want.length c1) (.slice a2 n c2) := HR9.out
    have d12 := (hR9.cs H1.out.ok.len).c12
    have f12 := hR9.free 12
    clear hR9
    go_upto_region 2 with fail
    go_upto_region 3 with fail
    obtain ⟨w10, hw10⟩ : ∃ w10, w10 = w1.setCell ⟨p, 12, none⟩ (.int .i64 2) := ⟨_, rfl⟩
    rw [← hw10]
    have hT10 : Tch (· = p) w1 w10 := by rw [hw10]; exact tch_set w1 ⟨p, 12, none⟩ _
    have hR10 : ROb w10 p { r with stage := 2 } (.slice a1 r.want.length c1) (.slice a2 n c2) := by
      have h9 : ROb w1 p r (.slice a1 r.want.length c1) (.slice a2 n c2) := HR9.out
      rw [hw10]
      exact h9.put 12 (.int .i64 2) (rnL_stage H1.out.ok.len 2)
    have d15 := (hR10.cs H1.out.ok.len).c15
    have e12 := (hR10.cs H1.out.ok.len).c12
    have g12 := hR10.free 12
    have HR10 := Lib.hid hR10
    have HT10 := Lib.hid hT10
    clear d12 f12 hw10 hT10 hR10
    by_cases hbig : n > 256
    · exact absurd hbig (by omega)
    · have gg : ¬ (n : Int) > 256 := by omega
      go_upto_region 5 with fail
      obtain ⟨w11, hw11⟩ : ∃ w11, w11 = w10 := ⟨_, rfl⟩
      rw [← hw11]
      have hT11 : Tch (· = p) w1 w11 := by rw [hw11]; exact HT10.out
      have hR11 : ROb w11 p { r with stage := 2 } (.slice a1 r.want.length c1) (.slice a2 n c2) := by
        rw [hw11]
        exact HR10.out
      have HE : Hid ((chooseR r) = { r with stage := 2, ans := none8, log := chosenL r }) := Lib.hid (by unfold chooseR; rw [if_neg (by rw [← HN.out]; exact hbig)])
      clear d15 e12 g12 hw11 gg hbig HR10 HT10
      have q0 := (hR11.cw H1.out.ok.len).sz
      have HTH : Hid (w11.there p 0 9) := Lib.hid (fun j hj => ⟨by
        rw [Nat.zero_add]
        have hcw := hR11.cw H1.out.ok.len
        rcases Nat.eq_zero_or_pos j with h0 | h0
        · rw [h0, hcw.sz]; rfl
        · rw [show j = 1 + (j - 1) by omega, hcw.ans (j - 1) (by omega)]; rfl, hR11.free _⟩)
      have HFI : Hid (ROn w0 (cwSet w11 p r.n) p (chooseR r) K ∧ Kpz K w (cwSet w11 p r.n)) := Lib.hid (by
        have h3 := hR11.cw0 H1.out.ok.len
        have h4 := H1.out.chosen HSS.out HLL.out HT9.out HTK.out HO9.out HN.out HBK.out HR9.out hT11 (w11 := cwSet w11 p r.n) (by rw [HE.out]; exact h3.relog (chosenL r)) (tch_cw w11 p r.n)
        exact ⟨⟨_, _, _, _, _, _, h4.1⟩, HK1.out.trans h4.2⟩)
      clear hR11 hT11
      go_wp2_with (refine wpList_store_mid rfl 164 (.tmp 37) (.tmp 35) rfl p 0 #[.int .i64 r.n, .bool false, .bool false, .bool false, .bool false, .bool false, .bool false, .bool false, .bool false] rfl rfl HTH.out infoW9 (cw1 r.n) ?_)
      go_end0
      exact ⟨rfl, HFI.out⟩
end Go.Proofs.Ytbkpkakjfhkfaaa
