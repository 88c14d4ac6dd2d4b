/- A round: choose. Conditions: those stated. A round: Log, Place, Missing, Ballot, New; a nil round. Conditions: those stated. A round: Accepted, Promise. Conditions: those stated. A round: the fixed fact. Conditions: those stated. -/
import Derived.Test.YtnhnpfhfcbmmlaaRoE
import Derived.Deep.MidRow
import Derived.Test.YtnhnpfhfcbmmlaaVdC
namespace Go.Proofs.Ytnhnpfhfcbmmlaa
open Go Go.RowKit
set_option linter.unusedVariables false
set_option linter.unusedSimpArgs false

theorem rnL_stage {r : Rd} {u v : Value} (h8 : r.ans.length = 8) (s : Int) : (rnL r u v).set 12 (.int .i64 s) = rnL { r with stage := s } u v := by
  obtain ⟨n, ans, b, want, stage, gr, log⟩ := r
  match ans, h8 with
  | [_, _, _, _, _, _, _, _], _ => rfl
theorem rnL_log {r : Rd} {u v v2 : Value} (h8 : r.ans.length = 8) : (rnL r u v).set 15 v2 = rnL r u v2 := by
  obtain ⟨n, ans, b, want, stage, gr, log⟩ := r
  match ans, h8 with
  | [_, _, _, _, _, _, _, _], _ => rfl
theorem ROb.relog {w : World} {p : Nat} {r : Rd} {u v : Value} (h : ROb w p r u v) (l : List Cm) : ROb w p { r with log := l } u v := h
/-- The crowd as it begins. -/
def cwSet (w : World) (p n : Nat) : World := w.setCells p 0 [.int .i64 n, .bool false, .bool false, .bool false, .bool false, .bool false, .bool false, .bool false, .bool false]
theorem tch_cw (w : World) (p n : Nat) : Tch (· = p) w (cwSet w p n) :=
  ((((((((tch_set w ⟨p, 0, none⟩ _).trans (tch_set _ ⟨p, 1, none⟩ _)).trans (tch_set _ ⟨p, 2, none⟩ _)).trans (tch_set _ ⟨p, 3, none⟩ _)).trans (tch_set _ ⟨p, 4, none⟩ _)).trans (tch_set _ ⟨p, 5, none⟩ _)).trans (tch_set _ ⟨p, 6, none⟩ _)).trans (tch_set _ ⟨p, 7, none⟩ _)).trans (tch_set _ ⟨p, 8, none⟩ _)
theorem rnL_n {r : Rd} {u v : Value} : (rnL r u v).set 0 (.int .i64 r.n) = rnL r u v := rfl
theorem rnL_setB {r : Rd} {u v : Value} (h8 : r.ans.length = 8) {k : Nat} (hk : k < 8) (b : Bool) : (rnL r u v).set (1 + k) (.bool b) = rnL { r with ans := r.ans.set k b } u v := by
  unfold rnL
  rw [Nat.add_comm, List.set_cons_succ, List.set_append_left _ _ (by simp; omega)]
  simp only [List.map_set]
theorem ROb.setB {w : World} {p : Nat} {r : Rd} {u v : Value} (h : ROb w p r u v) (h8 : r.ans.length = 8) {k : Nat} (hk : k < 8) (b : Bool) : ROb (w.setCell ⟨p, 1 + k, none⟩ (.bool b)) p { r with ans := r.ans.set k b } u v := h.put (1 + k) (.bool b) (rnL_setB h8 hk b)
theorem ROb.cw0 {w : World} {p : Nat} {r : Rd} {u v : Value} (h : ROb w p r u v) (h8 : r.ans.length = 8) : ROb (cwSet w p r.n) p { r with ans := none8 } u v := by
  have h0 := h.put 0 (.int .i64 r.n) rnL_n
  have h1 := h0.setB (by simp [h8]) (k := 0) (by decide) false
  have h2 := h1.setB (by simp [h8]) (k := 1) (by decide) false
  have h3 := h2.setB (by simp [h8]) (k := 2) (by decide) false
  have h4 := h3.setB (by simp [h8]) (k := 3) (by decide) false
  have h5 := h4.setB (by simp [h8]) (k := 4) (by decide) false
  have h6 := h5.setB (by simp [h8]) (k := 5) (by decide) false
  have h7 := h6.setB (by simp [h8]) (k := 6) (by decide) false
  have h9 := h7.setB (by simp [h8]) (k := 7) (by decide) false
  have e : (((((((r.ans.set 0 false).set 1 false).set 2 false).set 3 false).set 4 false).set 5 false).set 6 false).set 7 false = none8 := by
    generalize r.ans = l at h8
    match l, h8 with
    | [_, _, _, _, _, _, _, _], _ => rfl
  simp only at h9
  rw [e] at h9
  exact h9
theorem infoW9 : (Try.prog.info? 164).map (·.size) = some 9 := by kernel_rfl
theorem cw1 (n : Nat) : (#[.int .i64 n, .bool false, .bool false, .bool false, .bool false, .bool false, .bool false, .bool false, .bool false] : Array Value).all (·.oneCell') = true := by
  simp [Value.oneCell']
theorem RX.chosen {w0 w w9 w10 w11 : World} {p : Nat} {r : Rd} {K : Nat → Prop} {a1 : Option Addr} {c1 : Nat} {v1 : List Value} {a2 : Option Addr} {c2 : Nat} {v2 : List Value} {T : Nat → Prop} {a8 : Option Addr} {c8 N : Nat} {v8 : List Value}
    (h : RX w0 w p r K a1 c1 v1 a2 c2 v2) (hs : r.stage = 1) (hl : r.log.length ≤ 256) (hT : Tch T w w9) (hTk : ∀ k, T k → k = p ∨ (Value.slice a2 r.log.length c2).ownBlock = some k ∨ w.heap.size ≤ k)
    (hO : OwC w9 w0.heap.size (chosenL r) a8 c8 v8) (hN : N = (chosenL r).length) (hb : ∀ k, BkC a8 v8 k → RBk p a1 v1 a2 v2 k ∨ w.heap.size ≤ k)
    (h9 : w9.heap[p]? = some (.cells (rnL r (.slice a1 r.want.length c1) (.slice a8 N c8)).toArray tyR (0, 0))) (hT10 : Tch (· = p) w9 w10) (h11 : ROb w11 p (chooseR r) (.slice a1 r.want.length c1) (.slice a8 N c8)) (hT11 : Tch (· = p) w10 w11) : RX w0 w11 p (chooseR r) K a1 c1 v1 a8 c8 v8 ∧ Kpz K w w11 := by
  have hT2 : Tch (fun k => T k ∨ k = p) w w11 := (hT.mono (fun k h => .inl h)).trans ((hT10.mono (fun k h => .inr h)).trans (hT11.mono (fun k h => .inr h)))
  refine h.setLog hT2 (fun k hk => ?_) (by rw [hN] at h11; exact h11) rfl (((hO.keep hT10 (fun k hk => hO.notBox h9 k hk))).keep hT11 (fun k hk => hO.notBox h9 k hk)) hb (fun e => ?_) (h.ok.choose hl)
  · rcases hk with hk | hk
    · rcases hTk k hk with h2 | h2 | h2
      · exact .inl h2
      · exact .inr (.inl ⟨hs, h2⟩)
      · exact .inr (.inr h2)
    · exact .inl hk
  · have e2 : (if (chosenL r).length > 256 then (4 : Int) else 2) = 1 := e
    split at e2 <;> omega
set_option maxRecDepth 100000 in
set_option maxHeartbeats 8000000 in
theorem choose_c (w0 w : World) (p : Nat) (r : Rd) (K : Nat → Prop) (a1 : Option Addr) (c1 : Nat) (v1 : List Value) (a2 : Option Addr) (c2 : Nat) (v2 : List Value) (h : RX w0 w p r K a1 c1 v1 a2 c2 v2) (hs : r.stage = 1) (hl : r.log.length ≤ 256) :
    Calls Try.prog 97 #[.pointer (some ⟨p, 0, none⟩)] w fun e w' => e = .returned (.tuple #[]) ∧ ROn w0 w' p (chooseR r) K ∧ Kpz K w w' := by
  obtain ⟨i0, hi0, hz0, hz1, hz2⟩ := info_parts infoC
  have hp0 : ((some (⟨p, 0, none⟩ : Addr)) == none) = false := rfl
  have CF := Lib.hid (find_c w p r a1 a2 c1 c2 v1 v2 h.ob h.ok (h.want.in h.ok.wty) (h.log.in h.ok.lty))
  have H := Lib.hid h
  have HLL := Lib.hid hl
  have HSS := Lib.hid hs
  clear h hs hl
  go_enter Try.func97, Try.ntmps97
  go_wp2_with fail
  refine CF.out.mono ?_
  rintro e w1 ⟨rfl, hb1⟩
  have HK1 := Lib.hid (H.out.new hb1).2
  have H1 := Lib.hid (H.out.new hb1).1
  clear hb1 CF
  obtain ⟨m, hm⟩ : ∃ m, m = r.want.length := ⟨_, rfl⟩
  obtain ⟨n, hn⟩ : ∃ n, n = r.log.length := ⟨_, rfl⟩
  have HM := Lib.hid (And.intro hm hn)
  have hm1 : m ≤ 1 := by rw [hm]; exact H1.out.ok.one
  have hn1 : n ≤ 256 := by rw [hn]; exact HLL.out
  clear hm hn
  by_cases hf : findR r = 0
  · have HCH : Hid (chosenL r = r.log ++ r.want) := Lib.hid (by unfold chosenL; rw [if_pos hf])
    have hcs := H1.out.ob.cs H1.out.ok.len
    have c11 := hcs.c11
    have c15 := hcs.c15
    rw [← HM.out.1] at c11
    rw [← HM.out.2] at c15
    have hown := H1.out.log.own
    rw [← HM.out.2] at hown
    have HW2 := H1.out.want.in H1.out.ok.wty
    have HOO := Lib.hid hown
    have HZ : Hid (a1 = none → m = 0 ∧ c1 = 0) := Lib.hid (by rw [HM.out.1]; exact InC.zero HW2)
    have HCL : Hid ((cellsC r.want v1).length = m * 12) := Lib.hid (by rw [cellsC_len H1.out.want.vlen, ← HM.out.1])
    have HCE : Hid (∀ ad, a1 = some ad → ∀ j u, (cellsC r.want v1)[j]? = some u → w1.drew.cell? (ad.add j) = some u) := Lib.hid (fun ad e j u hu => by
      have h := H1.out.want.own
      rw [e] at h
      rcases h.2 with ⟨h2, _⟩ | ⟨g, cap, cur, h2, _⟩
      · cases h2
      · cases h2
        exact h.cells (g := g) rfl j u hu)
    have HC1 : Hid (∀ u ∈ cellsC r.want v1, u.oneCell' = true) := Lib.hid (cellsC_one1 (fun v hv => by
      obtain ⟨j, hj, hvj⟩ := List.getElem_of_mem hv
      obtain ⟨a3, c4, e2, _⟩ := H1.out.want.ends j (by rw [← H1.out.want.vlen]; exact hj)
      have e3 : v1.getD j undef = v := by rw [List.getD_eq_getElem?_getD, List.getElem?_eq_getElem hj]; exact hvj
      rw [← e3, e2]
      rfl))
    have hws : w0.heap.size ≤ w1.drew.heap.size := H1.out.bel.size
    clear hcs hown HW2
    rw [hf]
    clear hf
    go_upto_region 1 with fail
    go_region_law (first
      | (refine step_append_at rfl (.tmp 9) (.tmp 13) 22 rfl w0.heap.size tyC i0 _ 12 104 Try.underlying22 hi0 hz0 hz1 hz2 rfl (by decide) _ n (cellsC r.log v2) rfl HOO.out a1 m c1 (cellsC r.want v1) rfl HCL.out HZ.out HCE.out HC1.out (by unfold maxLen; omega) (by omega) hws ?_; intro v8 w8 hown8 hg8 hat8; obtain ⟨a8, c8, rfl⟩ := own_form hown8; have hT8 := tch_grown hg8; have hR8 : ROb w8 p r (.slice a1 r.want.length c1) (.slice a2 r.log.length c2) := hT8.at H1.out.ob (fun e => H1.out.log.notBox H1.out.ob p (bkC_own e.symm) rfl); have d15 := (hR8.cs H1.out.ok.len).c15; have f15 := hR8.free 15)
      | fail)
    all_goals
      have HO8 : Hid (OwC w8 w0.heap.size (chosenL r) a8 c8 (v2 ++ v1)) := Lib.hid (by
        rw [HCH.out]
        refine (H1.out.log.later (Below.refl _ _).drew).join (H1.out.want.later (Below.refl _ _).drew) ?_ (by rw [← HM.out.2]; exact hg8)
        rw [← HM.out.1, ← HM.out.2]
        exact hown8)
      have HN : Hid (n + m = (chosenL r).length) := Lib.hid (by rw [HCH.out, List.length_append, ← HM.out.1, ← HM.out.2])
      have HBK : Hid (∀ k, BkC a8 (v2 ++ v1) k → RBk p a1 v1 a2 v2 k ∨ w1.heap.size ≤ k) := Lib.hid (fun k hk => by
        rcases hk with ⟨ad, ha, rfl⟩ | ⟨v, hv, ad, n3, c3, e, rfl⟩
        · rw [ha] at hat8
          rcases hat8 with h | h
          · exact .inl (.inr (.inr (bkC_own (n := n) (c := c2) h.symm)))
          · have h2 : ad.block = w1.heap.size := Option.some.inj h
            exact .inr (by omega)
        · rcases List.mem_append.1 hv with h | h
          · exact .inl (.inr (.inr (.inr ⟨v, h, ad, n3, c3, e, rfl⟩)))
          · exact .inl (.inr (.inl (.inr ⟨v, h, ad, n3, c3, e, rfl⟩))))
      obtain ⟨w9, hw9⟩ : ∃ w9, w9 = w8.setCell ⟨p, 15, none⟩ (.slice a8 (n + m) c8) := ⟨_, rfl⟩
      rw [← hw9]
      have hR9 : w9.heap[p]? = some (.cells (rnL r (.slice a1 r.want.length c1) (.slice a8 (n + m) c8)).toArray tyR (0, 0)) := by
        have h2 := heap_setCell_same w8 p 15 _ _ (.slice a8 (n + m) c8) hR8
        rw [hw9, h2, ← rnL_log (r := r) (u := .slice a1 r.want.length c1) (v := .slice a2 r.log.length c2) (v2 := .slice a8 (n + m) c8) H1.out.ok.len]
        simp
      have hT89 : Tch (· = p) w8 w9 := by rw [hw9]; exact tch_set w8 ⟨p, 15, none⟩ _
      have HO9 : Hid (OwC w9 w0.heap.size (chosenL r) a8 c8 (v2 ++ v1)) := Lib.hid (HO8.out.keep hT89 (fun k hk => HO8.out.notBox hR8 k hk))
      have HT9 : Hid (Tch (fun k => some k = (Value.slice a2 n c2).ownBlock ∨ k = p) w1 w9) := Lib.hid ((((tch_new (Below.refl w1.heap.size w1).drew).mono (fun _ h => h.elim)).trans (hT8.mono (fun _ h => .inl h))).trans (hT89.mono (fun _ h => .inr h)))
      have HTK : Hid (∀ k, (some k = (Value.slice a2 n c2).ownBlock ∨ k = p) → k = p ∨ (Value.slice a2 r.log.length c2).ownBlock = some k ∨ w1.heap.size ≤ k) := Lib.hid (fun k hk => by
        rcases hk with h | h
        · exact .inr (.inl (by rw [← HM.out.2]; exact h.symm))
        · exact .inl h)
      have HR9 := Lib.hid hR9
      obtain ⟨N, hNN⟩ : ∃ N, N = n + m := ⟨_, rfl⟩
      rw [← hNN] at HN HR9 ⊢
      have hN7 : N ≤ 257 := by omega
      have HNN := Lib.hid hNN
      clear hown8 hg8 hat8 hT8 hR8 d15 f15 HO8 hw9 hR9 hT89 c11 c15 HOO HCL HCE HC1 HZ hws hNN HCH
      have hR9 : ROb w9 p r (.slice a1 r.want.length c1) (.slice a8 N c8) := HR9.out
      have d12 := (hR9.cs H1.out.ok.len).c12
      have f12 := hR9.free 12
      clear hR9
      go_upto_region 2 with fail
      go_upto_region 3 with fail
      obtain ⟨w10, hw10⟩ : ∃ w10, w10 = w9.setCell ⟨p, 12, none⟩ (.int .i64 2) := ⟨_, rfl⟩
      rw [← hw10]
      have hT10 : Tch (· = p) w9 w10 := by rw [hw10]; exact tch_set w9 ⟨p, 12, none⟩ _
      have hR10 : ROb w10 p { r with stage := 2 } (.slice a1 r.want.length c1) (.slice a8 N c8) := by
        have h9 : ROb w9 p r (.slice a1 r.want.length c1) (.slice a8 N c8) := HR9.out
        rw [hw10]
        exact h9.put 12 (.int .i64 2) (rnL_stage H1.out.ok.len 2)
      have d15 := (hR10.cs H1.out.ok.len).c15
      have e12 := (hR10.cs H1.out.ok.len).c12
      have g12 := hR10.free 12
      have HR10 := Lib.hid hR10
      have HT10 := Lib.hid hT10
      clear d12 f12 hw10 hT10 hR10
      by_cases hbig : N > 256
      · have gg : (N : Int) > 256 := by omega
        go_upto_region 5 with fail
        obtain ⟨w11, hw11⟩ : ∃ w11, w11 = w10.setCell ⟨p, 12, none⟩ (.int .i64 4) := ⟨_, rfl⟩
        rw [← hw11]
        have hT11 : Tch (· = p) w9 w11 := HT10.out.trans (by rw [hw11]; exact tch_set w10 ⟨p, 12, none⟩ _)
        have hR11 : ROb w11 p { r with stage := 4 } (.slice a1 r.want.length c1) (.slice a8 N c8) := by
          rw [hw11]
          exact HR10.out.put 12 (.int .i64 4) (rnL_stage (r := { r with stage := 2 }) H1.out.ok.len 4)
        have HE : Hid ((chooseR r) = { r with stage := 4, ans := none8, log := chosenL r }) := Lib.hid (by unfold chooseR; rw [if_pos (by rw [← HN.out]; exact hbig)])
        clear d15 e12 g12 hw11 gg hbig HR10 HT10
        have q0 := (hR11.cw H1.out.ok.len).sz
        have HTH : Hid (w11.there p 0 9) := Lib.hid (fun j hj => ⟨by
          rw [Nat.zero_add]
          have hcw := hR11.cw H1.out.ok.len
          rcases Nat.eq_zero_or_pos j with h0 | h0
          · rw [h0, hcw.sz]; rfl
          · rw [show j = 1 + (j - 1) by omega, hcw.ans (j - 1) (by omega)]; rfl, hR11.free _⟩)
        have HFI : Hid (ROn w0 (cwSet w11 p r.n) p (chooseR r) K ∧ Kpz K w (cwSet w11 p r.n)) := Lib.hid (by
          have h3 := hR11.cw0 H1.out.ok.len
          have h4 := H1.out.chosen HSS.out HLL.out HT9.out HTK.out HO9.out HN.out HBK.out HR9.out hT11 (w11 := cwSet w11 p r.n) (by rw [HE.out]; exact h3.relog (chosenL r)) (tch_cw w11 p r.n)
          exact ⟨⟨_, _, _, _, _, _, h4.1⟩, HK1.out.trans h4.2⟩)
        clear hR11 hT11
        go_wp2_with (refine wpList_store_mid rfl 164 (.tmp 37) (.tmp 35) rfl p 0 #[.int .i64 r.n, .bool false, .bool false, .bool false, .bool false, .bool false, .bool false, .bool false, .bool false] rfl rfl HTH.out infoW9 (cw1 r.n) ?_)
        go_end0
        exact ⟨rfl, HFI.out⟩
      · have gg : ¬ (N : Int) > 256 := by omega
        go_upto_region 5 with fail
        obtain ⟨w11, hw11⟩ : ∃ w11, w11 = w10 := ⟨_, rfl⟩
        rw [← hw11]
        have hT11 : Tch (· = p) w9 w11 := by rw [hw11]; exact HT10.out
        have hR11 : ROb w11 p { r with stage := 2 } (.slice a1 r.want.length c1) (.slice a8 N c8) := by
          rw [hw11]
          exact HR10.out
        have HE : Hid ((chooseR r) = { r with stage := 2, ans := none8, log := chosenL r }) := Lib.hid (by unfold chooseR; rw [if_neg (by rw [← HN.out]; exact hbig)])
        clear d15 e12 g12 hw11 gg hbig HR10 HT10
        have q0 := (hR11.cw H1.out.ok.len).sz
        have HTH : Hid (w11.there p 0 9) := Lib.hid (fun j hj => ⟨by
          rw [Nat.zero_add]
          have hcw := hR11.cw H1.out.ok.len
          rcases Nat.eq_zero_or_pos j with h0 | h0
          · rw [h0, hcw.sz]; rfl
          · rw [show j = 1 + (j - 1) by omega, hcw.ans (j - 1) (by omega)]; rfl, hR11.free _⟩)
        have HFI : Hid (ROn w0 (cwSet w11 p r.n) p (chooseR r) K ∧ Kpz K w (cwSet w11 p r.n)) := Lib.hid (by
          have h3 := hR11.cw0 H1.out.ok.len
          have h4 := H1.out.chosen HSS.out HLL.out HT9.out HTK.out HO9.out HN.out HBK.out HR9.out hT11 (w11 := cwSet w11 p r.n) (by rw [HE.out]; exact h3.relog (chosenL r)) (tch_cw w11 p r.n)
          exact ⟨⟨_, _, _, _, _, _, h4.1⟩, HK1.out.trans h4.2⟩)
        clear hR11 hT11
        go_wp2_with (refine wpList_store_mid rfl 164 (.tmp 37) (.tmp 35) rfl p 0 #[.int .i64 r.n, .bool false, .bool false, .bool false, .bool false, .bool false, .bool false, .bool false, .bool false] rfl rfl HTH.out infoW9 (cw1 r.n) ?_)
        go_end0
        exact ⟨rfl, HFI.out⟩
  · have HCH : Hid (chosenL r = r.log) := Lib.hid (by unfold chosenL; rw [if_neg hf])
    have HFF := Lib.hid hf
    have HO9 : Hid (OwC w1 w0.heap.size (chosenL r) a2 c2 v2) := Lib.hid (by rw [HCH.out]; exact H1.out.log)
    have HN : Hid (n = (chosenL r).length) := Lib.hid (by rw [HCH.out, HM.out.2])
    have HBK : Hid (∀ k, BkC a2 v2 k → RBk p a1 v1 a2 v2 k ∨ w1.heap.size ≤ k) := Lib.hid (fun k hk => .inl (.inr (.inr hk)))
    have HT9 : Hid (Tch Non w1 w1) := Lib.hid (Tch.refl _ _)
    have HTK : Hid (∀ k, Non k → k = p ∨ (Value.slice a2 r.log.length c2).ownBlock = some k ∨ w1.heap.size ≤ k) := Lib.hid (fun k hk => hk.elim)
    have HR9 : Hid (w1.heap[p]? = some (.cells (rnL r (.slice a1 r.want.length c1) (.slice a2 n c2)).toArray tyR (0, 0))) := Lib.hid (by rw [HM.out.2]; exact H1.out.ob)
    have hN7 : n ≤ 257 := by omega
    have hR9 : ROb w1 p r (.slice a1 r.want.length c1) (.slice a2 n c2) := HR9.out
    have d12 := (hR9.cs H1.out.ok.len).c12
    have f12 := hR9.free 12
    clear hR9
    go_upto_region 2 with fail
    go_upto_region 3 with fail
    obtain ⟨w10, hw10⟩ : ∃ w10, w10 = w1.setCell ⟨p, 12, none⟩ (.int .i64 2) := ⟨_, rfl⟩
    rw [← hw10]
    have hT10 : Tch (· = p) w1 w10 := by rw [hw10]; exact tch_set w1 ⟨p, 12, none⟩ _
    have hR10 : ROb w10 p { r with stage := 2 } (.slice a1 r.want.length c1) (.slice a2 n c2) := by
      have h9 : ROb w1 p r (.slice a1 r.want.length c1) (.slice a2 n c2) := HR9.out
      rw [hw10]
      exact h9.put 12 (.int .i64 2) (rnL_stage H1.out.ok.len 2)
    have d15 := (hR10.cs H1.out.ok.len).c15
    have e12 := (hR10.cs H1.out.ok.len).c12
    have g12 := hR10.free 12
    have HR10 := Lib.hid hR10
    have HT10 := Lib.hid hT10
    clear d12 f12 hw10 hT10 hR10
    by_cases hbig : n > 256
    · exact absurd hbig (by omega)
    · have gg : ¬ (n : Int) > 256 := by omega
      go_upto_region 5 with fail
      obtain ⟨w11, hw11⟩ : ∃ w11, w11 = w10 := ⟨_, rfl⟩
      rw [← hw11]
      have hT11 : Tch (· = p) w1 w11 := by rw [hw11]; exact HT10.out
      have hR11 : ROb w11 p { r with stage := 2 } (.slice a1 r.want.length c1) (.slice a2 n c2) := by
        rw [hw11]
        exact HR10.out
      have HE : Hid ((chooseR r) = { r with stage := 2, ans := none8, log := chosenL r }) := Lib.hid (by unfold chooseR; rw [if_neg (by rw [← HN.out]; exact hbig)])
      clear d15 e12 g12 hw11 gg hbig HR10 HT10
      have q0 := (hR11.cw H1.out.ok.len).sz
      have HTH : Hid (w11.there p 0 9) := Lib.hid (fun j hj => ⟨by
        rw [Nat.zero_add]
        have hcw := hR11.cw H1.out.ok.len
        rcases Nat.eq_zero_or_pos j with h0 | h0
        · rw [h0, hcw.sz]; rfl
        · rw [show j = 1 + (j - 1) by omega, hcw.ans (j - 1) (by omega)]; rfl, hR11.free _⟩)
      have HFI : Hid (ROn w0 (cwSet w11 p r.n) p (chooseR r) K ∧ Kpz K w (cwSet w11 p r.n)) := Lib.hid (by
        have h3 := hR11.cw0 H1.out.ok.len
        have h4 := H1.out.chosen HSS.out HLL.out HT9.out HTK.out HO9.out HN.out HBK.out HR9.out hT11 (w11 := cwSet w11 p r.n) (by rw [HE.out]; exact h3.relog (chosenL r)) (tch_cw w11 p r.n)
        exact ⟨⟨_, _, _, _, _, _, h4.1⟩, HK1.out.trans h4.2⟩)
      clear hR11 hT11
      go_wp2_with (refine wpList_store_mid rfl 164 (.tmp 37) (.tmp 35) rfl p 0 #[.int .i64 r.n, .bool false, .bool false, .bool false, .bool false, .bool false, .bool false, .bool false, .bool false] rfl rfl HTH.out infoW9 (cw1 r.n) ?_)
      go_end0
      exact ⟨rfl, HFI.out⟩
end Go.Proofs.Ytnhnpfhfcbmmlaa
namespace Go.Proofs.Ytnhnpfhfcbmmlaa
open Go Go.RowKit
set_option linter.unusedVariables false
set_option linter.unusedSimpArgs false

theorem OkR.stages {r : Rd} (h : OkR r) : r.stage = 1 ∨ r.stage = 2 ∨ r.stage = 3 ∨ r.stage = 4 := by have := h.st; omega
/-- Log's answer. -/
def LogO (w : World) (r : Rd) (e : Ending) (w' : World) : Prop := (r.stage = 2 ∨ r.stage = 3 → GotC w r.log e w') ∧ (¬ (r.stage = 2 ∨ r.stage = 3) → e = .returned (.slice none 0 0)) ∧ Below w.heap.size w w'
def MisO (w : World) (r : Rd) (e : Ending) (w' : World) : Prop := (r.stage = 1 ∨ r.stage = 2 → GotI w (silN r.ans r.n) e w') ∧ (¬ (r.stage = 1 ∨ r.stage = 2) → e = .returned (.slice none 0 0)) ∧ Below w.heap.size w w'
def placeR (r : Rd) : Int := if r.stage = 2 ∨ r.stage = 3 then findR r else 0
section
variable {w0 : World} {p : Nat} {r : Rd} {K : Nat → Prop} {a1 : Option Addr} {c1 : Nat} {v1 : List Value} {a2 : Option Addr} {c2 : Nat} {v2 : List Value}
set_option maxRecDepth 100000 in
set_option maxHeartbeats 2000000 in
theorem log_cR (w : World) (h : RX w0 w p r K a1 c1 v1 a2 c2 v2) :
    Calls Try.prog 52 #[.pointer (some ⟨p, 0, none⟩)] w (LogO w r) := by
  have hp0 : ((some (⟨p, 0, none⟩ : Addr)) == none) = false := rfl
  have CS := Lib.hid (stage_c w p r _ _ h.ob h.ok)
  have H := Lib.hid h
  obtain ⟨s, hs⟩ : ∃ s, s = r.stage := ⟨_, rfl⟩
  have hss : s = 1 ∨ s = 2 ∨ s = 3 ∨ s = 4 := by rw [hs]; exact h.ok.stages
  have HS := Lib.hid hs
  rw [← hs] at CS
  clear h hs
  go_enter Try.func52, Try.ntmps52
  go_wp2_with fail
  refine CS.out.mono ?_
  rintro e w1 ⟨rfl, hb1⟩
  have HB1 := Lib.hid hb1
  clear hb1 CS
  rcases hss with rfl | rfl | rfl | rfl
  · have HF : Hid (LogO w r (.returned (.slice none 0 0)) w1) := Lib.hid ⟨fun h => by have := HS.out; omega, fun _ => rfl, HB1.out⟩
    go_wp2
    go_ret
    exact HF.out
  · have c15 := (((H.out.new HB1.out).1).ob.cs H.out.ok.len).c15
    have CC := Lib.hid (copyK_c r.log v2 a2 r.log.length c2 w1 (((H.out.new HB1.out).1).log.in H.out.ok.lty) (by have := H.out.ok.few; omega) (fun x hx => by have := H.out.ok.es x hx; omega))
    go_wp2_with fail
    refine CC.out.mono ?_
    rintro e w2 ⟨⟨a5, c5, v5, rfl, hO5⟩, hb2⟩
    have HF : Hid (LogO w r (.returned (.slice a5 r.log.length c5)) w2) := Lib.hid ⟨fun _ => ⟨⟨a5, c5, v5, rfl, hO5.base HB1.out.size⟩, bl_tr HB1.out hb2⟩, fun h => by have := HS.out; omega, bl_tr HB1.out hb2⟩
    clear hO5 hb2 c15 CC
    go_wp2
    go_ret
    exact HF.out
  · have c15 := (((H.out.new HB1.out).1).ob.cs H.out.ok.len).c15
    have CC := Lib.hid (copyK_c r.log v2 a2 r.log.length c2 w1 (((H.out.new HB1.out).1).log.in H.out.ok.lty) (by have := H.out.ok.few; omega) (fun x hx => by have := H.out.ok.es x hx; omega))
    go_wp2_with fail
    refine CC.out.mono ?_
    rintro e w2 ⟨⟨a5, c5, v5, rfl, hO5⟩, hb2⟩
    have HF : Hid (LogO w r (.returned (.slice a5 r.log.length c5)) w2) := Lib.hid ⟨fun _ => ⟨⟨a5, c5, v5, rfl, hO5.base HB1.out.size⟩, bl_tr HB1.out hb2⟩, fun h => by have := HS.out; omega, bl_tr HB1.out hb2⟩
    clear hO5 hb2 c15 CC
    go_wp2
    go_ret
    exact HF.out
  · have HF : Hid (LogO w r (.returned (.slice none 0 0)) w1) := Lib.hid ⟨fun h => by have := HS.out; omega, fun _ => rfl, HB1.out⟩
    go_wp2
    go_ret
    exact HF.out
set_option maxRecDepth 100000 in
set_option maxHeartbeats 2000000 in
theorem place_cR (w : World) (h : RX w0 w p r K a1 c1 v1 a2 c2 v2) :
    Calls Try.prog 53 #[.pointer (some ⟨p, 0, none⟩)] w fun e w' => e = .returned (.int .i64 (placeR r)) ∧ Below w.heap.size w w' := by
  have hp0 : ((some (⟨p, 0, none⟩ : Addr)) == none) = false := rfl
  have CS := Lib.hid (stage_c w p r _ _ h.ob h.ok)
  have H := Lib.hid h
  obtain ⟨s, hs⟩ : ∃ s, s = r.stage := ⟨_, rfl⟩
  have hss : s = 1 ∨ s = 2 ∨ s = 3 ∨ s = 4 := by rw [hs]; exact h.ok.stages
  have HS := Lib.hid hs
  rw [← hs] at CS
  obtain ⟨R, hR⟩ : ∃ R, R = placeR r := ⟨_, rfl⟩
  rw [← hR]
  have HR := Lib.hid hR
  clear h hs hR
  go_enter Try.func53, Try.ntmps53
  go_wp2_with fail
  refine CS.out.mono ?_
  rintro e w1 ⟨rfl, hb1⟩
  have HB1 := Lib.hid hb1
  clear hb1 CS
  rcases hss with rfl | rfl | rfl | rfl
  · have HE : Hid (R = 0) := Lib.hid (by rw [HR.out]; unfold placeR; rw [if_neg (by have := HS.out; omega)])
    go_wp2
    go_ret
    exact ⟨by rw [HE.out]; rfl, HB1.out⟩
  · have H1 := (H.out.new HB1.out).1
    have CC := Lib.hid (find_c w1 p r a1 a2 c1 c2 v1 v2 H1.ob H1.ok (H1.want.in H1.ok.wty) (H1.log.in H1.ok.lty))
    have HE : Hid (R = findR r) := Lib.hid (by rw [HR.out]; unfold placeR; rw [if_pos (by have := HS.out; omega)])
    clear H1
    go_wp2_with fail
    refine CC.out.mono ?_
    rintro e w2 ⟨rfl, hb2⟩
    have HB2 := Lib.hid (bl_tr HB1.out hb2)
    clear hb2 CC
    go_wp2
    go_ret
    exact ⟨by rw [HE.out]; rfl, HB2.out⟩
  · have H1 := (H.out.new HB1.out).1
    have CC := Lib.hid (find_c w1 p r a1 a2 c1 c2 v1 v2 H1.ob H1.ok (H1.want.in H1.ok.wty) (H1.log.in H1.ok.lty))
    have HE : Hid (R = findR r) := Lib.hid (by rw [HR.out]; unfold placeR; rw [if_pos (by have := HS.out; omega)])
    clear H1
    go_wp2_with fail
    refine CC.out.mono ?_
    rintro e w2 ⟨rfl, hb2⟩
    have HB2 := Lib.hid (bl_tr HB1.out hb2)
    clear hb2 CC
    go_wp2
    go_ret
    exact ⟨by rw [HE.out]; rfl, HB2.out⟩
  · have HE : Hid (R = 0) := Lib.hid (by rw [HR.out]; unfold placeR; rw [if_neg (by have := HS.out; omega)])
    go_wp2
    go_ret
    exact ⟨by rw [HE.out]; rfl, HB1.out⟩
set_option maxRecDepth 100000 in
set_option maxHeartbeats 2000000 in
theorem missing_cR (w : World) (h : RX w0 w p r K a1 c1 v1 a2 c2 v2) :
    Calls Try.prog 55 #[.pointer (some ⟨p, 0, none⟩)] w (MisO w r) := by
  have hp0 : ((some (⟨p, 0, none⟩ : Addr)) == none) = false := rfl
  have CS := Lib.hid (stage_c w p r _ _ h.ob h.ok)
  have H := Lib.hid h
  obtain ⟨s, hs⟩ : ∃ s, s = r.stage := ⟨_, rfl⟩
  have hss : s = 1 ∨ s = 2 ∨ s = 3 ∨ s = 4 := by rw [hs]; exact h.ok.stages
  have HS := Lib.hid hs
  rw [← hs] at CS
  clear h hs
  go_enter Try.func55, Try.ntmps55
  go_wp2_with fail
  refine CS.out.mono ?_
  rintro e w1 ⟨rfl, hb1⟩
  have HB1 := Lib.hid hb1
  clear hb1 CS
  rcases hss with rfl | rfl | rfl | rfl
  · have H1 := (H.out.new HB1.out).1
    have CC := Lib.hid (silent_c w1 p r.n r.ans (H1.ob.cw H1.ok.len) H1.ok.n.2)
    clear H1
    go_wp2_with fail
    refine CC.out.mono ?_
    rintro e w2 ⟨⟨a5, c5, rfl, hO5⟩, hb2⟩
    have HF : Hid (MisO w r (.returned (.slice a5 (silN r.ans r.n).length c5)) w2) := Lib.hid ⟨fun _ => ⟨⟨a5, c5, rfl, own_base hO5 HB1.out.size⟩, bl_tr HB1.out hb2⟩, fun h => by have := HS.out; omega, bl_tr HB1.out hb2⟩
    clear hO5 hb2 CC
    go_wp2
    go_ret
    exact HF.out
  · have H1 := (H.out.new HB1.out).1
    have CC := Lib.hid (silent_c w1 p r.n r.ans (H1.ob.cw H1.ok.len) H1.ok.n.2)
    clear H1
    go_wp2_with fail
    refine CC.out.mono ?_
    rintro e w2 ⟨⟨a5, c5, rfl, hO5⟩, hb2⟩
    have HF : Hid (MisO w r (.returned (.slice a5 (silN r.ans r.n).length c5)) w2) := Lib.hid ⟨fun _ => ⟨⟨a5, c5, rfl, own_base hO5 HB1.out.size⟩, bl_tr HB1.out hb2⟩, fun h => by have := HS.out; omega, bl_tr HB1.out hb2⟩
    clear hO5 hb2 CC
    go_wp2
    go_ret
    exact HF.out
  · have HF : Hid (MisO w r (.returned (.slice none 0 0)) w1) := Lib.hid ⟨fun h => by have := HS.out; omega, fun _ => rfl, HB1.out⟩
    go_wp2
    go_ret
    exact HF.out
  · have HF : Hid (MisO w r (.returned (.slice none 0 0)) w1) := Lib.hid ⟨fun h => by have := HS.out; omega, fun _ => rfl, HB1.out⟩
    go_wp2
    go_ret
    exact HF.out
end
set_option maxRecDepth 100000 in
set_option maxHeartbeats 2000000 in
theorem ballot_cR (w : World) (p : Nat) (r : Rd) (u v : Value) (h : ROb w p r u v) (ho : OkR r) :
    Calls Try.prog 56 #[.pointer (some ⟨p, 0, none⟩)] w fun e w' => e = .returned r.b.val ∧ Below w.heap.size w w' := by
  obtain ⟨w1, hw1⟩ : ∃ W, W = w.alloc bl0.obj := ⟨_, rfl⟩
  have hA := bxB_new w bl0
  rw [← hw1] at hA
  have hb1 : Below w.heap.size w w1 := by rw [hw1]; exact bl_al (Below.refl _ _) _
  obtain ⟨q, hq⟩ : ∃ p, p = w.heap.size := ⟨_, rfl⟩
  rw [← hq] at hA
  have HQ : Hid (q = w.heap.size ∧ p < q) := Lib.hid ⟨hq, by have := h.lt; omega⟩
  have HW1 := Lib.hid (And.intro hw1 hq)
  have HB := Lib.hid hb1
  have HA := Lib.hid hA
  have hcs := (h.below hb1).cs ho.len
  have c9 := hcs.c9
  have c10 := hcs.c10
  obtain ⟨z0, z1⟩ := hA.at
  have f0 : w1.frozen? ⟨q, 0, none⟩ = false := frozen_of_row w1 q 0 _ _ hA
  have f1 : w1.frozen? ⟨q, 1, none⟩ = false := frozen_of_row w1 q 1 _ _ hA
  have hne : ((some (⟨p, 0, none⟩ : Addr)) == none) = false := rfl
  obtain ⟨b, hb⟩ : ∃ b, b = r.b := ⟨_, rfl⟩
  rw [← hb] at c9 c10 ⊢
  obtain ⟨x, y⟩ := b
  clear hw1 hA hb1 hcs hq h ho hb
  go_enter Try.func56, Try.ntmps56
  go_upto_region 1 with fail
  rw [show w.alloc (.cells #[.int .i64 0, .int .i64 0] tyB2) = w1 from HW1.out.1.symm, ← HW1.out.2]
  go_wp2
  have hA6 : BxB ((w1.setCell ⟨q, 0, none⟩ (.int .i64 x)).setCell ⟨q, 1, none⟩ (.int .i64 y)) q ⟨x, y⟩ := by
    have h0 := heap_setCell_same w1 q 0 _ _ (.int .i64 x) HA.out
    exact heap_setCell_same _ q 1 _ _ (.int .i64 y) h0
  have hb6 : Below w.heap.size w ((w1.setCell ⟨q, 0, none⟩ (.int .i64 x)).setCell ⟨q, 1, none⟩ (.int .i64 y)) := bl_set (bl_set HB.out (by have := HQ.out; omega) _) (by have := HQ.out; omega) _
  obtain ⟨w6, hw6⟩ : ∃ v, v = (w1.setCell ⟨q, 0, none⟩ (.int .i64 x)).setCell ⟨q, 1, none⟩ (.int .i64 y) := ⟨_, rfl⟩
  rw [← hw6] at hA6 hb6 ⊢
  obtain ⟨y0, y1⟩ := hA6.at
  refine bodyPost_ret (v := Bl.val ⟨x, y⟩) (by simp [results, Try.results56, go_sem, y0, y1]) rfl ?_
  exact ⟨rfl, hb6⟩
/-- A new round. -/
def newR (n : Nat) (b : Bl) (want : List Cm) : Rd := ⟨n, none8, b, want, 1, bl0, []⟩
theorem newR_ok {n : Nat} {b : Bl} {want : List Cm} (hn : 1 ≤ n ∧ n ≤ 8) (hb : TyB b) (hw : want.length ≤ 1) (hg : GoodL want) (ht : ∀ x ∈ want, TyC x) : OkR (newR n b want) :=
  ⟨hn, rfl, hb, (show TyB bl0 from ⟨⟨by decide, by decide⟩, ⟨by decide, by decide⟩⟩), hw, hg, ht, fun x hx => (by cases hx), Nat.zero_le _, fun x hx => (by cases hx), (show (1 : Int) ≤ 1 ∧ (1 : Int) ≤ 4 from by decide), fun _ => (show GoodL [] from by decide)⟩
set_option maxRecDepth 100000 in
set_option maxHeartbeats 4000000 in
theorem newR_c (n : Nat) (hn : 1 ≤ n ∧ n ≤ 8) (b : Bl) (hb : TyB b) (want : List Cm) (vs : List Value) (a : Option Addr) (m c : Nat) (w : World) (hI : InC w a m c want vs) (hw : want.length ≤ 1) (hg : GoodL want) :
    Calls Try.prog 47 #[.int .i64 n, b.val, .slice a m c] w fun e w' => ∃ p, e = .returned (.tuple #[.pointer (some ⟨p, 0, none⟩), .nilIface]) ∧ ROn w w' p (newR n b want) (fun k => k < w.heap.size) ∧ Below w.heap.size w w' := by
  obtain ⟨w1, hw1⟩ : ∃ W, W = w.alloc b.obj := ⟨_, rfl⟩
  have hA := bxB_new w b
  rw [← hw1] at hA
  have hb1 : Below w.heap.size w w1 := by rw [hw1]; exact bl_al (Below.refl _ _) _
  obtain ⟨q, hq⟩ : ∃ p, p = w.heap.size := ⟨_, rfl⟩
  rw [← hq] at hA
  have HW1 := Lib.hid (And.intro hw1 hq)
  have HB := Lib.hid hb1
  have HA := Lib.hid hA
  have hlen := hI.len
  have HI := Lib.hid (hI.below hb1)
  have HOK := Lib.hid (newR_ok hn hb hw hg hI.typ)
  have hn1 : ¬ ((n : Int) < 1) := by omega
  have hn8 : ¬ ((n : Int) > 8) := by omega
  have hm1 : ¬ ((m : Int) > 1) := by omega
  have CK0 := checkLog_c want vs a m c w1 (hI.below hb1) (by omega)
  rw [if_pos hg] at CK0
  have CK := Lib.hid CK0
  have HES : Hid (∀ x ∈ want, x.es.length ≤ 1048576) := Lib.hid (fun x hx => by have := goodC_es (hg.2.1 x hx); omega)
  have hm2 : m ≤ 1 := by omega
  have HLN := Lib.hid hlen
  have q0 := nilEl
  have q1 := nilNe
  clear hw1 hA hb1 hq hI CK0 hb hg hw hlen
  obtain ⟨x, y⟩ := b
  go_enter Try.func47, Try.ntmps47
  go_upto_region 1 with fail
  rw [show w.alloc (.cells #[.int .i64 x, .int .i64 y] tyB2) = w1 from HW1.out.1.symm, ← HW1.out.2]
  go_wp2_with fail
  refine CK.out.mono ?_
  rintro e w2 ⟨rfl, hb2⟩
  rw [show errF 0 = .nilIface from rfl]
  have HB2 := Lib.hid (bl_tr HB.out hb2)
  have HI2 := Lib.hid (HI.out.below hb2)
  have HA2 := Lib.hid (HA.out.later hb2)
  clear hb2 CK
  go_upto_region 5 with fail
  have hS0 : w2.drew.cell? ⟨q, 0, none⟩ = some (.int .i64 x) ∧ w2.drew.cell? ⟨q, 1, none⟩ = some (.int .i64 y) := ⟨HA2.out.at.1, HA2.out.at.2⟩
  have CC := Lib.hid (copyK_c want vs a m c w2.drew (HI2.out.below (Below.refl _ _).drew) (by omega) HES.out)
  go_region_held3 (fun wx => wx.cell? ⟨q, 0, none⟩ = some (.int .i64 x) ∧ wx.cell? ⟨q, 1, none⟩ = some (.int .i64 y)) (first | (with_reducible exact hS0) | (with_reducible assumption) | (with_reducible exact hS2 _) | fail)
    (first
      | (go_at_call 94; (with_reducible refine CC.out.mono ?_); rintro e w5 ⟨⟨a5, c5, v5, rfl, hO5⟩, hb5⟩; have hS1 := (show w5.cell? ⟨q, 0, none⟩ = some (.int .i64 x) ∧ w5.cell? ⟨q, 1, none⟩ = some (.int .i64 y) from ⟨cell_later hb5 hS0.1, cell_later hb5 hS0.2⟩); have hS2 := (fun (o : Obj) => (show (w5.alloc o).cell? ⟨q, 0, none⟩ = some (.int .i64 x) ∧ (w5.alloc o).cell? ⟨q, 1, none⟩ = some (.int .i64 y) from ⟨cell_later (bl_al (Below.refl w5.heap.size w5) o) hS1.1, cell_later (bl_al (Below.refl w5.heap.size w5) o) hS1.2⟩)))
      | fail)
  all_goals
    have hb25 : Below w.heap.size w w5 := bl_tr (bl_tr HB2.out (Below.refl _ _).drew) hb5
    have HF : Hid (∃ p, Ending.returned (.tuple #[.pointer (some ⟨w5.heap.size, 0, none⟩), .nilIface]) = .returned (.tuple #[.pointer (some ⟨p, 0, none⟩), .nilIface]) ∧ ROn w (w5.alloc (.cells (rnL (newR n ⟨x, y⟩ want) (.slice a5 want.length c5) (.slice none 0 0)).toArray tyR)) p (newR n ⟨x, y⟩ want) (fun k => k < w.heap.size) ∧ Below w.heap.size w (w5.alloc (.cells (rnL (newR n ⟨x, y⟩ want) (.slice a5 want.length c5) (.slice none 0 0)).toArray tyR))) := Lib.hid (by
      have hal := bl_al (Below.refl w5.heap.size w5) (.cells (rnL (newR n ⟨x, y⟩ want) (.slice a5 want.length c5) (.slice none 0 0)).toArray tyR)
      have hO6 := (hO5.base (show w.heap.size ≤ w2.drew.heap.size from HB2.out.size)).later hal
      refine ⟨_, rfl, ⟨a5, c5, v5, none, 0, [], ⟨heap_alloc_new w5 _, hO6, owC_nil _ _, fun _ g _ h => (by cases h), fun k hk hK => ?_, hb25.size, fun k hk => Nat.lt_of_lt_of_le hk (bl_tr hb25 hal).size, bl_tr hb25 hal, HOK.out⟩⟩, bl_tr hb25 hal⟩
      rcases hk with rfl | hk | hk
      · have := hb25.size; omega
      · have := (hO6.blks k hk).1; omega
      · rcases hk with ⟨ad, h, _⟩ | ⟨v, hv, _⟩
        · cases h
        · cases hv)
    clear hS0 hS1 hS2 hO5 hb5 hb25 CC
    go_wp2
    go_ret2
    exact HF.out
/-! A nil round. -/
set_option maxRecDepth 100000 in
theorem log_n (w : World) :
    Calls Try.prog 52 #[.pointer none] w fun e w' => e = .returned (.slice none 0 0) ∧ Below w.heap.size w w' := by
  have CS := Lib.hid (stage_n w)
  go_enter Try.func52, Try.ntmps52
  go_wp2_with fail
  refine CS.out.mono ?_
  rintro e w1 ⟨rfl, hb1⟩
  have HB1 := Lib.hid hb1
  clear hb1 CS
  go_wp2
  go_ret
  exact ⟨rfl, HB1.out⟩
set_option maxRecDepth 100000 in
theorem place_n (w : World) :
    Calls Try.prog 53 #[.pointer none] w fun e w' => e = .returned (.int .i64 0) ∧ Below w.heap.size w w' := by
  have CS := Lib.hid (stage_n w)
  go_enter Try.func53, Try.ntmps53
  go_wp2_with fail
  refine CS.out.mono ?_
  rintro e w1 ⟨rfl, hb1⟩
  have HB1 := Lib.hid hb1
  clear hb1 CS
  go_wp2
  go_ret
  exact ⟨rfl, HB1.out⟩
set_option maxRecDepth 100000 in
theorem missing_n (w : World) :
    Calls Try.prog 55 #[.pointer none] w fun e w' => e = .returned (.slice none 0 0) ∧ Below w.heap.size w w' := by
  have CS := Lib.hid (stage_n w)
  go_enter Try.func55, Try.ntmps55
  go_wp2_with fail
  refine CS.out.mono ?_
  rintro e w1 ⟨rfl, hb1⟩
  have HB1 := Lib.hid hb1
  clear hb1 CS
  go_wp2
  go_ret
  exact ⟨rfl, HB1.out⟩
set_option maxRecDepth 100000 in
theorem accepted_n (w : World) (node : Int) :
    Calls Try.prog 54 #[.pointer none, .int .i64 node] w fun e w' => e = .returned (.int .i64 0) ∧ Below w.heap.size w w' := by
  have CS := Lib.hid (fun W => stage_n W)
  go_enter Try.func54, Try.ntmps54
  go_wp2_with fail
  refine (CS.out _).mono ?_
  rintro e w1 ⟨rfl, hb1⟩
  go_wp2_with fail
  refine (CS.out _).mono ?_
  rintro e w2 ⟨rfl, hb2⟩
  have HB1 := Lib.hid (bl_tr hb1 hb2)
  clear hb1 hb2 CS
  go_wp2
  go_ret
  exact ⟨rfl, HB1.out⟩
set_option maxRecDepth 100000 in
theorem promise_n (w : World) (node : Int) (b : Bl) (v : Value) :
    Calls Try.prog 49 #[.pointer none, .int .i64 node, b.val, v] w fun e w' => e = .returned (.int .i64 0) ∧ Below w.heap.size w w' := by
  have CS := Lib.hid (fun W => stage_n W)
  have HB0 := Lib.hid (bl_al (Below.refl w.heap.size w) b.obj)
  go_enter Try.func49, Try.ntmps49
  go_wp2_with fail
  refine (CS.out _).mono ?_
  rintro e w1 ⟨rfl, hb1⟩
  go_wp2_with fail
  refine (CS.out _).mono ?_
  rintro e w2 ⟨rfl, hb2⟩
  have HB1 := Lib.hid (bl_tr HB0.out (bl_tr hb1 hb2))
  clear hb1 hb2 CS
  go_wp2
  go_ret
  exact ⟨rfl, HB1.out⟩
set_option maxRecDepth 100000 in
set_option maxHeartbeats 2000000 in
theorem ballot_n (w : World) :
    Calls Try.prog 56 #[.pointer none] w fun e w' => e = .returned bl0.val ∧ Below w.heap.size w w' := by
  obtain ⟨w1, hw1⟩ : ∃ W, W = w.alloc bl0.obj := ⟨_, rfl⟩
  have hA := bxB_new w bl0
  rw [← hw1] at hA
  have hb1 : Below w.heap.size w w1 := by rw [hw1]; exact bl_al (Below.refl _ _) _
  obtain ⟨q, hq⟩ : ∃ p, p = w.heap.size := ⟨_, rfl⟩
  rw [← hq] at hA
  have HQ := Lib.hid hq
  have HW1 := Lib.hid (And.intro hw1 hq)
  have HB := Lib.hid hb1
  have HA := Lib.hid hA
  obtain ⟨z0, z1⟩ := hA.at
  have f0 : w1.frozen? ⟨q, 0, none⟩ = false := frozen_of_row w1 q 0 _ _ hA
  have f1 : w1.frozen? ⟨q, 1, none⟩ = false := frozen_of_row w1 q 1 _ _ hA
  clear hw1 hA hb1 hq
  go_enter Try.func56, Try.ntmps56
  go_upto_region 1 with fail
  rw [show w.alloc (.cells #[.int .i64 0, .int .i64 0] tyB2) = w1 from HW1.out.1.symm, ← HW1.out.2]
  go_wp2
  have hA6 : BxB ((w1.setCell ⟨q, 0, none⟩ (.int .i64 0)).setCell ⟨q, 1, none⟩ (.int .i64 0)) q bl0 := by
    have h0 := heap_setCell_same w1 q 0 _ _ (.int .i64 0) HA.out
    exact heap_setCell_same _ q 1 _ _ (.int .i64 0) h0
  have hb6 : Below w.heap.size w ((w1.setCell ⟨q, 0, none⟩ (.int .i64 0)).setCell ⟨q, 1, none⟩ (.int .i64 0)) := bl_set (bl_set HB.out (by have := HQ.out; omega) _) (by have := HQ.out; omega) _
  obtain ⟨w6, hw6⟩ : ∃ v, v = (w1.setCell ⟨q, 0, none⟩ (.int .i64 0)).setCell ⟨q, 1, none⟩ (.int .i64 0) := ⟨_, rfl⟩
  rw [← hw6] at hA6 hb6 ⊢
  obtain ⟨y0, y1⟩ := hA6.at
  refine bodyPost_ret (v := Bl.val bl0) (by simp [results, Try.results56, go_sem, y0, y1]) rfl ?_
  exact ⟨rfl, hb6⟩
end Go.Proofs.Ytnhnpfhfcbmmlaa
namespace Go.Proofs.Ytnhnpfhfcbmmlaa
open Go Go.RowKit
set_option linter.unusedVariables false
set_option linter.unusedSimpArgs false

theorem RX.hears {w0 w w1 : World} {p : Nat} {r : Rd} {K : Nat → Prop} {a1 : Option Addr} {c1 : Nat} {v1 : List Value} {a2 : Option Addr} {c2 : Nat} {v2 : List Value} (h : RX w0 w p r K a1 c1 v1 a2 c2 v2) (hb : Below w.heap.size w w1) {node : Int} (hm : node ∈ silN r.ans r.n) :
    RX w0 (w1.setCell ⟨p, 1 + (node - 16).toNat, none⟩ (.bool true)) p (heard r node) K a1 c1 v1 a2 c2 v2 ∧ Kpz K w (w1.setCell ⟨p, 1 + (node - 16).toNat, none⟩ (.bool true)) := by
  have h1 := h.new hb
  have hr := (silN_mem r.ans r.n node).1 hm
  have hn := h.ok.n.2
  have h2 := h1.1.put (r2 := heard r node) (tch_set w1 ⟨p, 1 + (node - 16).toNat, none⟩ (.bool true)) (h1.1.ob.put _ _ (rnL_set h.ok.len (by omega))) rfl rfl (fun e => e) (h.ok.heard node)
  exact ⟨h2.1, h1.2.trans h2.2⟩
theorem RX.stage3 {w0 w : World} {p : Nat} {r : Rd} {K : Nat → Prop} {a1 : Option Addr} {c1 : Nat} {v1 : List Value} {a2 : Option Addr} {c2 : Nat} {v2 : List Value} (h : RX w0 w p r K a1 c1 v1 a2 c2 v2) :
    RX w0 (w.setCell ⟨p, 12, none⟩ (.int .i64 3)) p { r with stage := 3 } K a1 c1 v1 a2 c2 v2 ∧ Kpz K w (w.setCell ⟨p, 12, none⟩ (.int .i64 3)) :=
  h.put (r2 := { r with stage := 3 }) (tch_set w ⟨p, 12, none⟩ _) (h.ob.put 12 (.int .i64 3) (rnL_stage h.ok.len 3)) rfl rfl (fun e => by simp at e) ⟨h.ok.n, h.ok.len, h.ok.b, h.ok.gr, h.ok.one, h.ok.wgood, h.ok.wty, h.ok.lty, h.ok.few, h.ok.es, by simp, fun e => by simp at e⟩
/-- What Promise and Accepted leave. -/
def StO (w0 w : World) (p : Nat) (r2 : Rd) (K : Nat → Prop) (e : Ending) (w' : World) : Prop := e = .returned (.int .i64 r2.stage) ∧ ROn w0 w' p r2 K ∧ Kpz K w w'
set_option maxRecDepth 100000 in
set_option maxHeartbeats 4000000 in
theorem acceptedR_c (w0 w : World) (p : Nat) (r : Rd) (K : Nat → Prop) (a1 : Option Addr) (c1 : Nat) (v1 : List Value) (a2 : Option Addr) (c2 : Nat) (v2 : List Value) (node : Int) (h : RX w0 w p r K a1 c1 v1 a2 c2 v2) :
    Calls Try.prog 54 #[.pointer (some ⟨p, 0, none⟩), .int .i64 node] w (StO w0 w p (accR r node) K) := by
  have hp0 : ((some (⟨p, 0, none⟩ : Addr)) == none) = false := rfl
  have CS := Lib.hid (stage_c w p r _ _ h.ob h.ok)
  have H := Lib.hid h
  obtain ⟨s, hs⟩ : ∃ s, s = r.stage := ⟨_, rfl⟩
  have HS := Lib.hid hs
  rw [← hs] at CS
  obtain ⟨R, hR⟩ : ∃ R, R = accR r node := ⟨_, rfl⟩
  rw [← hR]
  have HR := Lib.hid hR
  clear h hs hR
  go_enter Try.func54, Try.ntmps54
  go_wp2_with fail
  refine CS.out.mono ?_
  rintro e w1 ⟨rfl, hb1⟩
  have H1 := Lib.hid (H.out.new hb1).1
  have HK1 := Lib.hid (H.out.new hb1).2
  clear hb1 CS
  by_cases h2 : s = 2
  · subst h2
    have CH := Lib.hid (hearC_c w1 p r _ _ node H1.out.ob H1.out.ok)
    go_wp2_with fail
    refine CH.out.mono ?_
    intro e w2 hO
    by_cases hm : node ∈ silN r.ans r.n
    · obtain ⟨rfl, w3, hb3, rfl⟩ := hO.yes hm
      have HX := Lib.hid (H1.out.hears hb3 hm)
      obtain ⟨w4, hw4⟩ : ∃ w4, w4 = w3.setCell ⟨p, 1 + (node - 16).toNat, none⟩ (.bool true) := ⟨_, rfl⟩
      rw [← hw4] at HX ⊢
      have CM := Lib.hid (isMost_c w4 p (heard r node) _ _ HX.out.1.ob HX.out.1.ok)
      have HM := Lib.hid hm
      clear hO hb3 hw4 CH hm
      by_cases hmost : Most (heard r node)
      · rw [decide_eq_true hmost] at CM
        have HE : Hid (R = { heard r node with stage := 3 }) := Lib.hid (by rw [HR.out]; unfold accR; rw [if_pos ⟨HS.out.symm, HM.out⟩, if_pos hmost])
        clear hmost
        go_wp2_with fail
        refine CM.out.mono ?_
        rintro e w5 ⟨rfl, hb5⟩
        have HX5 := Lib.hid (HX.out.1.new hb5)
        have f12 := HX5.out.1.ob.free 12
        have c12 := (HX5.out.1.ob.cs HX5.out.1.ok.len).c12
        have HX6 := Lib.hid HX5.out.1.stage3
        clear hb5 CM
        go_upto_region 3 with fail
        obtain ⟨w6, hw6⟩ : ∃ w6, w6 = w5.setCell ⟨p, 12, none⟩ (.int .i64 3) := ⟨_, rfl⟩
        rw [← hw6] at HX6 ⊢
        have CS2 := Lib.hid (stage_c w6 p _ _ _ HX6.out.1.ob HX6.out.1.ok)
        clear hw6 f12 c12
        go_wp2_with fail
        refine CS2.out.mono ?_
        rintro e w7 ⟨rfl, hb7⟩
        have HX7 := Lib.hid (HX6.out.1.new hb7)
        clear hb7 CS2
        have HF : Hid (StO w0 w p R K (.returned (.int .i64 3)) w7) := Lib.hid (by
          rw [HE.out]
          exact ⟨rfl, ⟨_, _, _, _, _, _, HX7.out.1⟩, HK1.out.trans (HX.out.2.trans (HX5.out.2.trans (HX6.out.2.trans HX7.out.2)))⟩)
        go_wp2
        go_ret
        exact HF.out
      · rw [decide_eq_false hmost] at CM
        have HE : Hid (R = heard r node) := Lib.hid (by rw [HR.out]; unfold accR; rw [if_pos ⟨HS.out.symm, HM.out⟩, if_neg hmost])
        clear hmost
        go_wp2_with fail
        refine CM.out.mono ?_
        rintro e w5 ⟨rfl, hb5⟩
        have HX5 := Lib.hid (HX.out.1.new hb5)
        have CS2 := Lib.hid (stage_c w5 p _ _ _ HX5.out.1.ob HX5.out.1.ok)
        clear hb5 CM
        go_wp2_with fail
        refine CS2.out.mono ?_
        rintro e w7 ⟨rfl, hb7⟩
        have HX7 := Lib.hid (HX5.out.1.new hb7)
        clear hb7 CS2
        have HF : Hid (StO w0 w p R K (.returned (.int .i64 (heard r node).stage)) w7) := Lib.hid (by
          rw [HE.out]
          exact ⟨rfl, ⟨_, _, _, _, _, _, HX7.out.1⟩, HK1.out.trans (HX.out.2.trans (HX5.out.2.trans HX7.out.2))⟩)
        go_wp2
        go_ret
        exact HF.out
    · obtain ⟨rfl, hb2⟩ := hO.no hm
      have HE : Hid (R = r) := Lib.hid (by rw [HR.out]; unfold accR; rw [if_neg (fun h => hm h.2)])
      have HX5 := Lib.hid (H1.out.new hb2)
      have CS2 := Lib.hid (stage_c w2 p _ _ _ HX5.out.1.ob HX5.out.1.ok)
      clear hO hb2 hm CH
      go_wp2_with fail
      refine CS2.out.mono ?_
      rintro e w7 ⟨rfl, hb7⟩
      have HX7 := Lib.hid (HX5.out.1.new hb7)
      clear hb7 CS2
      have HF : Hid (StO w0 w p R K (.returned (.int .i64 r.stage)) w7) := Lib.hid (by
        rw [HE.out]
        exact ⟨rfl, ⟨_, _, _, _, _, _, HX7.out.1⟩, HK1.out.trans (HX5.out.2.trans HX7.out.2)⟩)
      go_wp2
      go_ret
      exact HF.out
  · have HE : Hid (R = r) := Lib.hid (by rw [HR.out]; unfold accR; rw [if_neg (fun h => h2 (by rw [HS.out]; exact h.1))])
    have hs2 : (s == 2) = false := by simp [h2]
    have CS2 := Lib.hid (stage_c w1 p _ _ _ H1.out.ob H1.out.ok)
    go_wp2_with fail
    refine CS2.out.mono ?_
    rintro e w7 ⟨rfl, hb7⟩
    have HX7 := Lib.hid (H1.out.new hb7)
    clear hb7 CS2
    have HF : Hid (StO w0 w p R K (.returned (.int .i64 r.stage)) w7) := Lib.hid (by
      rw [HE.out]
      exact ⟨rfl, ⟨_, _, _, _, _, _, HX7.out.1⟩, HK1.out.trans HX7.out.2⟩)
    go_wp2
    go_ret
    exact HF.out
theorem rnL_gr {r : Rd} {u v : Value} (h8 : r.ans.length = 8) (b : Bl) (x : Value) : (((rnL r u v).set 13 (.int .i64 b.n)).set 14 (.int .i64 b.node)).set 15 x = rnL { r with gr := b } u x := by
  obtain ⟨n, ans, b0, want, stage, gr, log⟩ := r
  match ans, h8 with
  | [_, _, _, _, _, _, _, _], _ => rfl
/-- The cells of the greatest ballot and the log. -/
def grSet (w : World) (p : Nat) (b : Bl) (x : Value) : World := ((w.setCell ⟨p, 13, none⟩ (.int .i64 b.n)).setCell ⟨p, 14, none⟩ (.int .i64 b.node)).setCell ⟨p, 15, none⟩ x
theorem tch_gr (w : World) (p : Nat) (b : Bl) (x : Value) : Tch (· = p) w (grSet w p b x) := ((tch_set w ⟨p, 13, none⟩ _).trans (tch_set _ ⟨p, 14, none⟩ _)).trans (tch_set _ ⟨p, 15, none⟩ _)
theorem ROb.gr {w : World} {p : Nat} {r : Rd} {u v : Value} (h : ROb w p r u v) (h8 : r.ans.length = 8) (b : Bl) (x : Value) : ROb (grSet w p b x) p { r with gr := b } u x := by
  have h0 := heap_setCell_same w p 13 _ _ (.int .i64 b.n) h
  have h1 := heap_setCell_same _ p 14 _ _ (.int .i64 b.node) h0
  have h2 := heap_setCell_same _ p 15 _ _ x h1
  unfold ROb
  rw [← rnL_gr (v := v) h8 b x]
  unfold grSet
  rw [h2]
  simp
/-- Another log is told. -/
theorem RX.told {w0 w w5 : World} {p : Nat} {r : Rd} {K : Nat → Prop} {a1 : Option Addr} {c1 : Nat} {v1 : List Value} {a2 : Option Addr} {c2 : Nat} {v2 : List Value} (h : RX w0 w p r K a1 c1 v1 a2 c2 v2) (hb : Below w.heap.size w w5) {acc : Bl} (ha : TyB acc) {lg : List Cm} (hg : GoodL lg) (ht : ∀ x ∈ lg, TyC x) {a5 : Option Addr} {c5 : Nat} {v5 : List Value} (hO : OwC w5 w.heap.size lg a5 c5 v5) :
    RX w0 (grSet w5 p acc (.slice a5 lg.length c5)) p { r with gr := acc, log := lg } K a1 c1 v1 a5 c5 v5 ∧ Kpz K w (grSet w5 p acc (.slice a5 lg.length c5)) := by
  have hT : Tch (fun k => k = p ∨ w.heap.size ≤ k) w (grSet w5 p acc (.slice a5 lg.length c5)) := ((tch_below hb).mono (fun k h => .inr h)).trans ((tch_gr w5 p acc _).mono (fun k h => .inl h))
  have h5 := (h.new hb).1
  refine h.setLog hT (fun k hk => hk.imp (fun e => e) (fun e => .inr e)) ((h5.ob.gr h.ok.len acc _).relog lg) rfl ((hO.keep (tch_gr w5 p acc _) (fun k hk => hO.notBox h5.ob k hk)).base h.bel.size) (fun k hk => .inr (hO.blks k hk).1) (fun _ g h1 h2 => ?_) ⟨h.ok.n, h.ok.len, h.ok.b, ha, h.ok.one, h.ok.wgood, h.ok.wty, ht, by have := hg.1; simp only; omega, fun x hx => goodC_es (hg.2.1 x hx), h.ok.st, fun _ => hg⟩
  have e1 := (h.want.own.lt g h1).2
  have e2 := (hO.own.lt g h2).1
  omega
set_option maxRecDepth 100000 in
set_option maxHeartbeats 8000000 in
theorem promiseR_c (w0 w : World) (p : Nat) (r : Rd) (K : Nat → Prop) (a1 : Option Addr) (c1 : Nat) (v1 : List Value) (a2 : Option Addr) (c2 : Nat) (v2 : List Value) (node : Int) (acc : Bl) (hacc : TyB acc) (lg : List Cm) (us : List Value) (a : Option Addr) (n c : Nat) (h : RX w0 w p r K a1 c1 v1 a2 c2 v2) (hI : InC w a n c lg us) (hK : ∀ k, BkC a us k → K k) (hn : n ≤ 4611686018427387904) :
    Calls Try.prog 49 #[.pointer (some ⟨p, 0, none⟩), .int .i64 node, acc.val, .slice a n c] w (StO w0 w p (promR r node acc lg) K) := by
  obtain ⟨wA, hwA⟩ : ∃ W, W = w.alloc acc.obj := ⟨_, rfl⟩
  have hA := bxB_new w acc
  rw [← hwA] at hA
  have hbA : Below w.heap.size w wA := by rw [hwA]; exact bl_al (Below.refl _ _) _
  obtain ⟨q, hq⟩ : ∃ p, p = w.heap.size := ⟨_, rfl⟩
  rw [← hq] at hA
  have HWA := Lib.hid (And.intro hwA hq)
  have HA := Lib.hid hA
  have hpq : p ≠ q := by have := h.ob.lt; omega
  have hp0 : ((some (⟨p, 0, none⟩ : Addr)) == none) = false := rfl
  have HX0 := Lib.hid (h.new hbA)
  have HI := Lib.hid (hI.below hbA)
  have HKK := Lib.hid hK
  have HTC := Lib.hid hI.typ
  have HTA := Lib.hid hacc
  have hlen := hI.len
  have CS := Lib.hid (stage_c wA p r _ _ HX0.out.1.ob HX0.out.1.ok)
  obtain ⟨s, hs⟩ : ∃ s, s = r.stage := ⟨_, rfl⟩
  have HS := Lib.hid hs
  rw [← hs] at CS
  obtain ⟨R, hR⟩ : ∃ R, R = promR r node acc lg := ⟨_, rfl⟩
  rw [← hR]
  have HR := Lib.hid hR
  have q0 := nilEl
  have q1 := nilNe
  have q9 := nine_neq
  obtain ⟨x, y⟩ := acc
  clear h hs hR hwA hA hbA hq hI hK hacc
  go_enter Try.func49, Try.ntmps49
  go_upto_region 1 with fail
  rw [show w.alloc (.cells #[.int .i64 x, .int .i64 y] tyB2) = wA from HWA.out.1.symm, ← HWA.out.2]
  go_wp2_with fail
  refine CS.out.mono ?_
  rintro e w1 ⟨rfl, hb1⟩
  have HX1 := Lib.hid (HX0.out.1.new hb1)
  have HI1 := Lib.hid (HI.out.below hb1)
  have HA1 := Lib.hid (HA.out.later hb1)
  clear hb1 CS
  by_cases h2 : s = 1
  · subst h2
    have CK := Lib.hid (checkLog_c lg us a n c w1 HI1.out hn)
    go_wp2_with fail
    refine CK.out.mono ?_
    rintro e w2 ⟨rfl, hb2⟩
    have HX2 := Lib.hid (HX1.out.1.new hb2)
    have HI2 := Lib.hid (HI1.out.below hb2)
    have HA2 := Lib.hid (HA1.out.later hb2)
    clear hb2 CK
    by_cases hg : GoodL lg
    · rw [if_pos hg, show errF 0 = .nilIface from rfl]
      have HG := Lib.hid hg
      have CH := Lib.hid (hearC_c w2 p r _ _ node HX2.out.1.ob HX2.out.1.ok)
      clear hg
      go_wp2_with fail
      refine CH.out.mono ?_
      intro e w3 hO
      by_cases hm : node ∈ silN r.ans r.n
      · obtain ⟨rfl, w4, hb4, rfl⟩ := hO.yes hm
        have HX3 := Lib.hid (HX2.out.1.hears hb4 hm)
        have HT3 := Lib.hid (((tch_new hb4).mono (fun _ h => h.elim)).trans (tch_set w4 ⟨p, 1 + (node - 16).toNat, none⟩ (.bool true)) : Tch (· = p) w2 (w4.setCell ⟨p, 1 + (node - 16).toNat, none⟩ (.bool true)))
        obtain ⟨w5, hw5⟩ : ∃ w5, w5 = w4.setCell ⟨p, 1 + (node - 16).toNat, none⟩ (.bool true) := ⟨_, rfl⟩
        rw [← hw5] at HX3 HT3 ⊢
        have HI3 := Lib.hid (HI2.out.keep HT3.out (fun k hk e => HX3.out.1.away k (.inl e) (HKK.out k hk)))
        have hA3 : BxB w5 q ⟨x, y⟩ := HT3.out.at HA2.out (fun e => hpq e.symm)
        have HM := Lib.hid hm
        have HRY : Hid (R = if Most (greater (heard r node) ⟨x, y⟩ lg) then chooseR (greater (heard r node) ⟨x, y⟩ lg) else greater (heard r node) ⟨x, y⟩ lg) := Lib.hid (by rw [HR.out]; unfold promR; rw [if_pos ⟨HS.out.symm, HG.out, HM.out⟩])
        have HA3 := Lib.hid hA3
        obtain ⟨r3, hr3⟩ : ∃ r3, r3 = heard r node := ⟨_, rfl⟩
        rw [← hr3] at HRY HX3
        have HS3 : Hid (r3.stage = 1) := Lib.hid (by rw [hr3]; exact HS.out.symm)
        have HK3 : Hid (Kpz K w w5) := Lib.hid (HX0.out.2.trans (HX1.out.2.trans (HX2.out.2.trans HX3.out.2)))
        have hcs := HX3.out.1.ob.cs HX3.out.1.ok.len
        have hS0 : w5.drew.cell? ⟨p, 13, none⟩ = some (.int .i64 r3.gr.n) ∧ w5.drew.cell? ⟨p, 14, none⟩ = some (.int .i64 r3.gr.node) ∧ w5.drew.cell? ⟨q, 0, none⟩ = some (.int .i64 x) ∧ w5.drew.cell? ⟨q, 1, none⟩ = some (.int .i64 y) := ⟨hcs.c13, hcs.c14, hA3.at.1, hA3.at.2⟩
        have CL := Lib.hid (less_c r3.gr ⟨x, y⟩ w5.drew)
        obtain ⟨g, hgr⟩ : ∃ g, g = r3.gr := ⟨_, rfl⟩
        rw [← hgr] at hS0 CL
        have HGR := Lib.hid hgr
        obtain ⟨gx, gy⟩ := g
        have HX := Lib.hid HX3.out.1
        clear hO hb4 hw5 CH hm hA3 hr3 hcs hgr
        go_upto_region 3 with fail
        go_region_held3 (fun wx => wx.cell? ⟨p, 13, none⟩ = some (.int .i64 gx) ∧ wx.cell? ⟨p, 14, none⟩ = some (.int .i64 gy) ∧ wx.cell? ⟨q, 0, none⟩ = some (.int .i64 x) ∧ wx.cell? ⟨q, 1, none⟩ = some (.int .i64 y)) (first | (with_reducible exact hS0) | (with_reducible assumption) | fail)
          (first
            | (go_at_call 42; (with_reducible refine CL.out.mono ?_); rintro e w6 ⟨rfl, hb6⟩; have hS1 := (show w6.cell? ⟨p, 13, none⟩ = some (.int .i64 gx) ∧ w6.cell? ⟨p, 14, none⟩ = some (.int .i64 gy) ∧ w6.cell? ⟨q, 0, none⟩ = some (.int .i64 x) ∧ w6.cell? ⟨q, 1, none⟩ = some (.int .i64 y) from ⟨cell_later hb6 hS0.1, cell_later hb6 hS0.2.1, cell_later hb6 hS0.2.2.1, cell_later hb6 hS0.2.2.2⟩))
            | fail)
        all_goals
          have hb56 : Below w5.heap.size w5 w6 := bl_tr (Below.refl _ _).drew hb6
          have HX6 := Lib.hid (HX.out.new hb56)
          have HI6 := Lib.hid (HI3.out.below hb56)
          have HA6 := Lib.hid (HA3.out.later hb56)
          clear hS0 hS1 hb6 hb56 CL
          by_cases hlt : LtB ⟨gx, gy⟩ ⟨x, y⟩
          · have HGT : Hid (greater r3 ⟨x, y⟩ lg = { r3 with gr := ⟨x, y⟩, log := lg }) := Lib.hid (by unfold greater; rw [if_pos (by rw [← HGR.out]; exact hlt)])
            have hd : decide (LtB ⟨gx, gy⟩ ⟨x, y⟩) = true := decide_eq_true hlt
            rw [hd]
            clear hlt hd
            go_upto_region 4 with fail
            have CC := Lib.hid (copyK_c lg us a n c w6.drew (HI6.out.below (Below.refl _ _).drew) (by have := HG.out.1; omega) (fun z hz => by have := goodC_es (HG.out.2.1 z hz); omega))
            have hS0 : w6.drew.cell? ⟨q, 0, none⟩ = some (.int .i64 x) ∧ w6.drew.cell? ⟨q, 1, none⟩ = some (.int .i64 y) := ⟨HA6.out.at.1, HA6.out.at.2⟩
            go_region_held3 (fun wx => wx.cell? ⟨q, 0, none⟩ = some (.int .i64 x) ∧ wx.cell? ⟨q, 1, none⟩ = some (.int .i64 y)) (first | (with_reducible exact hS0) | (with_reducible assumption) | (with_reducible exact hS2 _ _) | (with_reducible exact hS3 _ _ _) | fail)
              (first
                | (go_at_call 94; (with_reducible refine CC.out.mono ?_); rintro e w7 ⟨⟨a7, c7, v7, rfl, hO7⟩, hb7⟩; have hS1 := (show w7.cell? ⟨q, 0, none⟩ = some (.int .i64 x) ∧ w7.cell? ⟨q, 1, none⟩ = some (.int .i64 y) from ⟨cell_later hb7 hS0.1, cell_later hb7 hS0.2⟩); have hob7 := ((HX6.out.1.new (Below.refl _ _).drew).1.new hb7).1.ob; have hcs7 := hob7.cs HX6.out.1.ok.len; have d13 := hcs7.c13; have d14 := hcs7.c14; have d15 := hcs7.c15; have f13 := hob7.free 13; have f14 := hob7.free 14; have f15 := hob7.free 15; have hS2 := (fun (u v : Value) => (show ((w7.setCell ⟨p, 13, none⟩ u).setCell ⟨p, 14, none⟩ v).cell? ⟨q, 0, none⟩ = some (.int .i64 x) ∧ ((w7.setCell ⟨p, 13, none⟩ u).setCell ⟨p, 14, none⟩ v).cell? ⟨q, 1, none⟩ = some (.int .i64 y) from ⟨((tch_set w7 ⟨p, 13, none⟩ u).trans (tch_set _ ⟨p, 14, none⟩ v)).cell hS1.1 hpq.symm, ((tch_set w7 ⟨p, 13, none⟩ u).trans (tch_set _ ⟨p, 14, none⟩ v)).cell hS1.2 hpq.symm⟩)); have hS3 := (fun (u v z : Value) => (show (((w7.setCell ⟨p, 13, none⟩ u).setCell ⟨p, 14, none⟩ v).setCell ⟨p, 15, none⟩ z).cell? ⟨q, 0, none⟩ = some (.int .i64 x) ∧ (((w7.setCell ⟨p, 13, none⟩ u).setCell ⟨p, 14, none⟩ v).setCell ⟨p, 15, none⟩ z).cell? ⟨q, 1, none⟩ = some (.int .i64 y) from ⟨(tch_set _ ⟨p, 15, none⟩ z).cell (hS2 u v).1 hpq.symm, (tch_set _ ⟨p, 15, none⟩ z).cell (hS2 u v).2 hpq.symm⟩)))
                | fail)
            all_goals
              obtain ⟨w8, hw8⟩ : ∃ w8, w8 = grSet w7 p ⟨x, y⟩ (.slice a7 lg.length c7) := ⟨_, rfl⟩
              rw [show ((w7.setCell ⟨p, 13, none⟩ (.int .i64 x)).setCell ⟨p, 14, none⟩ (.int .i64 y)).setCell ⟨p, 15, none⟩ (.slice a7 n c7) = w8 from (by rw [hw8, hlen]; rfl)]
              have HX8 := Lib.hid (HX6.out.1.told (bl_tr (Below.refl _ _).drew hb7) HTA.out HG.out HTC.out (hO7.base (show w6.heap.size ≤ w6.drew.heap.size from Nat.le_refl _)))
              rw [← hw8, ← HGT.out] at HX8
              clear hS0 hS1 hS2 hS3 hob7 hcs7 d13 d14 d15 f13 f14 f15 hO7 hb7 hw8 CC HGT
              have HK8 : Hid (Kpz K w w8) := Lib.hid (HK3.out.trans (HX6.out.2.trans HX8.out.2))
              obtain ⟨r8, hr8⟩ : ∃ r8, r8 = greater r3 ⟨x, y⟩ lg := ⟨_, rfl⟩
              rw [← hr8] at HX8 HRY
              have HS8 : Hid (r8.stage = 1) := Lib.hid (by rw [hr8, (greater_stage _ _ _).1]; exact HS3.out)
              have CM := Lib.hid (isMost_c w8 p r8 _ _ HX8.out.1.ob HX8.out.1.ok)
              clear hr8
              by_cases hmost : Most r8
              · rw [decide_eq_true hmost] at CM
                have HE : Hid (R = chooseR r8) := Lib.hid (by rw [HRY.out, if_pos hmost])
                clear hmost
                go_wp2_with fail
                refine CM.out.mono ?_
                rintro e w9 ⟨rfl, hb9⟩
                have HX9 := Lib.hid (HX8.out.1.new hb9)
                have CX := Lib.hid (choose_c w0 w9 p r8 K _ _ _ _ _ _ HX9.out.1 HS8.out (HX9.out.1.ok.ask HS8.out).1)
                clear hb9 CM
                go_wp2_with fail
                refine CX.out.mono ?_
                rintro e wa ⟨rfl, hRO, hka⟩
                obtain ⟨b1, d1, u1, b2, d2, u2, hXa⟩ := hRO
                have c12 := (hXa.ob.cs hXa.ok.len).c12
                have HF : Hid (StO w0 w p R K (.returned (.int .i64 (chooseR r8).stage)) wa) := Lib.hid (by
                  rw [HE.out]
                  exact ⟨rfl, ⟨_, _, _, _, _, _, hXa⟩, HK8.out.trans (HX9.out.2.trans hka)⟩)
                clear hXa hka CX
                go_wp2
                go_ret
                exact HF.out
              · rw [decide_eq_false hmost] at CM
                have HE : Hid (R = r8) := Lib.hid (by rw [HRY.out, if_neg hmost])
                clear hmost
                go_wp2_with fail
                refine CM.out.mono ?_
                rintro e w9 ⟨rfl, hb9⟩
                have HX9 := Lib.hid (HX8.out.1.new hb9)
                have c12 := (HX9.out.1.ob.cs HX9.out.1.ok.len).c12
                have HF : Hid (StO w0 w p R K (.returned (.int .i64 r8.stage)) w9) := Lib.hid (by
                  rw [HE.out]
                  exact ⟨rfl, ⟨_, _, _, _, _, _, HX9.out.1⟩, HK8.out.trans HX9.out.2⟩)
                clear hb9 CM
                go_wp2
                go_ret
                exact HF.out
          · have HGT : Hid (greater r3 ⟨x, y⟩ lg = r3) := Lib.hid (by unfold greater; rw [if_neg (by rw [← HGR.out]; exact hlt)])
            have hd : decide (LtB ⟨gx, gy⟩ ⟨x, y⟩) = false := decide_eq_false hlt
            rw [hd]
            have HX8 : Hid (RX w0 w6 p (greater r3 ⟨x, y⟩ lg) K a1 c1 v1 a2 c2 v2 ∧ Kpz K w6 w6) := Lib.hid (by rw [HGT.out]; exact ⟨HX6.out.1, Kpz.refl _ _⟩)
            clear hlt hd
            have HK8 : Hid (Kpz K w w6) := Lib.hid (HK3.out.trans (HX6.out.2.trans HX8.out.2))
            obtain ⟨r8, hr8⟩ : ∃ r8, r8 = greater r3 ⟨x, y⟩ lg := ⟨_, rfl⟩
            rw [← hr8] at HX8 HRY
            have HS8 : Hid (r8.stage = 1) := Lib.hid (by rw [hr8, (greater_stage _ _ _).1]; exact HS3.out)
            have CM := Lib.hid (isMost_c w6 p r8 _ _ HX8.out.1.ob HX8.out.1.ok)
            clear hr8
            by_cases hmost : Most r8
            · rw [decide_eq_true hmost] at CM
              have HE : Hid (R = chooseR r8) := Lib.hid (by rw [HRY.out, if_pos hmost])
              clear hmost
              go_wp2_with fail
              refine CM.out.mono ?_
              rintro e w9 ⟨rfl, hb9⟩
              have HX9 := Lib.hid (HX8.out.1.new hb9)
              have CX := Lib.hid (choose_c w0 w9 p r8 K _ _ _ _ _ _ HX9.out.1 HS8.out (HX9.out.1.ok.ask HS8.out).1)
              clear hb9 CM
              go_wp2_with fail
              refine CX.out.mono ?_
              rintro e wa ⟨rfl, hRO, hka⟩
              obtain ⟨b1, d1, u1, b2, d2, u2, hXa⟩ := hRO
              have c12 := (hXa.ob.cs hXa.ok.len).c12
              have HF : Hid (StO w0 w p R K (.returned (.int .i64 (chooseR r8).stage)) wa) := Lib.hid (by
                rw [HE.out]
                exact ⟨rfl, ⟨_, _, _, _, _, _, hXa⟩, HK8.out.trans (HX9.out.2.trans hka)⟩)
              clear hXa hka CX
              go_wp2
              go_ret
              exact HF.out
            · rw [decide_eq_false hmost] at CM
              have HE : Hid (R = r8) := Lib.hid (by rw [HRY.out, if_neg hmost])
              clear hmost
              go_wp2_with fail
              refine CM.out.mono ?_
              rintro e w9 ⟨rfl, hb9⟩
              have HX9 := Lib.hid (HX8.out.1.new hb9)
              have c12 := (HX9.out.1.ob.cs HX9.out.1.ok.len).c12
              have HF : Hid (StO w0 w p R K (.returned (.int .i64 r8.stage)) w9) := Lib.hid (by
                rw [HE.out]
                exact ⟨rfl, ⟨_, _, _, _, _, _, HX9.out.1⟩, HK8.out.trans HX9.out.2⟩)
              clear hb9 CM
              go_wp2
              go_ret
              exact HF.out
      · obtain ⟨rfl, hb3⟩ := hO.no hm
        have HE : Hid (R = r) := Lib.hid (by rw [HR.out]; unfold promR; rw [if_neg (fun h => hm h.2.2)])
        have HX3 := Lib.hid (HX2.out.1.new hb3)
        have HK3 : Hid (Kpz K w w3) := Lib.hid (HX0.out.2.trans (HX1.out.2.trans (HX2.out.2.trans HX3.out.2)))
        clear hO hb3 hm CH
        have CS2 := Lib.hid (stage_c w3 p _ _ _ HX3.out.1.ob HX3.out.1.ok)
        go_wp2_with fail
        refine CS2.out.mono ?_
        rintro e w7 ⟨rfl, hb7⟩
        have HX7 := Lib.hid (HX3.out.1.new hb7)
        clear hb7 CS2
        have HF : Hid (StO w0 w p R K (.returned (.int .i64 r.stage)) w7) := Lib.hid (by
          rw [HE.out]
          exact ⟨rfl, ⟨_, _, _, _, _, _, HX7.out.1⟩, HK3.out.trans HX7.out.2⟩)
        go_wp2
        go_ret
        exact HF.out
    · rw [if_neg hg, show errF 9 = errnoF 9 from rfl]
      have HE : Hid (R = r) := Lib.hid (by rw [HR.out]; unfold promR; rw [if_neg (fun h => hg h.2.1)])
      have HK3 : Hid (Kpz K w w2) := Lib.hid (HX0.out.2.trans (HX1.out.2.trans HX2.out.2))
      have CS2 := Lib.hid (stage_c w2 p _ _ _ HX2.out.1.ob HX2.out.1.ok)
      have HX3 := HX2
      clear hg
      go_wp2_with fail
      refine CS2.out.mono ?_
      rintro e w7 ⟨rfl, hb7⟩
      have HX7 := Lib.hid (HX3.out.1.new hb7)
      clear hb7 CS2
      have HF : Hid (StO w0 w p R K (.returned (.int .i64 r.stage)) w7) := Lib.hid (by
        rw [HE.out]
        exact ⟨rfl, ⟨_, _, _, _, _, _, HX7.out.1⟩, HK3.out.trans HX7.out.2⟩)
      go_wp2
      go_ret
      exact HF.out
  · have HE : Hid (R = r) := Lib.hid (by rw [HR.out]; unfold promR; rw [if_neg (fun h => h2 (by rw [HS.out]; exact h.1))])
    have hs2 : (s == 1) = false := by simp [h2]
    have HK3 : Hid (Kpz K w w1) := Lib.hid (HX0.out.2.trans HX1.out.2)
    have CS2 := Lib.hid (stage_c w1 p _ _ _ HX1.out.1.ob HX1.out.1.ok)
    have HX3 := HX1
    go_wp2_with fail
    refine CS2.out.mono ?_
    rintro e w7 ⟨rfl, hb7⟩
    have HX7 := Lib.hid (HX3.out.1.new hb7)
    clear hb7 CS2
    have HF : Hid (StO w0 w p R K (.returned (.int .i64 r.stage)) w7) := Lib.hid (by
      rw [HE.out]
      exact ⟨rfl, ⟨_, _, _, _, _, _, HX7.out.1⟩, HK3.out.trans HX7.out.2⟩)
    go_wp2
    go_ret
    exact HF.out
end Go.Proofs.Ytnhnpfhfcbmmlaa
namespace Go.Proofs.Ytnhnpfhfcbmmlaa
open Go Go.RowKit
set_option linter.unusedVariables false
set_option linter.unusedSimpArgs false

def hl2 (node seq : Int) : Cm := ⟨node, 0, seq, 0, 3, 0, 0, 0, [], 167837697, 0, true⟩
set_option maxRecDepth 100000 in
set_option maxHeartbeats 4000000 in
theorem health2_c (m n : Int) (w : World) : Calls Try.prog 48 #[.int .i64 m, .int .i64 n] w fun e w' => e = .returned ((hl2 m n).val (.slice none 0 0)) ∧ Below w.heap.size w w' := by
  obtain ⟨w1, hw1⟩ : ∃ W, W = w.alloc (cm0.obj (.slice none 0 0)) := ⟨_, rfl⟩
  have hA := bxC_new w cm0 (.slice none 0 0)
  rw [← hw1] at hA
  have hb1 : Below w.heap.size w w1 := by rw [hw1]; exact bl_al (Below.refl _ _) _
  obtain ⟨p, hp⟩ : ∃ q, q = w.heap.size := ⟨_, rfl⟩
  rw [← hp] at hA
  have HW1 := Lib.hid (And.intro hw1 hp)
  obtain ⟨z0, z1, z2, z3, z4, z5, z6, z7, z8, z9, z10, z11⟩ := hA.at.lit
  have hfr := hA.free
  have hbx := stC_bx hA (hl2 m n) (.slice none 0 0)
  have hT := tch_stC (Tch.refl (· = p) w1) (hl2 m n) (.slice none 0 0)
  obtain ⟨w2, hw2⟩ : ∃ W, W = stC w1 p (hl2 m n) (.slice none 0 0) := ⟨_, rfl⟩
  rw [← hw2] at hbx hT
  have HB := Lib.hid (hb1.trans (hT.below (B := w.heap.size) (fun k hk => by omega) hb1.size))
  have HBX := Lib.hid hbx
  have HW2 := Lib.hid hw2
  clear hw1 hA hb1 hp hbx hT hw2
  go_enter Try.func48, Try.ntmps48
  go_upto_region 1 with fail
  rw [show w.alloc (.cells #[.int .i64 0, .int .i64 0, .int .i64 0, .int .i64 0, .int .i64 0, .int .u32 0, .int .i64 0, .int .i64 0, .slice none 0 0, .int .u32 0, .int .u32 0, .bool false] tyC) = w1 from HW1.out.1.symm, ← HW1.out.2]
  go_wp2
  have e18 := HW2.out
  unfold stC hl2 at e18
  simp only at e18
  rw [← e18]
  clear e18
  obtain ⟨y0, y1, y2, y3, y4, y5, y6, y7, y8, y9, y10, y11⟩ := HBX.out.at.lit
  refine bodyPost_ret (v := (hl2 m n).val (.slice none 0 0)) (by simp [results, Try.results48, go_sem, y0, y1, y2, y3, y4, y5, y6, y7, y8, y9, y10, y11]) rfl ?_
  exact ⟨rfl, HB.out⟩
theorem hl2_ty {m n : Int} (hm : i64c m) (h : i64c n) : TyC (hl2 m n) := by
  constructor
  case seq => exact h
  case node => exact hm
  case es => intro e he; cases he
  case few => show ([] : List En).length ≤ _; decide
  all_goals (unfold hl2; first | unfold i64c | unfold u32c); simp only; omega
theorem hl2_ok {m n : Int} (hm : IsMgr m) (h : IsTm n) : GoodC (hl2 m n) :=
  ⟨hm, by show IsTm 0; decide, h, by show IsTm 0; decide, .inr (.inr (.inl ⟨rfl, ⟨rfl, rfl, rfl, rfl⟩, by show IsDip 167837697; decide, rfl⟩))⟩
theorem hl2_good {m n : Int} (hm : IsMgr m) (h : IsTm n) : GoodL [hl2 m n] := by
  refine ⟨by simp, fun c hc => ?_, by simp⟩
  rw [List.mem_singleton] at hc
  rw [hc]
  exact hl2_ok hm h
theorem inC_boxR (w : World) (x : Cm) (hx : TyC x) (he : x.es = []) : InC (w.alloc (x.obj (.slice none 0 0))) (some ⟨w.heap.size, 0, none⟩) 1 1 [x] [.slice none 0 0] := by
  refine ⟨rfl, rfl, Nat.le_refl _, (fun e => by cases e), .inr ⟨w.heap.size, 0, rfl, fun t u hu => ?_⟩, fun j hj => ?_, fun c hc => by rw [List.mem_singleton] at hc; rw [hc]; exact hx⟩
  · rw [World.cell?_alloc_mark, Nat.zero_add]
    have : (x.arr (.slice none 0 0)) = (cellsC [x] [.slice none 0 0]).toArray := by simp [cellsC, Cm.cs]
    rw [this, List.getElem?_toArray]
    exact hu
  · obtain rfl : j = 0 := by omega
    exact ⟨none, 0, 0, rfl, by show InE _ none 0 0 x.es; rw [he]; exact inE_nil _⟩
theorem bl_eq2 (a b : Bl) (w : World) : (binOp .eql tyB2 a.val b.val).run Try.prog w = .ok (.bool (decide (a = b))) w := by
  obtain ⟨a1, a2⟩ := a
  obtain ⟨b1, b2⟩ := b
  have : decide ((⟨a1, a2⟩ : Bl) = ⟨b1, b2⟩) = decide (a1 = b1 ∧ a2 = b2) := decide_eq_decide.2 (by rw [Bl.mk.injEq])
  rw [this]
  by_cases h0 : a1 = b1
  · by_cases h1 : a2 = b2
    · go_simp
    · go_simp
  · go_simp
/-! The example, plain. -/
def x0 : Rd := newR 3 ⟨1, 16⟩ [hl2 16 1]
def x1 : Rd := { x0 with ans := [true, false, false, false, false, false, false, false] }
def x2 : Rd := { x0 with log := [hl2 16 1], stage := 2 }
def x3 : Rd := { x2 with ans := [false, false, true, false, false, false, false, false] }
def x4 : Rd := { x2 with ans := [true, false, true, false, false, false, false, false], stage := 3 }
theorem ex1 : promR x0 16 bl0 [] = x1 := by
  unfold promR
  rw [if_pos ⟨rfl, by decide, by decide⟩]
  rw [show greater (heard x0 16) bl0 [] = x1 from rfl, if_neg (by decide)]
theorem ex2 : promR x1 17 bl0 [] = x2 := by
  unfold promR
  rw [if_pos ⟨rfl, by decide, by decide⟩]
  rw [show greater (heard x1 17) bl0 [] = { x0 with ans := [true, true, false, false, false, false, false, false] } from rfl, if_pos (by decide)]
  rfl
theorem ex3 : accR x2 18 = x3 := by
  unfold accR
  rw [if_pos ⟨rfl, by decide⟩]
  rw [show heard x2 18 = x3 from rfl, if_neg (by decide)]
theorem ex4 : accR x3 16 = x4 := by
  unfold accR
  rw [if_pos ⟨rfl, by decide⟩]
  rw [show heard x3 16 = { x4 with stage := 2 } from rfl, if_pos (by decide)]
  rfl
set_option maxRecDepth 100000 in
set_option maxHeartbeats 8000000 in
theorem alive2_c (w : World) : Calls Try.prog 45 #[] w fun e w' => e = .returned (.bool true) ∧ Below w.heap.size w w' := by
  have CH := Lib.hid (health2_c 16 1 w)
  have q0 := nilEl
  have q1 := nilNe
  go_enter Try.func45, Try.ntmps45
  go_wp2_with fail
  refine CH.out.mono ?_
  rintro e w1 ⟨rfl, hb1⟩
  obtain ⟨w2, hw2⟩ : ∃ w2, w2 = w1.alloc ((hl2 16 1).obj (.slice none 0 0)) := ⟨_, rfl⟩
  have hb2 : Below w1.heap.size w1 w2 := by rw [hw2]; exact bl_al (Below.refl _ _) _
  have hI2 := inC_boxR w1 (hl2 16 1) (hl2_ty ⟨by decide, by decide⟩ ⟨by decide, by decide⟩) rfl
  rw [← hw2] at hI2
  have HW2 : Hid (w2 = w1.alloc (.cells #[.int .i64 (hl2 16 1).node, .int .i64 (hl2 16 1).boot, .int .i64 (hl2 16 1).seq, .int .i64 (hl2 16 1).time, .int .i64 (hl2 16 1).kind, .int .u32 (hl2 16 1).vip, .int .i64 (hl2 16 1).proto, .int .i64 (hl2 16 1).port, .slice none 0 0, .int .u32 (hl2 16 1).dip, .int .u32 (hl2 16 1).cvip, .bool (hl2 16 1).up] tyC)) := Lib.hid hw2
  have HB2 := Lib.hid (bl_tr hb1 hb2)
  have CN := Lib.hid (newR_c 3 (by decide) ⟨1, 16⟩ ⟨⟨by decide, by decide⟩, ⟨by decide, by decide⟩⟩ [hl2 16 1] _ _ 1 1 w2 hI2 (by decide) (hl2_good (by decide) (by decide)))
  clear hb1 hb2 hw2 hI2 CH
  go_wp2_with fail
  rw [← HW2.out]
  refine CN.out.mono ?_
  rintro e w3 ⟨p, rfl, hR3, hb3⟩
  have hp0 : ((some (⟨p, 0, none⟩ : Addr)) == none) = false := rfl
  have HB3 := Lib.hid (bl_tr HB2.out hb3)
  obtain ⟨a1, c1, v1, a2, c2, v2, hX3⟩ := hR3
  have CP := Lib.hid (promiseR_c w2 w3 p x0 _ _ _ _ _ _ _ 16 bl0 ⟨⟨by decide, by decide⟩, ⟨by decide, by decide⟩⟩ [] [] none 0 0 hX3 (inC_nil w3) (fun k hk => by rcases hk with ⟨ad, h, _⟩ | ⟨v, hv, _⟩; cases h; cases hv) (by decide))
  rw [ex1] at CP
  clear hb3 hX3 CN
  go_wp2_with fail
  refine CP.out.mono ?_
  rintro e w4 ⟨rfl, hR4, _⟩
  obtain ⟨a1, c1, v1, a2, c2, v2, hX4⟩ := hR4
  have CP := Lib.hid (promiseR_c w2 w4 p x1 _ _ _ _ _ _ _ 17 bl0 ⟨⟨by decide, by decide⟩, ⟨by decide, by decide⟩⟩ [] [] none 0 0 hX4 (inC_nil w4) (fun k hk => by rcases hk with ⟨ad, h, _⟩ | ⟨v, hv, _⟩; cases h; cases hv) (by decide))
  rw [ex2] at CP
  rw [show x1.stage = 1 from rfl]
  clear hX4
  go_wp2_with fail
  refine CP.out.mono ?_
  rintro e w5 ⟨rfl, hR5, _⟩
  rw [show x2.stage = 2 from rfl]
  obtain ⟨a1, c1, v1, a2, c2, v2, hX5⟩ := hR5
  have CL := Lib.hid (log_cR w5 hX5)
  have HX5 := Lib.hid hX5
  clear hX5 CP
  go_wp2_with fail
  refine CL.out.mono ?_
  intro e w6 hL
  obtain ⟨⟨al, cl, vl, rfl, _⟩, hb6⟩ := hL.1 (.inl rfl)
  rw [show x2.log.length = 1 from rfl]
  have HX6 := Lib.hid (HX5.out.new hb6).1
  have CPl := Lib.hid (place_cR w6 HX6.out)
  rw [show placeR x2 = 1 from by decide] at CPl
  clear hL hb6 CL
  go_wp2_with fail
  refine CPl.out.mono ?_
  rintro e w7 ⟨rfl, hb7⟩
  have HX7 := Lib.hid (HX6.out.new hb7).1
  have CM := Lib.hid (missing_cR w7 HX7.out)
  clear hb7 CPl
  go_wp2_with fail
  refine CM.out.mono ?_
  intro e w8 hM
  obtain ⟨⟨am, cm, rfl, _⟩, hb8⟩ := hM.1 (.inr rfl)
  rw [show (silN x2.ans x2.n).length = 3 from by decide]
  have HX8 := Lib.hid (HX7.out.new hb8).1
  have CA := Lib.hid (acceptedR_c w2 w8 p x2 _ _ _ _ _ _ _ 18 HX8.out)
  rw [ex3] at CA
  clear hM hb8 CM
  go_wp2_with fail
  refine CA.out.mono ?_
  rintro e w9 ⟨rfl, hR9, _⟩
  obtain ⟨a1, c1, v1, a2, c2, v2, hX9⟩ := hR9
  have CA := Lib.hid (acceptedR_c w2 w9 p x3 _ _ _ _ _ _ _ 16 hX9)
  rw [ex4] at CA
  clear hX9
  go_wp2_with fail
  refine CA.out.mono ?_
  rintro e wa ⟨rfl, hRa, _⟩
  rw [show x4.stage = 3 from rfl]
  have HBa := Lib.hid (HB2.out.trans (hRa.bel.mono HB2.out.size))
  clear hRa CA
  go_wp2
  go_ret
  exact ⟨rfl, HBa.out⟩
end Go.Proofs.Ytnhnpfhfcbmmlaa
