/- Many voters, rounds and rows beside each other: to whom each block belongs. Conditions: those stated. -/
import Derived.Test.YtnhnpfhfcbmmlaaRoP
import Derived.Test.YtnhnpfhfcbmmlaaRoM
import Derived.Test.YtnhnpfhfcbmmlaaRoK
import Derived.Test.YtnhnpfhfcbmmlaaScV
import Derived.Test.YtnhnpfhfcbmmlaaVpD
namespace Go.Proofs.Ytnhnpfhfcbmmlaa
open Go Go.RowKit
set_option linter.unusedVariables false
set_option linter.unusedSimpArgs false

theorem append_at {P : Program} {w : World} {ops : Array Oper} {rest : List Oper} {o : Oper} {a : Act} {Q : Exit → Act → World → Prop} (hgd : o.guard = none) (s x : Operand) (t : TypeId)
    (ho : o.op = .call { callee := .builtin .append, args := #[s, x], argTypes := #[t, t] })
    (base : Nat) (e : TypeId) (i : TypeInfo) (z : Value) (size bytes : Nat) (ht : P.underlying t = some (.slice e)) (hi : P.info? e = some i) (hz : i.zero = some z)
    (hsize : i.size = size) (hby : i.bytes = bytes) (hzs : z.cells.size = size) (hsz : 0 < size)
    (v : Value) (n : Nat) (xs : List Value) (hs : a.eval s = v) (hown : w.ownsRow base e size v n xs)
    (ao : Option Addr) (m c : Nat) (news : List Value) (hx : a.eval x = .slice ao m c) (hl : news.length = m * size) (hnone : ao = Option.none → m = 0 ∧ c = 0) (hnews : ∀ ad, ao = some ad → ∀ j u, news[j]? = some u → w.cell? (ad.add j) = some u) (h1 : ∀ u ∈ news, u.oneCell' = true)
    (h63 : n + m ≤ maxLen) (hbytes : (n + m) * bytes ≤ 140737488355328) (hbase : base ≤ w.heap.size)
    (h : ∀ v' w', w'.ownsRow base e size v' (n + m) (xs ++ news) → w.grownBy w' v.ownBlock → (v'.ownBlock = v.ownBlock ∨ v'.ownBlock = some w.heap.size) → wpList P ops Q rest (a.put o.dst v') w') :
    wpList P ops Q (o :: rest) a w := by
  have h2 := step_append_at (P := P) (w := w) (ops := ops) (o := o) (a := a) (K := wpList P ops Q rest) (Q := Q) (E := True) hgd s x t ho base e i z size bytes ht hi hz hsize hby hzs hsz v n xs hs hown ao m c news hx hl hnone hnews h1 h63 hbytes hbase h
  have hw : Region.wanted o (yielded ops a.tmps) = true := by simp [Region.wanted, hgd]
  rw [if_pos hw] at h2
  unfold wpList
  rw [if_pos hw]
  exact .inl h2
/-- What is done to blocks of y alone. -/
structure Stp (w1 : World) (f : Nat → Nat) (y : Nat) (w w' : World) : Prop where
  bel : Below w1.heap.size w1 w'
  kpz : Kpz (Kf f w.heap.size y) w w'
theorem upd_upd {f : Nat → Nat} {a b y : Nat} (h : a ≤ b) : upd (upd f a y) b y = upd f a y := by
  funext k
  unfold upd
  by_cases h1 : k < b
  · rw [if_pos h1]
  · rw [if_neg h1, if_neg (by omega)]
section
variable {w1 w w' w2 : World} {f : Nat → Nat} {x y : Nat}
theorem Stp.trans (h : Stp w1 f y w w') (h2 : Stp w1 (upd f w.heap.size y) y w' w2) : Stp w1 f y w w2 :=
  ⟨h2.bel, fun k hk => (h2.kpz.1 k ⟨by have := h.kpz.2; have := hk.1; omega, by rw [upd_old hk.1]; exact hk.2⟩).trans (h.kpz.1 k hk), Nat.le_trans h.kpz.2 h2.kpz.2⟩
theorem stp_new (h1 : Below w1.heap.size w1 w) (hb : Below w.heap.size w w') : Stp w1 f y w w' := ⟨bl_tr h1 hb, fun k hk => hb.block k hk.1, hb.size⟩
theorem stp_tch {T : Nat → Prop} (h1 : Below w1.heap.size w1 w) (ht : Tch T w w') (hT : ∀ k, T k → f k = y ∧ w1.heap.size ≤ k) : Stp w1 f y w w' :=
  ⟨h1.trans (ht.below (fun k hk => (hT k hk).2) h1.size), fun k hk => ht.block k hk.1 (fun h => hk.2 (hT k h).1), ht.size⟩
theorem stp_kpt (hb : Below w1.heap.size w1 w') (hk : Kpt (Kf f w.heap.size y) w w') (ht : ∃ t, t + 1 = w.heap.size ∧ f t ≠ y) : Stp w1 f y w w' := by
  obtain ⟨t, h1, h2⟩ := ht
  have h3 : t < w.heap.size := by omega
  have h4 := hk t ⟨h3, h2⟩
  have h5 : t < w'.heap.size := lt_of_block (h4.trans (Array.getElem?_eq_getElem h3))
  exact ⟨hb, hk, by omega⟩
theorem Stp.tch (h : Stp w1 f y w w') (h1 : Below w1.heap.size w1 w) : Tch (fun k => k < w.heap.size ∧ f k = y ∧ w1.heap.size ≤ k) w w' :=
  ⟨h.bel.os.trans h1.os.symm, h.bel.tape.trans h1.tape.symm, h.bel.output.trans h1.output.symm, h.kpz.2, fun k hk hn => by
    by_cases h2 : f k = y
    · have h3 : k < w1.heap.size := by
        refine Nat.lt_of_not_le (fun h4 => hn ⟨hk, h2, h4⟩)
      exact (h.bel.block k h3).trans (h1.block k h3).symm
    · exact h.kpz.1 k ⟨hk, h2⟩⟩
end
section
variable {w1 w w' : World} {f : Nat → Nat} {x y p s : Nat} {size : Int} {l m : List Pr} {pr ac : Bl} {ls : List Cm} {node : Int}
theorem VOn.self (h : VOn w1 w' p s size l m pr ac ls node (Kf f w.heap.size x)) : VOn w1 w' p s size l m pr ac ls node (Kf (upd f w.heap.size x) w'.heap.size x) :=
  h.less (fun k hk => by
    by_cases h2 : k < w.heap.size
    · exact ⟨h2, by have := hk.2; rwa [upd_old h2] at this⟩
    · exact absurd (upd_new (by omega)) hk.2)
theorem VOn.another (h : VOn w1 w p s size l m pr ac ls node (Kf f w.heap.size x)) (hs : Stp w1 f y w w') (hne : y ≠ x) : VOn w1 w' p s size l m pr ac ls node (Kf (upd f w.heap.size y) w'.heap.size x) :=
  (h.wgrow (hs.tch h.bel) (fun k hk => ⟨⟨hk.1, fun e => hne (hk.2.1.symm.trans e)⟩, hk.2.2⟩)).less (fun k hk => by
    by_cases h3 : k < w.heap.size
    · exact .inl ⟨h3, by have := hk.2; rwa [upd_old h3] at this⟩
    · exact .inr ⟨by omega, hk.1⟩)
theorem VOn.fresh (h : VOn w1 w' p s size l m pr ac ls node (fun k => k < w.heap.size)) : VOn w1 w' p s size l m pr ac ls node (Kf (upd f w.heap.size x) w'.heap.size x) :=
  h.less (fun k hk => by
    by_cases h2 : k < w.heap.size
    · exact h2
    · exact absurd (upd_new (by omega)) hk.2)
end
/-- A row of x's. -/
structure RowOn (w1 w : World) (f : Nat → Nat) (x : Nat) (e : TypeId) (size : Nat) (v : Value) (n : Nat) (xs : List Value) : Prop where
  own : w.ownsRow w1.heap.size e size v n xs
  mine : ∀ g, v.ownBlock = some g → f g = x
section
variable {w1 w w' wl : World} {f : Nat → Nat} {x y : Nat} {e : TypeId} {size n m : Nat} {v v' : Value} {xs xs' : List Value}
theorem RowOn.another (h : RowOn w1 w f x e size v n xs) (h1 : Below w1.heap.size w1 w) (hs : Stp w1 f y w w') (hne : y ≠ x) : RowOn w1 w' (upd f w.heap.size y) x e size v n xs :=
  ⟨(hs.tch h1).own h.own (fun g hg hn => hne (hn.2.1.symm.trans (h.mine g hg))), fun g hg => by rw [upd_old (h.own.lt g hg).2]; exact h.mine g hg⟩
/-- Behind an append, ahead of which new blocks were made. -/
theorem RowOn.push (h : RowOn w1 w f x e size v n xs) (h1 : Below w1.heap.size w1 w) (hl : Below w.heap.size w wl) (hown : w'.ownsRow w1.heap.size e size v' m xs') (hg : wl.grownBy w' v.ownBlock) (hv : v'.ownBlock = v.ownBlock ∨ v'.ownBlock = some wl.heap.size) : Stp w1 f x w w' ∧ RowOn w1 w' (upd f w.heap.size x) x e size v' m xs' := by
  have hT := tch_grown hg
  have hb := bl_tr h1 hl
  refine ⟨⟨hb.trans (hT.below (fun k hk => (h.own.lt k hk.symm).1) hb.size), fun k hk => ?_, Nat.le_trans hl.size hT.size⟩, hown, fun g hg2 => ?_⟩
  · exact (hT.block k (Nat.lt_of_lt_of_le hk.1 hl.size) (fun e2 => hk.2 (h.mine k e2.symm))).trans (hl.block k hk.1)
  · rcases hv with e2 | e2
    · rw [e2] at hg2
      rw [upd_old (h.own.lt g hg2).2]
      exact h.mine g hg2
    · rw [e2] at hg2
      cases hg2
      exact upd_new hl.size
theorem RowOn.make (h1 : Below w1.heap.size w1 w) (hown : w'.ownsRow w.heap.size e size v n xs) (hb : Below w.heap.size w w') : Stp w1 f x w w' ∧ RowOn w1 w' (upd f w.heap.size x) x e size v n xs :=
  ⟨stp_new h1 hb, ⟨hown.1, hown.2.imp id (fun ⟨g, cap, cur, e1, h2, hr⟩ => ⟨g, cap, cur, e1, Nat.le_trans h1.size h2, hr⟩)⟩, fun g hg => upd_new (hown.lt g hg).1⟩
end
abbrev tyPV : TypeId := 55
abbrev tyPR : TypeId := 108
abbrev tyIn : TypeId := 3
def ptrs (p : Nat → Nat) (n : Nat) : List Value := (List.range n).map (fun k => Value.pointer (some ⟨p k, 0, none⟩))
theorem ptrs_len (p : Nat → Nat) (n : Nat) : (ptrs p n).length = n := by simp [ptrs]
theorem ptrs_more (p : Nat → Nat) (n : Nat) : ptrs p (n + 1) = ptrs p n ++ [.pointer (some ⟨p n, 0, none⟩)] := by simp [ptrs, List.range_succ]
theorem ptrs_at {p : Nat → Nat} {n k : Nat} (h : k < n) : (ptrs p n)[k]? = some (.pointer (some ⟨p k, 0, none⟩)) := by
  unfold ptrs
  rw [List.getElem?_map, List.getElem?_range h]
  rfl
theorem ptrs_upd (p : Nat → Nat) (n x : Nat) : ptrs (updN p n x) n = ptrs p n := by
  unfold ptrs
  refine List.map_congr_left (fun k hk => ?_)
  rw [updN_ne p x (by have := List.mem_range.1 hk; omega)]
def intsV (l : List Int) : List Value := l.map (fun x => Value.int .i64 x)
/-- Many voters and rounds, and the rows in which they stand. -/
structure Mny (w1 w : World) (f : Nat → Nat) (M : Nat) (V : Nat → Vr) (vp sp : Nat → Nat) (n : Nat) (R : Nat → Rd) (rp : Nat → Nat) (vv rv wv sv : Value) (nr : Nat) (ws : List Int) (ss : List Bl) : Prop where
  bel : Below w1.heap.size w1 w
  von : ∀ k, k < M → VOn w1 w (vp k) (sp k) 4194304 (V k).l (V k).l (V k).pr (V k).ac (V k).ls (16 + (k : Int)) (Kf f w.heap.size (10 + k))
  ron : ∀ j, j < n → ROn w1 w (rp j) (R j) (Kf f w.heap.size (100 + j))
  vrow : RowOn w1 w f 1 tyPV 1 vv M (ptrs vp M)
  rrow : RowOn w1 w f 2 tyPR 1 rv nr (ptrs rp nr)
  wrow : RowOn w1 w f 3 tyIn 1 wv ws.length (intsV ws)
  srow : RowOn w1 w f 4 tyB2 2 sv ss.length (cellsB ss)
section
variable {w1 w w' wl : World} {f : Nat → Nat} {y M : Nat} {V : Nat → Vr} {vp sp : Nat → Nat} {n : Nat} {R : Nat → Rd} {rp : Nat → Nat} {vv rv wv sv : Value} {nr : Nat} {ws : List Int} {ss : List Bl}
/-- What belongs to nobody of them. -/
theorem Mny.step (h : Mny w1 w f M V vp sp n R rp vv rv wv sv nr ws ss) (hs : Stp w1 f 0 w w') : Mny w1 w' (upd f w.heap.size 0) M V vp sp n R rp vv rv wv sv nr ws ss :=
  ⟨hs.bel, fun k hk => (h.von k hk).another hs (by omega), fun j hj => (h.ron j hj).another hs.bel hs.kpz (by omega), h.vrow.another h.bel hs (by omega), h.rrow.another h.bel hs (by omega), h.wrow.another h.bel hs (by omega), h.srow.another h.bel hs (by omega)⟩
theorem Mny.new (h : Mny w1 w f M V vp sp n R rp vv rv wv sv nr ws ss) (hb : Below w.heap.size w w') : Mny w1 w' (upd f w.heap.size 0) M V vp sp n R rp vv rv wv sv nr ws ss := h.step (stp_new h.bel hb)
/-- A voter's doings. -/
theorem Mny.voter (h : Mny w1 w f M V vp sp n R rp vv rv wv sv nr ws ss) {k : Nat} (hk : k < M) (hM : M ≤ 8) (hs : Stp w1 f (10 + k) w w') {pr ac : Bl} {ls : List Cm} {l : List Pr} (hv : VOn w1 w' (vp k) (sp k) 4194304 l l pr ac ls (16 + (k : Int)) (Kf f w.heap.size (10 + k))) :
    Mny w1 w' (upd f w.heap.size (10 + k)) M (updN V k ⟨pr, ac, ls, l⟩) vp sp n R rp vv rv wv sv nr ws ss := by
  refine ⟨hs.bel, fun i hi => ?_, fun j hj => (h.ron j hj).another hs.bel hs.kpz (by omega), h.vrow.another h.bel hs (by omega), h.rrow.another h.bel hs (by omega), h.wrow.another h.bel hs (by omega), h.srow.another h.bel hs (by omega)⟩
  by_cases e : i = k
  · rw [e, updN_self]
    exact hv.self
  · rw [updN_ne V _ e]
    exact (h.von i hi).another hs (by omega)
/-- A round's doings. -/
theorem Mny.round (h : Mny w1 w f M V vp sp n R rp vv rv wv sv nr ws ss) {j : Nat} (hj : j < n) (hM : M ≤ 8) {r2 : Rd} {e : Ending} (hs : StO w1 w (rp j) r2 (Kf f w.heap.size (100 + j)) e w') :
    Mny w1 w' (upd f w.heap.size (100 + j)) M V vp sp n (updN R j r2) rp vv rv wv sv nr ws ss := by
  have hS : Stp w1 f (100 + j) w w' := ⟨hs.2.1.bel, hs.2.2⟩
  refine ⟨hS.bel, fun i hi => (h.von i hi).another hS (by omega), fun i hi => ?_, h.vrow.another h.bel hS (by omega), h.rrow.another h.bel hS (by omega), h.wrow.another h.bel hS (by omega), h.srow.another h.bel hS (by omega)⟩
  by_cases e : i = j
  · rw [e, updN_self]
    exact hs.2.1.self
  · rw [updN_ne R _ e]
    exact (h.ron i hi).another hS.bel hS.kpz (by omega)
/-- One more voter. -/
theorem Mny.addV (h : Mny w1 w f M V vp sp n R rp vv rv wv sv nr ws ss) {p s : Nat} {x : Vr} (hM : M < 8) (hs : Stp w1 f (10 + M) w w') (hv : VOn w1 w' p s 4194304 x.l x.l x.pr x.ac x.ls (16 + (M : Int)) (fun k => k < w.heap.size)) {wl w2 : World} (hl : Below w'.heap.size w' wl) {v2 : Value} (hown : w2.ownsRow w1.heap.size tyPV 1 v2 (M + 1) (ptrs vp M ++ [.pointer (some ⟨p, 0, none⟩)])) (hg : wl.grownBy w2 vv.ownBlock) (hvo : v2.ownBlock = vv.ownBlock ∨ v2.ownBlock = some wl.heap.size) :
    Mny w1 w2 (upd (upd f w.heap.size (10 + M)) w'.heap.size 1) (M + 1) (updN V M x) (updN vp M p) (updN sp M s) n R rp v2 rv wv sv nr ws ss := by
  have hb1 := hs.bel
  have hr := (h.vrow.another h.bel hs (by omega)).push hb1 hl hown hg hvo
  refine ⟨hr.1.bel, fun i hi => ?_, fun j hj => ((h.ron j hj).another hs.bel hs.kpz (by omega)).another hr.1.bel hr.1.kpz (by omega), ?_, (h.rrow.another h.bel hs (by omega)).another hb1 hr.1 (by omega), (h.wrow.another h.bel hs (by omega)).another hb1 hr.1 (by omega), (h.srow.another h.bel hs (by omega)).another hb1 hr.1 (by omega)⟩
  · by_cases e : i = M
    · rw [e, updN_self, updN_self, updN_self]
      exact (VOn.fresh (f := f) (x := 10 + M) hv).another hr.1 (by omega)
    · rw [updN_ne V _ e, updN_ne vp _ e, updN_ne sp _ e]
      exact ((h.von i (by omega)).another hs (by omega)).another hr.1 (by omega)
  · rw [ptrs_more, ptrs_upd, updN_self]
    exact hr.2
/-- A round that begins. -/
theorem Mny.addR (h : Mny w1 w f M V vp sp n R rp vv rv wv sv nr ws ss) {p : Nat} {r : Rd} (hM : M ≤ 8) (hn : nr ≤ n) (hr : ROn w w' p r (fun k => k < w.heap.size)) (hb : Below w.heap.size w w') :
    Mny w1 w' (upd f w.heap.size (100 + n)) M V vp sp (n + 1) (updN R n r) (updN rp n p) vv rv wv sv nr ws ss := by
  have hs : Stp w1 f (100 + n) w w' := stp_new h.bel hb
  refine ⟨hs.bel, fun i hi => (h.von i hi).another hs (by omega), fun i hi => ?_, h.vrow.another h.bel hs (by omega), ?_, h.wrow.another h.bel hs (by omega), h.srow.another h.bel hs (by omega)⟩
  · by_cases e : i = n
    · rw [e, updN_self, updN_self]
      exact ROn.fresh hr h.bel
    · rw [updN_ne R _ e, updN_ne rp _ e]
      exact (h.ron i (by omega)).another hs.bel hs.kpz (by omega)
  · have e : ptrs (updN rp n p) nr = ptrs rp nr := by
      unfold ptrs
      refine List.map_congr_left (fun k hk => ?_)
      rw [updN_ne rp p (by have := List.mem_range.1 hk; omega)]
    rw [e]
    exact h.rrow.another h.bel hs (by omega)
/-- Appends onto the rows. -/
theorem Mny.pushR (h : Mny w1 w f M V vp sp (n + 1) R rp vv rv wv sv n ws ss) (hM : M ≤ 8) (hl : Below w.heap.size w wl) {v2 : Value} (hown : w'.ownsRow w1.heap.size tyPR 1 v2 (n + 1) (ptrs rp n ++ [.pointer (some ⟨rp n, 0, none⟩)])) (hg : wl.grownBy w' rv.ownBlock) (hvo : v2.ownBlock = rv.ownBlock ∨ v2.ownBlock = some wl.heap.size) :
    Mny w1 w' (upd f w.heap.size 2) M V vp sp (n + 1) R rp vv v2 wv sv (n + 1) ws ss := by
  have hr := h.rrow.push h.bel hl hown hg hvo
  have hs := hr.1
  exact ⟨hs.bel, fun i hi => (h.von i hi).another hs (by omega), fun i hi => (h.ron i hi).another hs.bel hs.kpz (by omega), h.vrow.another h.bel hs (by omega), by rw [ptrs_more]; exact hr.2, h.wrow.another h.bel hs (by omega), h.srow.another h.bel hs (by omega)⟩
theorem Mny.pushW (h : Mny w1 w f M V vp sp n R rp vv rv wv sv nr ws ss) (hM : M ≤ 8) (hl : Below w.heap.size w wl) {v2 : Value} {x : Int} (hown : w'.ownsRow w1.heap.size tyIn 1 v2 (ws.length + 1) (intsV ws ++ [.int .i64 x])) (hg : wl.grownBy w' wv.ownBlock) (hvo : v2.ownBlock = wv.ownBlock ∨ v2.ownBlock = some wl.heap.size) :
    Mny w1 w' (upd f w.heap.size 3) M V vp sp n R rp vv rv v2 sv nr (ws ++ [x]) ss := by
  have hr := h.wrow.push h.bel hl hown hg hvo
  have hs := hr.1
  have e1 : (ws ++ [x]).length = ws.length + 1 := by simp
  have e2 : intsV (ws ++ [x]) = intsV ws ++ [.int .i64 x] := by simp [intsV]
  exact ⟨hs.bel, fun i hi => (h.von i hi).another hs (by omega), fun i hi => (h.ron i hi).another hs.bel hs.kpz (by omega), h.vrow.another h.bel hs (by omega), h.rrow.another h.bel hs (by omega), by rw [e1, e2]; exact hr.2, h.srow.another h.bel hs (by omega)⟩
theorem Mny.pushS (h : Mny w1 w f M V vp sp n R rp vv rv wv sv nr ws ss) (hM : M ≤ 8) (hl : Below w.heap.size w wl) {v2 : Value} {x : Bl} (hown : w'.ownsRow w1.heap.size tyB2 2 v2 (ss.length + 1) (cellsB ss ++ x.cs)) (hg : wl.grownBy w' sv.ownBlock) (hvo : v2.ownBlock = sv.ownBlock ∨ v2.ownBlock = some wl.heap.size) :
    Mny w1 w' (upd f w.heap.size 4) M V vp sp n R rp vv rv wv v2 nr ws (ss ++ [x]) := by
  have hr := h.srow.push h.bel hl hown hg hvo
  have hs := hr.1
  have e1 : (ss ++ [x]).length = ss.length + 1 := by simp
  have e2 : cellsB (ss ++ [x]) = cellsB ss ++ x.cs := by simp [cellsB]
  exact ⟨hs.bel, fun i hi => (h.von i hi).another hs (by omega), fun i hi => (h.ron i hi).another hs.bel hs.kpz (by omega), h.vrow.another h.bel hs (by omega), h.rrow.another h.bel hs (by omega), h.wrow.another h.bel hs (by omega), by rw [e1, e2]; exact hr.2⟩
/-- A wait is over. -/
theorem Mny.setW (h : Mny w1 w f M V vp sp n R rp vv rv wv sv nr ws ss) {j : Nat} (hM : M ≤ 8) (hj : j < ws.length) (x : Int) : ∃ g cap, wv = .slice (some ⟨g, 0, none⟩) ws.length cap ∧ ws.length ≤ cap ∧ w.cell? ⟨g, j, none⟩ = some (.int .i64 (ws.getD j 0)) ∧ w.frozen? ⟨g, j, none⟩ = false ∧
    Mny w1 (w.setCell ⟨g, j, none⟩ (.int .i64 x)) (upd f w.heap.size 3) M V vp sp n R rp vv rv wv sv nr (ws.set j x) ss := by
  rcases h.wrow.own.2 with ⟨_, h0⟩ | ⟨g, cap, cur, e, hB, hb, h1, h2, h3, h4⟩
  · omega
  · have hs : Stp w1 f 3 w (w.setCell ⟨g, j, none⟩ (.int .i64 x)) := stp_tch h.bel (tch_set w ⟨g, j, none⟩ _) (fun k hk => by rw [hk]; exact ⟨h.wrow.mine g (by rw [e]; rfl), hB⟩)
    have e1 : (ws.set j x).length = ws.length := by simp
    have e2 : intsV (ws.set j x) = (intsV ws).set j (.int .i64 x) := by unfold intsV; rw [List.map_set]
    have hcj : (intsV ws)[j]? = some (.int .i64 (ws.getD j 0)) := by
      unfold intsV
      rw [List.getElem?_map, List.getElem?_eq_getElem hj, List.getD_eq_getElem?_getD, List.getElem?_eq_getElem hj]
      rfl
    refine ⟨g, cap, e, h1, ?_, frozen_of_row w g j _ _ hb, ⟨hs.bel, fun i hi => (h.von i hi).another hs (by omega), fun i hi => (h.ron i hi).another hs.bel hs.kpz (by omega), h.vrow.another h.bel hs (by omega), h.rrow.another h.bel hs (by omega), ?_, h.srow.another h.bel hs (by omega)⟩⟩
    · rw [cell_of_row w g j _ _ _ hb, ← Array.getElem?_toList, ← hcj, ← h4, List.getElem?_take, if_pos (by omega)]
    · rw [e1, e2]
      refine ⟨⟨by rw [List.length_set]; exact h.wrow.own.1, .inr ⟨g, cap, cur.set! j (.int .i64 x), e, hB, heap_setCell_same w g j _ _ (.int .i64 x) hb, h1, h2, by simp [h3], ?_⟩⟩, fun g2 hg2 => ?_⟩
      · rw [← h4]
        simp [List.take_set]
      · rw [e] at hg2
        cases hg2
        rw [upd_old (lt_of_block hb)]
        exact h.wrow.mine g (by rw [e]; rfl)
theorem Mny.vptr (h : Mny w1 w f M V vp sp n R rp vv rv wv sv nr ws ss) {k : Nat} (hk : k < M) : ∃ g cap, vv = .slice (some ⟨g, 0, none⟩) M cap ∧ M ≤ cap ∧ w.cell? ⟨g, k, none⟩ = some (.pointer (some ⟨vp k, 0, none⟩)) := by
  rcases h.vrow.own.2 with ⟨_, h0⟩ | ⟨g, cap, cur, e, hB, hb, h1, h2, h3, h4⟩
  · omega
  · refine ⟨g, cap, e, h1, ?_⟩
    rw [cell_of_row w g k _ _ _ hb, ← Array.getElem?_toList, ← ptrs_at hk, ← h4, List.getElem?_take, if_pos (by omega)]
theorem Mny.rptr (h : Mny w1 w f M V vp sp n R rp vv rv wv sv nr ws ss) {k : Nat} (hk : k < nr) : ∃ g cap, rv = .slice (some ⟨g, 0, none⟩) nr cap ∧ nr ≤ cap ∧ w.cell? ⟨g, k, none⟩ = some (.pointer (some ⟨rp k, 0, none⟩)) := by
  rcases h.rrow.own.2 with ⟨_, h0⟩ | ⟨g, cap, cur, e, hB, hb, h1, h2, h3, h4⟩
  · omega
  · refine ⟨g, cap, e, h1, ?_⟩
    rw [cell_of_row w g k _ _ _ hb, ← Array.getElem?_toList, ← ptrs_at hk, ← h4, List.getElem?_take, if_pos (by omega)]
end
end Go.Proofs.Ytnhnpfhfcbmmlaa
