/- Contracts of packet's ahead and buildIP: what rows they make. Conditions: the packet is in form, its numbers are of their types. -/
import Derived.Test.YtfbmeoiaedlgoaaWrC
import Derived.Test.YtfbmeoiaedlgoaaSumC
namespace Go.Proofs.Ytfbmeoiaedlgoaa
open Go Go.RowKit
set_option linter.unusedVariables false
set_option linter.unusedSimpArgs false

theorem fl1 (a : Int) (s : Nat) : [a].flatMap (be s) = be s a := by simp
theorem fl2 (a b : Int) (s : Nat) : [a, b].flatMap (be s) = be s a ++ be s b := by simp
theorem fl3 (a b c : Int) (s : Nat) : [a, b, c].flatMap (be s) = be s a ++ (be s b ++ be s c) := by simp
theorem fl4 (a b c d : Int) (s : Nat) : [a, b, c, d].flatMap (be s) = be s a ++ (be s b ++ (be s c ++ be s d)) := by simp
/-- A new writer behind a box. -/
structure Wb (w : World) (p : Pk) (a : Option Addr) (n c : Nat) (l : List Int) (wx : World) : Prop where
  box : PkAt wx w.heap.size p a n c
  wr : Wr (w.heap.size + 1) wx l
  below : Below w.heap.size w wx
theorem Wb.start (w : World) (p : Pk) (a : Option Addr) (n c : Nat) : ∃ W, (w.alloc (p.obj a n c)).alloc (.cells #[.slice none 0 0] 90) = W ∧ W.heap.size = w.heap.size + 1 + 1 ∧ Wb w p a n c [] W := by
  refine ⟨_, rfl, by simp, (PkAt.new w p a n c).below (bl_al (Below.refl _ _) _) (by simp), ?_, bl_al (bl_al (Below.refl _ _) _) _⟩
  have h := Wr.start (w.alloc (p.obj a n c))
  have hs : (w.alloc (p.obj a n c)).heap.size = w.heap.size + 1 := by simp
  rw [hs] at h
  exact h
theorem Wb.next {w : World} {p : Pk} {a : Option Addr} {n c : Nat} {l l2 : List Int} {wx wy : World} (h : Wb w p a n c l wx) (hw : Wr (w.heap.size + 1) wy l2) (hb : Below (w.heap.size + 1) wx wy) : Wb w p a n c l2 wy :=
  ⟨h.box.below hb (by omega), hw, h.below.trans (hb.mono (by omega))⟩

/-- A flow lies in a block, and a new writer behind it. -/
structure FlAt (w : World) (b : Nat) (p : Pk) : Prop where
  c0 : w.cell? ⟨b, 0, none⟩ = some (.int .i64 p.proto)
  c1 : w.cell? ⟨b, 1, none⟩ = some (.int .u32 p.src)
  c2 : w.cell? ⟨b, 2, none⟩ = some (.int .i64 p.sp)
  c3 : w.cell? ⟨b, 3, none⟩ = some (.int .u32 p.dst)
  c4 : w.cell? ⟨b, 4, none⟩ = some (.int .i64 p.dp)
abbrev Pk.fobj (p : Pk) : Obj := .cells #[.int .i64 p.proto, .int .u32 p.src, .int .i64 p.sp, .int .u32 p.dst, .int .i64 p.dp] 44
theorem FlAt.new (w : World) (p : Pk) : FlAt (w.alloc p.fobj) w.heap.size p := by
  constructor <;> simp [go_sem]
theorem FlAt.below {w w' : World} {b B : Nat} {p : Pk} (h : FlAt w b p) (hB : Below B w w') (hb : b < B) : FlAt w' b p :=
  ⟨(hB.cell (p := ⟨b, 0, none⟩) hb).trans h.c0, (hB.cell (p := ⟨b, 1, none⟩) hb).trans h.c1, (hB.cell (p := ⟨b, 2, none⟩) hb).trans h.c2, (hB.cell (p := ⟨b, 3, none⟩) hb).trans h.c3, (hB.cell (p := ⟨b, 4, none⟩) hb).trans h.c4⟩
structure Fb (w : World) (p : Pk) (l : List Int) (wx : World) : Prop where
  box : FlAt wx w.heap.size p
  wr : Wr (w.heap.size + 1) wx l
  below : Below w.heap.size w wx
theorem Fb.start (w : World) (p : Pk) : ∃ W, (w.alloc p.fobj).alloc (.cells #[.slice none 0 0] 90) = W ∧ W.heap.size = w.heap.size + 1 + 1 ∧ Fb w p [] W := by
  refine ⟨_, rfl, by simp, (FlAt.new w p).below (bl_al (Below.refl _ _) _) (by simp), ?_, bl_al (bl_al (Below.refl _ _) _) _⟩
  have h := Wr.start (w.alloc p.fobj)
  have hs : (w.alloc p.fobj).heap.size = w.heap.size + 1 := by simp
  rw [hs] at h
  exact h
theorem Fb.next {w : World} {p : Pk} {l l2 : List Int} {wx wy : World} (h : Fb w p l wx) (hw : Wr (w.heap.size + 1) wy l2) (hb : Below (w.heap.size + 1) wx wy) : Fb w p l2 wy :=
  ⟨h.box.below hb (by omega), hw, h.below.trans (hb.mono (by omega))⟩
theorem u32n {x : Int} (h : 0 ≤ x ∧ x < 4294967296) : IntKind.i64.wrap x = x := IntWalk.i64_in _ (by omega)
theorem all1 {a : Int} {P : Int → Prop} (ha : P a) : ∀ n ∈ [a], P n := by intro n hn; simp at hn; subst hn; exact ha
theorem all2 {a b : Int} {P : Int → Prop} (ha : P a) (hb : P b) : ∀ n ∈ [a, b], P n := by intro n hn; simp at hn; rcases hn with rfl | rfl <;> assumption
theorem all3 {a b c : Int} {P : Int → Prop} (ha : P a) (hb : P b) (hc : P c) : ∀ n ∈ [a, b, c], P n := by intro n hn; simp at hn; rcases hn with rfl | rfl | rfl <;> assumption
theorem all4 {a b c d : Int} {P : Int → Prop} (ha : P a) (hb : P b) (hc : P c) (hd : P d) : ∀ n ∈ [a, b, c, d], P n := by intro n hn; simp at hn; rcases hn with rfl | rfl | rfl | rfl <;> assumption

set_option maxRecDepth 100000 in
set_option maxHeartbeats 400000 in
theorem ahead_any (p : Pk) (m : Nat) (hp : 0 ≤ p.proto ∧ p.proto < 256) (h1 : 0 ≤ p.src ∧ p.src < 4294967296) (h2 : 0 ≤ p.dst ∧ p.dst < 4294967296) (hm : m < 65536) (w : World) :
    Calls Try.prog 68 #[p.flow, .int .i64 m] w fun e w' => ∃ ao c, e = .returned (.slice ao 12 c) ∧ At w' (.slice ao 12 c) (pre p m) ∧ Below w.heap.size w w' := by
  obtain ⟨W, hW, hz, hB⟩ := Fb.start w p
  have HW := Lib.hid hW
  have HZ := Lib.hid hz
  have HB := Lib.hid hB
  have H1 := Lib.hid h1
  have H2 := Lib.hid h2
  have HP := Lib.hid hp
  have s1 := u32n h1
  have s2 := u32n h2
  clear hW hB h1 h2 hp hz
  go_enter Try.func68, Try.ntmps68
  go_wp2_with fail
  rw [HW.out]
  refine (put_any (w.heap.size + 1) 4 2 [p.src, p.dst] [] _ rfl rfl (by decide) (by decide) (all2 H1.out H2.out) (by simp) W HB.out.wr _ HZ.out.symm).mono ?_
  rintro e w1 ⟨rfl, hw1, hb1, _⟩
  have HB1 := Lib.hid (HB.out.next hw1 hb1)
  have f0 := HB1.out.box.c0
  clear hw1 hb1 HB HW HZ s1 s2
  go_wp2_with fail
  refine (put_any (w.heap.size + 1) 1 2 [0, p.proto] _ _ rfl rfl (by decide) (by decide) (all2 (by omega) (by have := HP.out; omega)) (by simp [fl2, be_len]) w1 HB1.out.wr _ rfl).mono ?_
  rintro e w2 ⟨rfl, hw2, hb2, _⟩
  have HB2 := Lib.hid (HB1.out.next hw2 hb2)
  clear hw2 hb2 HB1 f0
  go_wp2_with fail
  refine (put_any (w.heap.size + 1) 2 1 [(m : Int)] _ _ rfl rfl (by decide) (by decide) (all1 (by omega)) (by simp [fl2, be_len]) w2 HB2.out.wr _ rfl).mono ?_
  rintro e w3 ⟨rfl, hw3, hb3, _⟩
  have HB3 := Lib.hid (HB2.out.next hw3 hb3)
  obtain ⟨ao, c, hc, hA⟩ := hw3.at
  have e : ([] ++ [p.src, p.dst].flatMap (be 4)) ++ [0, p.proto].flatMap (be 1) ++ [(m : Int)].flatMap (be 2) = pre p m := by
    rw [fl2, fl2, fl1, be4, be4, be1, be1, be2]
    rfl
  rw [e, pre_len] at hc hA
  have HA := Lib.hid hA
  clear hw3 hb3 HB2 hA e
  go_wp2
  go_ret
  exact ⟨ao, c, rfl, HA.out, HB3.out.below⟩

theorem Wr.own {b : Nat} {w : World} {l : List Int} (h : Wr b w l) : ∃ ao c, w.cell? ⟨b, 0, none⟩ = some (.slice ao l.length c) ∧ w.ownsRow (b + 1) 5 1 (.slice ao l.length c) l.length (u8s l) := by
  obtain ⟨ao, c, h1, h2⟩ := h
  exact ⟨ao, c, cell_of_one h1, h2⟩
theorem own_base {w : World} {B B' size n : Nat} {e : TypeId} {v : Value} {xs : List Value} (h : w.ownsRow B e size v n xs) (hb : B' ≤ B) : w.ownsRow B' e size v n xs :=
  ⟨h.1, h.2.imp id fun ⟨g, cap, cur, h1, h2, h3⟩ => ⟨g, cap, cur, h1, Nat.le_trans hb h2, h3⟩⟩
/-- Sum of one row in a world that has drawn. -/
theorem sum1d {W : World} {u : Value} {p : List Int} (h : At W u p) (hf : fit p) (hl : p.length ≤ 4294967296) :
    Calls Try.prog 45 #[.slice (some ⟨W.heap.size, 0, none⟩) 1 1] (W.alloc (.cells #[u] 24)).drew fun e w' => e = .returned (.int .u16 (65535 - car (ws p))) ∧ (W.alloc (.cells #[u] 24)).drew = w' := by
  have hP : Parts (W.alloc (.cells #[u] 24)).drew (.slice (some ⟨W.heap.size, 0, none⟩) 1 1) [p] := Parts.one h 24 W.heap.size rfl
  have H := sum_any [p] _ _ hP (by simpa using hf) (by simpa using hl) (by simp)
  rw [show [p].flatten = p by simp] at H
  exact H
theorem sum2d {W : World} {u v : Value} {p q : List Int} (h : At W u p) (h' : At W v q) (hf : fit p) (hf' : fit q) (hl : p.length + q.length ≤ 4294967296) :
    Calls Try.prog 45 #[.slice (some ⟨W.heap.size, 0, none⟩) 2 2] (W.alloc (.cells #[u, v] 24)).drew fun e w' => e = .returned (.int .u16 (65535 - car (ws (p ++ q)))) ∧ (W.alloc (.cells #[u, v] 24)).drew = w' := by
  have hP : Parts (W.alloc (.cells #[u, v] 24)).drew (.slice (some ⟨W.heap.size, 0, none⟩) 2 2) [p, q] := Parts.two h h' 24 W.heap.size rfl
  have H := sum_any [p, q] _ _ hP (by simpa using fit_app hf hf') (by simpa using hl) (by simp)
  rw [show [p, q].flatten = p ++ q by simp] at H
  exact H

set_option maxRecDepth 100000 in
set_option maxHeartbeats 1000000 in
theorem buildIP_any (p : Pk) (a : Option Addr) (n c : Nat) (h : Ok p) (ht : Typed p) (w : World) :
    Calls Try.prog 56 #[p.val a n c, .int .i64 (segLen p)] w fun e w' => ∃ ao cp, e = .returned (.slice ao 20 cp) ∧ w'.ownsRow w.heap.size 5 1 (.slice ao 20 cp) 20 (u8s (hdr p (segLen p) (ipSum p))) ∧ Below w.heap.size w w' := by
  obtain ⟨W, hW, hz, hB⟩ := Wb.start w p a n c
  have HW := Lib.hid hW
  have HZ := Lib.hid hz
  have HB := Lib.hid hB
  have HO := Lib.hid h
  have HT := Lib.hid ht
  have s1 := u32n ht.src
  have s2 := u32n ht.dst
  obtain ⟨m, hm⟩ : ∃ m, m = segLen p := ⟨_, rfl⟩
  have hl := h.len
  rw [← hm] at hl
  rw [← hm]
  have HM := Lib.hid hm
  obtain ⟨l0, hl0⟩ : ∃ l, l = hdr p m 0 := ⟨_, rfl⟩
  have HL0 := Lib.hid hl0
  clear hW hB h ht hz hm hl0
  have g0 := HB.out.box.c0
  go_enter Try.func56, Try.ntmps56
  go_wp2_with fail
  rw [HW.out]
  refine (put_any (w.heap.size + 1) 1 2 [69, p.tos] [] _ rfl rfl (by decide) (by decide) (all2 (by omega) (by have := HO.out.tos; omega)) (by simp) W HB.out.wr _ HZ.out.symm).mono ?_
  rintro e w1 ⟨rfl, hw1, hb1, _⟩
  have HB1 := Lib.hid (HB.out.next hw1 hb1)
  have f1 := HB1.out.box.c1
  clear hw1 hb1 HB HW HZ g0
  go_wp2_with fail
  refine (put_any (w.heap.size + 1) 2 3 [20 + (m : Int), p.id, 16384] _ _ rfl rfl (by decide) (by decide) (all3 (by omega) (by have := HO.out.id; omega) (by omega)) (by simp [fl2, be_len]) w1 HB1.out.wr _ rfl).mono ?_
  rintro e w2 ⟨rfl, hw2, hb2, _⟩
  have HB2 := Lib.hid (HB1.out.next hw2 hb2)
  have f2 := HB2.out.box.c2
  have f3 := HB2.out.box.c3
  clear hw2 hb2 HB1 f1
  go_wp2_with fail
  refine (put_any (w.heap.size + 1) 1 2 [p.ttl, p.proto] _ _ rfl rfl (by decide) (by decide) (all2 (by have := HO.out.ttl; omega) (by have := HO.out.proto; omega)) (by simp [fl2, fl3, be_len]) w2 HB2.out.wr _ rfl).mono ?_
  rintro e w3 ⟨rfl, hw3, hb3, _⟩
  have HB3 := Lib.hid (HB2.out.next hw3 hb3)
  clear hw3 hb3 HB2 f2 f3
  go_wp2_with fail
  refine (put_any (w.heap.size + 1) 2 1 [0] _ _ rfl rfl (by decide) (by decide) (all1 (by omega)) (by simp [fl2, fl3, be_len]) w3 HB3.out.wr _ rfl).mono ?_
  rintro e w4 ⟨rfl, hw4, hb4, _⟩
  have HB4 := Lib.hid (HB3.out.next hw4 hb4)
  have f4 := HB4.out.box.c4
  have f6 := HB4.out.box.c6
  clear hw4 hb4 HB3
  go_wp2_with fail
  refine (put_any (w.heap.size + 1) 4 2 [p.src, p.dst] _ _ rfl rfl (by decide) (by decide) (all2 HT.out.src HT.out.dst) (by simp [fl1, fl2, fl3, be_len]) w4 HB4.out.wr _ rfl).mono ?_
  rintro e w5 ⟨rfl, hw5, hb5, _⟩
  have e5 : [] ++ [69, p.tos].flatMap (be 1) ++ [20 + (m : Int), p.id, 16384].flatMap (be 2) ++ [p.ttl, p.proto].flatMap (be 1) ++ [0].flatMap (be 2) ++ [p.src, p.dst].flatMap (be 4) = l0 := by
    rw [HL0.out, fl2, fl3, fl2, fl1, fl2, be4, be4, be1, be1, be1, be1, be2, be2, be2, be2]
    rfl
  rw [e5] at hw5
  have HB5 := Lib.hid (HB4.out.next hw5 hb5)
  have hlen : l0.length = 20 := by rw [HL0.out, hdr_len]
  obtain ⟨ao, cp, hv, hown⟩ := hw5.own
  have hlt := hw5.lt
  rw [hlen] at hv hown
  have hA : At w5 (.slice ao 20 cp) l0 := by
    have := At.own (l := l0) (v := .slice ao 20 cp) (by rw [hlen]; exact hown)
    exact this
  have hsum : 65535 - car (ws l0) = ipSum p := by rw [HL0.out, HM.out]; rfl
  have CS := Lib.hid (sum1d hA (by rw [HL0.out]; exact fit_hdr _ _ _) (by omega))
  rw [hsum] at CS
  have hwd : Wr (w.heap.size + 1) (w5.alloc (.cells #[.slice ao 20 cp] 24)).drew l0 := hw5.below (bl_al (Below.refl _ _) _).drew
  have hvd : (w5.alloc (.cells #[.slice ao 20 cp] 24)).drew.cell? ⟨w.heap.size + 1, 0, none⟩ = some (.slice ao 20 cp) := cell_later (bl_al (Below.refl _ _) _).drew hv
  have CT := Lib.hid (hwd.sat (I := 5) (c := ipSum p) (ipSum_w16 p) (by omega) (by omega) ao cp (by rw [hlen]; exact hvd) 10 rfl)
  rw [hlen] at CT
  obtain ⟨k, hk⟩ : ∃ k, k = ipSum p := ⟨_, rfl⟩
  rw [← hk] at CS CT
  have HK := Lib.hid hk
  clear hw5 hb5 HB4 f4 f6 s1 s2 e5 hown hA hsum hwd hvd hk hlen
  go_wp2_with fail
  go_region_with (first | (go_at_call 45; with_reducible refine CS.out.mono ?_; rintro e w' ⟨rfl, rfl⟩) | (go_at_call 67; with_reducible refine CT.out.mono ?_; rintro e w' ⟨rfl, hw6, hb6⟩))
  go_goals
  all_goals
    rename Wr _ _ _ => hw6
    rename Below (w.heap.size + 1 + 1) _ _ => hb6
    have hb7 : Below w.heap.size w5 _ := ((Below.refl w5.heap.size w5).alloc (Nat.le_refl _) _).drew.mono (by omega) |>.trans (hb6.mono (by omega))
    have HB7 := Lib.hid (HB5.out.below.trans hb7)
    have e7 : setw l0 5 (k / 256 % 256) (k % 256) = hdr p (segLen p) (ipSum p) := by rw [HL0.out, hdr_set, HK.out, HM.out]
    rw [e7] at hw6
    obtain ⟨ao2, cp2, hv2, ho2⟩ := hw6.own
    rw [hdr_len] at hv2 ho2
    have HO2 := Lib.hid (own_base ho2 (B' := w.heap.size) (by omega))
    clear hw6 hb6 hb7 e7 ho2 CS CT hv hlt
    go_wp2
    go_ret
    exact ⟨ao2, cp2, rfl, by rw [HM.out]; exact HO2.out, HB7.out⟩
end Go.Proofs.Ytfbmeoiaedlgoaa
