/- The program's spread: the points of members, in order. Conditions: the row came in, of at most 64 numbers of members. -/
import Derived.Test.YtkacbeighaccjaaRdD
import Derived.Test.YtkacbeighaccjaaRdS
import Derived.Test.YtkacbeighaccjaaHsA
namespace Go.Proofs.Ytkacbeighaccjaa
open Go Go.RowKit Go.Shelf
set_option linter.unusedVariables false
set_option linter.unusedSimpArgs false

theorem infoP : (Try.prog.info? 79).map (fun i => (i.zero, i.size, i.bytes)) = some (some (.agg #[.int .u64 0, .int .i64 0]), 2, 16) := by kernel_rfl
/-- An address as the program's own rows have. -/
def PlA (a : Option Addr) (c : Nat) : Prop := (a = none ∧ c = 0) ∨ ∃ g, a = some ⟨g, 0, none⟩
theorem PlA.own {w : World} {B n size c : Nat} {e : TypeId} {a : Option Addr} {xs : List Value} (h : w.ownsRow B e size (.slice a n c) n xs) : PlA a c := by
  rcases h.2 with ⟨e0, _⟩ | ⟨g, cap, cur, e0, _⟩
  · cases e0; exact .inl ⟨rfl, rfl⟩
  · cases e0; exact .inr ⟨g, rfl⟩
theorem sortP_c (l : List Wy) (v : Value) (n B : Nat) (w : World) (h : w.ownsRow B tyP 2 v n (cellsP l)) (hB : B ≤ w.heap.size) (hn : n ≤ 1048576) :
    Calls Try.prog 52 #[v, .func (.func 53) #[] #[]] w fun e w' => e = .returned (.tuple #[]) ∧ (∃ a c S, v = .slice a n c ∧ n ≤ c ∧ PlA a c ∧ InP w' a n S ∧ S.Perm l ∧ S.Pairwise leW) ∧ Below B w w' := by
  have hl : l.length = n := by have := h.1; rw [cellsP_len] at this; omega
  by_cases h0 : n = 0
  · subst h0
    have hl0 : l = [] := List.eq_nil_of_length_eq_zero hl
    obtain ⟨a, c, rfl⟩ := own_form h
    refine (AnyF.slices_SortFunc_none { Try.sortP with } a c _ w).mono ?_
    rintro e w' ⟨rfl, rfl⟩
    exact ⟨rfl, ⟨a, c, [], rfl, Nat.zero_le _, PlA.own h, ⟨rfl, .inl rfl⟩, by rw [hl0], .nil⟩, Below.refl _ _⟩
  · rcases h.2 with ⟨e0, h0'⟩ | ⟨g, cap, cur, rfl, hb, hg, h1, h2, h3, h4⟩
    · exact absurd h0' h0
    · have eg : ∀ args w, (callFunc 53 args).run Try.prog w = .ok (.enter 53 args) w := enters_of Try.func53 (by kernel_rfl) rfl
      have hc : ∀ (t : Nat) (u : Value), (cellsP l.toArray.toList)[t]? = some u → cur[t]? = some u := by
        intro t u hu
        rw [show l.toArray.toList = l from rfl, ← h4, List.getElem?_take] at hu
        split at hu
        · rwa [← Array.getElem?_toList]
        · cases hu
      have hs := AnyQ.slices_SortFunc_total Try.sortP 2 Try.isAgg79 Try.sizeOf79 csP csP_len csP_one cfP swoP 53 #[] g 0 cap l.toArray w eg (order_lays _ _ _ _) (holds_of l.toArray hg hc) (lt_of_block hg) (by simp; omega) (fun x y h1 h2 => by
        rw [ltP] at h1 h2
        simp only [decide_eq_false_iff_not, Classical.not_not] at h1 h2
        exact leW_anti h2 h1)
      have es : l.toArray.size = n := by simpa using hl
      rw [es] at hs
      refine hs.mono ?_
      rintro e w' ⟨rfl, q, os, rfl⟩
      obtain ⟨S, hS⟩ : ∃ S, S = (l.toArray.toList.mergeSort fun x y => !(ltOf cfP) y x) := ⟨_, rfl⟩
      rw [← hS]
      have hperm : S.Perm l := by rw [hS]; exact List.mergeSort_perm _ _
      have hle : ∀ x y : Wy, (!(ltOf cfP) y x) = true ↔ leW x y := fun x y => by rw [ltP]; simp
      have hsrt : S.Pairwise leW := by
        rw [hS]
        refine (List.pairwise_mergeSort (fun a b c h1 h2 => ?_) (fun a b => ?_) _).imp (fun h => (hle _ _).1 h)
        · rw [hle] at *; exact leW_trans h1 h2
        · rw [Bool.or_eq_true, hle, hle]; exact leW_total a b
      have hlen : S.toArray.size = n := by simpa using hperm.length_eq.trans hl
      have hH := holdsK_sortWorldK_c csP 2 w g 0 l.toArray S.toArray q os (holds_of l.toArray hg hc) (lt_of_block hg) (by rw [hlen, es])
      have hI := inP_of hH
      rw [hlen] at hI
      exact ⟨rfl, ⟨_, cap, S, rfl, h1, .inr ⟨g, rfl⟩, hI, hperm, hsrt⟩, below_sort hb hB⟩
theorem own_block {w : World} {B n size : Nat} {e : TypeId} {v : Value} {xs : List Value} (h : w.ownsRow B e size v n xs) {k : Nat} (hk : v.ownBlock = some k) : B ≤ k := by
  rcases h.2 with ⟨rfl, _⟩ | ⟨g, cap, cur, rfl, hb, _⟩
  · cases hk
  · cases hk; exact hb
/-- What spread leaves: points in order. -/
def GotP (w : World) (P : Nat) (ms : List Int) (e : Ending) (w' : World) : Prop :=
  ∃ a c S, e = .returned (.slice a (ms.length * P) c) ∧ ms.length * P ≤ c ∧ PlA a c ∧ InP w' a (ms.length * P) S ∧ S.Perm (pts P ms) ∧ S.Pairwise leW ∧ Below w.heap.size w w'
theorem pt_new (w : World) (p : Wy) : ∀ j u, (csP p)[j]? = some u → (w.alloc (.cells (csP p).toArray tyP)).cell? ((⟨w.heap.size, 0, none⟩ : Addr).add j) = some u := fun j u h => by
  rw [Go.WideShapes.add_plain]
  exact cells_new w (csP p) tyP (0, 0) j u h
set_option maxRecDepth 100000 in
set_option maxHeartbeats 4000000 in
theorem spread_c (P : Nat) (ms : List Int) (a : Option Addr) (n c : Nat) (w : World) (hI : InI w a n c ms) (hn : n ≤ 64) (hP : 0 < P ∧ P ≤ 64) (hr : ∀ m ∈ ms, 0 ≤ m ∧ m ≤ 65535) :
    Calls Try.prog 34 #[.int .i64 P, .slice a n c] w (GotP w P ms) := by
  obtain ⟨i0, hi0, hz0, hz1, hz2⟩ := info_parts infoP
  have HI := Lib.hid hI
  have HR := Lib.hid hr
  have hP1 := hP.2
  have CH := Lib.hid (fun (j : Nat) (m : Int) (hm : 0 ≤ m ∧ m ≤ 65535) (W : World) => hash_any (j : Int) ⟨0, m, 0, 0, 0⟩ W (by simp only; omega) (by simp only; omega))
  have HB0 := Lib.hid (Below.refl w.heap.size w)
  have HO0 : Hid (w.ownsRow w.heap.size tyP 2 (.slice none 0 0) 0 (cellsP (pts P (ms.take 0)))) := Lib.hid ⟨by simp [pts, cellsP], .inl ⟨rfl, rfl⟩⟩
  unfold Fl.val at CH
  clear hI hr hP
  go_enter Try.func34, Try.ntmps34
  go_wp2
  go_loopw [5, 12] (fun pv iv wr => ∃ (i N : Nat), i ≤ n ∧ iv = .int .i64 i ∧ N ≤ i * 64 ∧ Hid (N = i * P) ∧ Hid (wr.ownsRow w.heap.size tyP 2 pv N (cellsP (pts P (ms.take i)))) ∧ Hid (Below w.heap.size w wr)) (fun _ iv _ => n - (intOf iv).toNat)
  case atStart => exact ⟨0, 0, by omega, rfl, by omega, Lib.hid (by simp), HO0, HB0⟩
  case round =>
    obtain ⟨i, N, hi, rfl, hN, HN, HO, HB⟩ := hrel
    obtain ⟨w2, rfl⟩ : ∃ v, v = wr := ⟨_, rfl⟩
    clear HO0 HB0
    have hlen := HI.out.len
    by_cases hlt : i < n
    · obtain ⟨b1, o1, rfl⟩ := in_blockI HI.out (by omega)
      have ii : (i : Int) < (n : Int) := by omega
      have i0' : (0 : Int) ≤ (i : Int) := by omega
      have c1 := in_cellI (HI.out.below HB.out) i hlt
      have hm1 := HR.out _ (show ms.getD i 0 ∈ ms by rw [getD_at (by omega)]; exact List.getElem_mem _)
      have HST := Lib.hid (pts_step P ms (i := i) (by omega))
      obtain ⟨m, hm⟩ : ∃ m, m = ms.getD i 0 := ⟨_, rfl⟩
      rw [← hm] at c1 hm1 HST
      have CM := Lib.hid (fun (j : Nat) (W : World) => CH.out j m hm1 W)
      have m0 := hm1.1
      have m1 := hm1.2
      have HO1 : Hid (w2.ownsRow w.heap.size tyP 2 u5 N (cellsP (pts P (ms.take i) ++ ptsM m 0))) := Lib.hid (by
        rw [show ptsM m 0 = [] from rfl, List.append_nil]
        exact HO.out)
      clear hm hm1 HO
      go_wp2
      go_loopw [5, 17] (fun pv jv wr => ∃ (j : Nat), j ≤ P ∧ jv = .int .i64 j ∧ Hid (wr.ownsRow w.heap.size tyP 2 pv (N + j) (cellsP (pts P (ms.take i) ++ ptsM m j))) ∧ Hid (Below w.heap.size w wr)) (fun _ jv _ => P - (intOf jv).toNat)
      case atStart => exact ⟨0, by omega, rfl, HO1, HB⟩
      case round =>
        clear HO1 HB
        obtain ⟨j, hj, rfl, HO, HB⟩ := hrel
        obtain ⟨w3, rfl⟩ : ∃ v, v = wr := ⟨_, rfl⟩
        clear c1
        by_cases hlj : j < P
        · have jj : (j : Int) < (P : Int) := by omega
          have j0 : (0 : Int) ≤ (j : Int) := by omega
          have j1 : (j : Int) < 64 := by omega
          have HSM := Lib.hid (ptsM_step m j)
          have HV : Hid (ptOf m j = hashF (j : Int) ⟨0, m, 0, 0, 0⟩) := Lib.hid rfl
          go_wp2_with fail
          refine (CM.out j w3).mono ?_
          rintro e w4 ⟨rfl, hb4⟩
          have HB4 := Lib.hid (HB.out.trans (hb4.mono HB.out.size))
          have HO4 := Lib.hid (owns_bel HO.out hb4)
          have hs4 := HB4.out.size
          obtain ⟨h, hh⟩ : ∃ h, h = hashF (j : Int) ⟨0, m, 0, 0, 0⟩ := ⟨_, rfl⟩
          rw [← hh] at HV ⊢
          rw [HV.out] at HSM
          obtain ⟨v4, hv4⟩ : ∃ v, v = u5 := ⟨_, rfl⟩
          have HNW := Lib.hid (pt_new w4 (h, m))
          have HN16 : Hid (N + j ≤ 8192) := Lib.hid (by omega)
          have HSA : Hid (cellsP (pts P (ms.take i) ++ ptsM m j) ++ csP (h, m) = cellsP (pts P (ms.take i) ++ ptsM m (j + 1))) := Lib.hid (by rw [HSM.out, ← List.append_assoc, cellsP_app _ [(h, m)], cellsP_one])
          clear hb4 hh hv4 HO HB HV HSM
          go_wp2_with (at_builtin; refine wpList_append_own _ rfl _ _ 67 rfl w.heap.size 79 i0 (.agg #[.int .u64 0, .int .i64 0]) 2 16 Try.underlying67 hi0 hz0 hz1 hz2 rfl (by decide) _ _ _ rfl (HO4.out.alloc _) ⟨w4.heap.size, 0, none⟩ 1 1 (csP (h, m)) rfl rfl HNW.out (csP_one _) ?c1 ?c2 ?c3 ?_)
          case c1 => unfold maxLen; have := HN16.out; omega
          case c2 => have := HN16.out; omega
          case c3 => simp; omega
          intro v5 w5 ho5 hg5 _
          rw [HSA.out] at ho5
          have HO5 := Lib.hid ho5
          have HB5 := Lib.hid ((HB4.out.alloc hs4 _).grown hg5 (by simp; omega) (fun k hk => (own_block HO4.out hk)))
          clear ho5 hg5 HO4 HB4 HSA HNW
          go_wp2
          go_roundw
          case rel => exact ⟨j + 1, by omega, by go_num, HO5, HB5⟩
          case measure => simp [intOf]; omega
        · obtain rfl : j = P := by omega
          have jj : ¬ (j : Int) < (j : Int) := by omega
          rw [← HST.out] at HO
          have HN2 : Hid (N + j = (i + 1) * j) := Lib.hid (by rw [HN.out, Nat.succ_mul])
          clear HST HN CM
          go_wp2
          go_roundw
          case rel => exact ⟨i + 1, N + j, by omega, by go_num, by omega, HN2, HO, HB⟩
          case measure => simp [intOf]; omega
    · have ii : ¬ (i : Int) < (n : Int) := by omega
      obtain rfl : i = n := by omega
      have hb := HB.out
      have CS := Lib.hid (sortP_c _ _ _ _ w2 HO.out hb.size (by omega))
      have HE : Hid (ms.take i = ms) := Lib.hid (List.take_of_length_le (by omega))
      have HL : Hid (N = ms.length * P) := Lib.hid (by rw [HN.out, hlen])
      clear HO HN hb
      go_wp2_with fail
      refine CS.out.mono ?_
      rintro e w4 ⟨rfl, ⟨a4, c4, S, hv, hS⟩, hb4⟩
      have HS := Lib.hid hS
      have HV := Lib.hid hv
      have HB4 := Lib.hid (HB.out.trans hb4)
      clear hb4 hv hS CS
      go_wp2
      go_ret
      refine ⟨a4, c4, S, ?_, ?_, HS.out.2.1, ?_, ?_, HS.out.2.2.2.2, HB4.out⟩
      · rw [← HL.out, ← HV.out]; rfl
      · rw [← HL.out]; exact HS.out.1
      · rw [← HL.out]; exact HS.out.2.2.1
      · have := HS.out.2.2.2.1; rwa [HE.out] at this
end Go.Proofs.Ytkacbeighaccjaa
