/- The document's Owners. Conditions: the members stand in form; the row came in. -/
import Derived.Test.YtkacbeighaccjaaRgB
namespace Go.Proofs.Ytkacbeighaccjaa
open Go Go.RowKit
set_option linter.unusedVariables false
set_option linter.unusedSimpArgs false

/-- The least of some ways so far. -/
def BestW (c : List Wy) (best way : Int) : Prop := (c = [] ∧ best = -1) ∨ (0 ≤ best ∧ (way, best) ∈ c ∧ ∀ b ∈ c, leW (way, best) b)
theorem BestW.first {c : List Wy} {best way w m : Int} (h : BestW c best way) (hb : best < 0) (hm : 0 ≤ m) : BestW (c ++ [(w, m)]) m w := by
  rcases h with ⟨rfl, _⟩ | ⟨h0, _⟩
  · exact .inr ⟨hm, by simp, fun b hb => by simp at hb; subst hb; exact leW_refl _⟩
  · omega
theorem BestW.less {c : List Wy} {best way w m : Int} (h : BestW c best way) (hb : ¬ best < 0) (hm : 0 ≤ m) (hl : w < way ∨ w = way ∧ m < best) : BestW (c ++ [(w, m)]) m w := by
  rcases h with ⟨_, h0⟩ | ⟨h0, h1, h2⟩
  · omega
  · refine .inr ⟨hm, by simp, fun b hb => ?_⟩
    rcases List.mem_append.1 hb with hb | hb
    · refine leW_trans ?_ (h2 b hb)
      unfold leW
      simp only
      omega
    · rw [List.mem_singleton] at hb
      subst hb
      exact leW_refl _
theorem BestW.more {c : List Wy} {best way w m : Int} (h : BestW c best way) (hb : ¬ best < 0) (hl : way < w ∨ w = way ∧ ¬ m < best) : BestW (c ++ [(w, m)]) best way := by
  rcases h with ⟨_, h0⟩ | ⟨h0, h1, h2⟩
  · omega
  · refine .inr ⟨h0, List.mem_append.2 (.inl h1), fun b hb => ?_⟩
    rcases List.mem_append.1 hb with hb | hb
    · exact h2 b hb
    · rw [List.mem_singleton] at hb
      subst hb
      unfold leW
      simp only
      omega
/-- The ways of those that aren't there yet. -/
def cand (P : Nat) (out ms : List Int) (key : Int) : List Wy := (waysR P ms key).filter (fun a => !out.contains a.2)
theorem waysR_step (P : Nat) {ms : List Int} {i : Nat} (hi : i < ms.length) (key : Int) : waysR P (ms.take (i + 1)) key = waysR P (ms.take i) key ++ waysOf P key (ms.getD i 0) := by
  rw [take_more ms 0 hi]
  unfold waysR
  rw [List.flatMap_append]
  simp
theorem cand_in {P : Nat} {out ms : List Int} {i : Nat} (hi : i < ms.length) {key : Int} (h : out.contains (ms.getD i 0) = true) : cand P out (ms.take (i + 1)) key = cand P out (ms.take i) key := by
  unfold cand
  rw [waysR_step P hi, List.filter_append]
  have : (waysOf P key (ms.getD i 0)).filter (fun a => !out.contains a.2) = [] := List.filter_eq_nil_iff.2 (fun a ha => by
    obtain ⟨j, _, rfl⟩ := mem_waysOf.1 ha
    simp only [h]
    decide)
  rw [this, List.append_nil]
theorem cand_out {P : Nat} {out ms : List Int} {i : Nat} (hi : i < ms.length) {key : Int} (h : out.contains (ms.getD i 0) = false) : cand P out (ms.take (i + 1)) key = cand P out (ms.take i) key ++ waysOf P key (ms.getD i 0) := by
  unfold cand
  rw [waysR_step P hi, List.filter_append]
  congr 1
  exact List.filter_eq_self.2 (fun a ha => by
    obtain ⟨j, _, rfl⟩ := mem_waysOf.1 ha
    simp only [h]
    decide)
theorem waysOf_step (j : Nat) (key m : Int) : waysOf (j + 1) key m = waysOf j key m ++ [(IntKind.u64.wrap (ptOf m j - key), m)] := by
  unfold waysOf
  rw [List.range_succ, List.map_append]
  rfl
theorem waysOf_zero (key m : Int) : waysOf 0 key m = [] := rfl
theorem gt_of {u way : Int} (h : ¬ u < way) (h2 : (u == way) = false) : way < u := by
  have : u ≠ way := by simpa using h2
  omega
def lenS : Value → Nat
  | .slice _ n _ => n
  | _ => 0
/-- The next owner. -/
theorem best_next {P k : Nat} (hP : 0 < P) {ms : List Int} (hn : ms.Nodup) {key best way : Int} (hk : k < ms.length) (h : BestW (cand P ((ownR P ms key).take k) ms key) best way) : 0 ≤ best ∧ k < (ownR P ms key).length ∧ (ownR P ms key).getD k 0 = best := by
  have hl := ownR_len hP hn key
  have hkl : k < (ownR P ms key).length := by omega
  rcases h with ⟨h0, _⟩ | ⟨h0, h1, h2⟩
  · exfalso
    have hx : (ownR P ms key)[k] ∈ ms := (mem_ownR hP).1 (List.getElem_mem hkl)
    have hm : (IntKind.u64.wrap (ptOf (ownR P ms key)[k] 0 - key), (ownR P ms key)[k]) ∈ cand P ((ownR P ms key).take k) ms key := by
      refine List.mem_filter.2 ⟨mem_waysR.2 ⟨_, hx, 0, hP, rfl⟩, ?_⟩
      simp only [Bool.not_eq_true', List.contains_eq_mem, decide_eq_false_iff_not]
      intro hc
      obtain ⟨i, hi, e⟩ := List.getElem_of_mem hc
      rw [List.length_take] at hi
      rw [List.getElem_take] at e
      have := (List.getElem_inj (ownR_nodup P ms key)).1 e
      omega
    rw [h0] at hm
    simp at hm
  · have hm := List.mem_filter.1 h1
    have hno : best ∉ (ownR P ms key).take k := by simpa using hm.2
    have e := ownW_next (l := waysR P ms key) (k := k) (a := (way, best)) hm.1 hno (fun b hb hbn => h2 b (List.mem_filter.2 ⟨hb, by simpa using (show b.2 ∉ (ownR P ms key).take k from hbn)⟩))
    refine ⟨h0, hkl, ?_⟩
    have e2 : (ownR P ms key)[k]? = some best := e
    rw [List.getD_eq_getElem?_getD, e2]
    rfl
theorem fitI_ms {ms : List Int} (h : ∀ m ∈ ms, 0 ≤ m ∧ m ≤ 65535) : fitI ms := fun x hx => by
  have := h x hx
  omega
theorem fitI_own {P : Nat} (hP : 0 < P) {ms : List Int} (h : ∀ m ∈ ms, 0 ≤ m ∧ m ≤ 65535) (key : Int) : fitI (ownR P ms key) := fun x hx => fitI_ms h x ((mem_ownR hP).1 hx)
set_option maxRecDepth 100000 in
set_option maxHeartbeats 4000000 in
theorem refOwners_t (P : Nat) (ms : List Int) (key N : Int) (a : Option Addr) (n c : Nat) (w : World) (hI : InI w a n c ms) (hO : OkMs ms) (hP : 0 < P ∧ P ≤ 64) :
    Calls Try.prog 30 #[.int .i64 P, .slice a n c, .int .u64 key, .int .i64 N] w (GotB w ((ownR P ms key).take N.toNat)) := by
  obtain ⟨j0', hj0', hy0, hy1, hy2⟩ := info_parts info3
  have HI := Lib.hid hI
  have HO := Lib.hid hO
  have HP := Lib.hid hP
  have HOL := Lib.hid (ownR_len hP.1 hO.2.1 key)
  have HFO := Lib.hid (fitI_own hP.1 hO.2.2 key)
  have hn : n ≤ 64 := by have := hI.len; have := hO.1; omega
  have HT0 : Hid (Gro w.heap.size w w ((ownR P ms key).take 0) none 0 0) := Lib.hid (Gro.nil w _)
  have HBN := Lib.hid (fun (k : Nat) (best way : Int) => best_next (P := P) (k := k) hP.1 hO.2.1 (key := key) (best := best) (way := way))
  have HEND : Hid (∀ k : Nat, k ≤ N.toNat → k ≤ ms.length → (¬ (k : Int) < N ∨ ¬ k < ms.length) → (ownR P ms key).take k = (ownR P ms key).take N.toNat) := Lib.hid (fun k h1 h2 h3 => by
    have hl := ownR_len hP.1 hO.2.1 key
    by_cases h : k < ms.length
    · have : k = N.toNat := by omega
      rw [this]
    · rw [List.take_of_length_le (by omega), List.take_of_length_le (by omega)])
  obtain ⟨R, hR⟩ : ∃ R, R = ownR P ms key := ⟨_, rfl⟩
  have HR := Lib.hid hR
  rw [← hR] at HOL HFO HT0 HBN HEND
  rw [← hR]
  clear hI hO hP hR
  go_enter Try.func30, Try.ntmps30
  go_wp2
  go_loopw [9] (fun v wr => ∃ (k : Nat) (a : Option Addr) (d : Nat), k ≤ n ∧ k ≤ N.toNat ∧ v = .slice a k d ∧ Hid (Gro w.heap.size w wr (R.take k) a k d)) (fun v _ => n - lenS v)
  case atStart => exact ⟨0, none, 0, by omega, by omega, rfl, HT0⟩
  case round =>
    obtain ⟨k, a2, d2, hk, hkN, rfl, HB⟩ := hrel
    obtain ⟨w2, rfl⟩ : ∃ v, v = wr := ⟨_, rfl⟩
    clear HT0
    have hl := HI.out.len
    by_cases hgo : (k : Int) < N ∧ k < n
    · obtain ⟨b1, o1, rfl⟩ := in_blockI HI.out (by omega)
      have HIr := Lib.hid (HI.out.below HB.out.bel)
      have HOI := Lib.hid (own_inI HB.out.own HB.out.len (fitI_take HFO.out k))
      have g1 : (k : Int) < N := hgo.1
      have g2 : (k : Int) < (n : Int) := by omega
      have C0 : Hid (BestW (cand P (R.take k) (ms.take 0) key) (-1) 0) := Lib.hid (.inl ⟨rfl, rfl⟩)
      go_wp2
      go_loopw [10, 11, 12] (fun bv wv iv wr => ∃ (i : Nat) (best way : Int), i ≤ n ∧ iv = .int .i64 i ∧ bv = .int .i64 best ∧ wv = .int .u64 way ∧ Hid (BestW (cand P (R.take k) (ms.take i) key) best way) ∧ Hid (Below w2.heap.size w2 wr)) (fun _ _ iv _ => n - (intOf iv).toNat)
      case atStart => exact ⟨0, -1, 0, by omega, rfl, rfl, rfl, C0, Lib.hid (Below.refl _ _)⟩
      case round =>
        obtain ⟨i, best, way, hi, rfl, rfl, rfl, HC, HBel⟩ := hrel
        obtain ⟨w3, rfl⟩ : ∃ v, v = wr := ⟨_, rfl⟩
        clear C0
        have i0 : (0 : Int) ≤ (i : Int) := by omega
        by_cases hli : i < n
        · have ii : (i : Int) < (n : Int) := by omega
          have c1 := in_cellI (HIr.out.below HBel.out) i hli
          have CH := Lib.hid (has_t (R.take k) a2 k d2 (ms.getD i 0) w3 (HOI.out.below HBel.out) (by omega) _ rfl)
          have HYes := Lib.hid (cand_in (P := P) (out := R.take k) (ms := ms) (i := i) (by omega) (key := key))
          have HNo := Lib.hid (cand_out (P := P) (out := R.take k) (ms := ms) (i := i) (by omega) (key := key))
          have hmm : 0 ≤ ms.getD i 0 ∧ ms.getD i 0 ≤ 65535 := HO.out.2.2 _ (by rw [List.getD_eq_getElem?_getD, List.getElem?_eq_getElem (by omega)]; exact List.getElem_mem _)
          obtain ⟨m, hm⟩ : ∃ m, m = ms.getD i 0 := ⟨_, rfl⟩
          rw [← hm] at c1 CH HYes HNo hmm
          obtain ⟨z, hz⟩ : ∃ z, z = (R.take k).contains m := ⟨_, rfl⟩
          rw [← hz] at CH HYes HNo
          have HMM := Lib.hid hmm
          have HM := Lib.hid hm
          clear hz hm hmm
          cases z with
          | true =>
            have HC2 : Hid (BestW (cand P (R.take k) (ms.take (i + 1)) key) best way) := Lib.hid (by rw [HYes.out rfl]; exact HC.out)
            clear HYes HNo
            go_wp2_with fail
            refine CH.out.mono ?_
            rintro e w9 ⟨rfl, rfl⟩
            clear CH
            go_wp2
            go_roundw
            case rel => exact ⟨i + 1, best, way, by omega, by go_num, rfl, rfl, HC2, HBel⟩
            case measure => simp [intOf]; omega
          | false =>
            have HE := Lib.hid (HNo.out rfl)
            have C1 : Hid (BestW (cand P (R.take k) (ms.take i) key ++ waysOf 0 key m) best way) := Lib.hid (by rw [waysOf_zero, List.append_nil]; exact HC.out)
            clear HYes HNo HC
            go_wp2_with fail
            refine CH.out.mono ?_
            rintro e w9 ⟨rfl, rfl⟩
            clear CH c1
            go_wp2
            go_loopw [10, 11, 13] (fun bv wv jv wr => ∃ (j : Nat) (best way : Int), j ≤ P ∧ jv = .int .i64 j ∧ bv = .int .i64 best ∧ wv = .int .u64 way ∧ Hid (BestW (cand P (R.take k) (ms.take i) key ++ waysOf j key m) best way) ∧ Hid (Below w2.heap.size w2 wr)) (fun _ _ jv _ => P - (intOf jv).toNat)
            case atStart => exact ⟨0, best, way, by omega, rfl, rfl, rfl, C1, HBel⟩
            case round =>
              clear C1 HBel
              obtain ⟨j, best, way, hj, rfl, rfl, rfl, HC, HBel⟩ := hrel
              obtain ⟨w4, rfl⟩ : ∃ v, v = wr := ⟨_, rfl⟩
              have hP64 := HP.out.2
              by_cases hlj : j < P
              · have jj : (j : Int) < (P : Int) := by omega
                have c2 := in_cellI (HIr.out.below HBel.out) i hli
                rw [← HM.out] at c2
                have CA := Lib.hid (at_t m j HMM.out (by omega) w4)
                go_wp2_with fail
                refine CA.out.mono ?_
                rintro e w5 ⟨rfl, hb5⟩
                have HBel5 : Hid (Below w2.heap.size w2 w5) := Lib.hid (HBel.out.trans (hb5.mono HBel.out.size))
                clear hb5 c2 CA HBel
                have c2 := in_cellI (HIr.out.below HBel5.out) i hli
                rw [← HM.out] at c2
                obtain ⟨u, hu⟩ : ∃ u, u = IntKind.u64.wrap (ptOf m j - key) := ⟨_, rfl⟩
                have HS := Lib.hid (waysOf_step j key m)
                rw [← hu] at HS
                have hw : ∀ [Inhabited Nat], IntKind.u64.wrap (ptOf m j - key) = u := fun [_] => hu.symm
                clear hu
                obtain ⟨pt, hpt⟩ : ∃ pt, pt = ptOf m j := ⟨_, rfl⟩
                rw [← hpt] at hw
                rw [← hpt]
                clear hpt
                have m0 := HMM.out.1
                by_cases q1 : best < 0
                · have HC2 : Hid (BestW (cand P (R.take k) (ms.take i) key ++ waysOf (j + 1) key m) m u) := Lib.hid (by rw [HS.out, ← List.append_assoc]; exact HC.out.first q1 m0)
                  clear HC HS
                  go_wp2
                  go_roundw
                  case rel => exact ⟨j + 1, m, u, by omega, by go_num, rfl, rfl, HC2, HBel5⟩
                  case measure => simp [intOf]; omega
                · by_cases q2 : u < way
                  · have HC2 : Hid (BestW (cand P (R.take k) (ms.take i) key ++ waysOf (j + 1) key m) m u) := Lib.hid (by rw [HS.out, ← List.append_assoc]; exact HC.out.less q1 m0 (.inl q2))
                    clear HC HS
                    go_wp2
                    go_roundw
                    case rel => exact ⟨j + 1, m, u, by omega, by go_num, rfl, rfl, HC2, HBel5⟩
                    case measure => simp [intOf]; omega
                  · have q3 : (u == way) = false ∨ (u == way) = true := by cases u == way <;> simp
                    rcases q3 with q3 | q3
                    · have HC2 : Hid (BestW (cand P (R.take k) (ms.take i) key ++ waysOf (j + 1) key m) best way) := Lib.hid (by rw [HS.out, ← List.append_assoc]; exact HC.out.more q1 (.inl (gt_of q2 q3)))
                      clear HC HS
                      go_wp2
                      go_roundw
                      case rel => exact ⟨j + 1, best, way, by omega, by go_num, rfl, rfl, HC2, HBel5⟩
                      case measure => simp [intOf]; omega
                    · by_cases q4 : m < best
                      · have HC2 : Hid (BestW (cand P (R.take k) (ms.take i) key ++ waysOf (j + 1) key m) m u) := Lib.hid (by rw [HS.out, ← List.append_assoc]; exact HC.out.less q1 m0 (.inr ⟨by simpa using q3, q4⟩))
                        clear HC HS
                        go_wp2
                        go_roundw
                        case rel => exact ⟨j + 1, m, u, by omega, by go_num, rfl, rfl, HC2, HBel5⟩
                        case measure => simp [intOf]; omega
                      · have HC2 : Hid (BestW (cand P (R.take k) (ms.take i) key ++ waysOf (j + 1) key m) best way) := Lib.hid (by rw [HS.out, ← List.append_assoc]; exact HC.out.more q1 (.inr ⟨by simpa using q3, q4⟩))
                        clear HC HS
                        go_wp2
                        go_roundw
                        case rel => exact ⟨j + 1, best, way, by omega, by go_num, rfl, rfl, HC2, HBel5⟩
                        case measure => simp [intOf]; omega
              · obtain rfl : j = P := by omega
                have HC2 : Hid (BestW (cand j (R.take k) (ms.take (i + 1)) key) best way) := Lib.hid (by rw [HE.out]; exact HC.out)
                have jj : ¬ (j : Int) < (j : Int) := by omega
                clear HE HC
                go_wp2
                go_roundw
                case rel => exact ⟨i + 1, best, way, by omega, by go_num, rfl, rfl, HC2, HBel⟩
                case measure => simp [intOf]; omega
        · have ii : ¬ (i : Int) < (n : Int) := by omega
          obtain ⟨hb0, hkl, hbe⟩ := HBN.out k best way (by omega) (by have := HC.out; rw [show ms.take i = ms from List.take_of_length_le (by omega)] at this; exact this)
          have HN := Lib.hid (show R.take (k + 1) = R.take k ++ [best] by rw [take_more R 0 hkl, hbe])
          have HS : Hid (w.heap.size ≤ w2.heap.size) := Lib.hid HB.out.bel.size
          have HG : Hid (Gro w.heap.size w w3 (R.take k) a2 k d2) := Lib.hid (HB.out.bels HS.out HBel.out)
          clear hb0 hkl hbe HC
          go_wp2_with (at_builtin; refine wpList_append_lies _ rfl (.tmp 76) (.tmp 78) 22 rfl w.heap.size 3 j0' (.int .i64 0) 1 8 Try.underlying22 hj0' hy0 hy1 hy2 rfl (by decide) _ k (i64s (R.take k)) rfl (HG.out.own.alloc _) ⟨w3.heap.size, 0, none⟩ 1 1 [.int .i64 best] rfl rfl (cell_one_new w3 _ _) ?c1 (by decide) ?c2 ?c3 ?c4 _ rfl ?_)
          case c1 => first | rfl | (intro u hu; simp at hu; subst hu; rfl)
          case c2 => unfold maxLen; omega
          case c3 => omega
          case c4 => have := HG.out.bel.size; simp; omega
          intro g8 c8 w8 hown hg hlie hlt
          have HG2 : Hid (Gro w.heap.size w w8 (R.take (k + 1)) (some ⟨g8, 0, none⟩) (k + 1) c8) := Lib.hid (by rw [HN.out]; exact HG.out.more HG.out.bel.size _ hown hg)
          clear hown hg hlie hlt HG HN
          go_wp2
          go_roundw
          case rel => exact ⟨k + 1, _, _, by omega, by omega, rfl, HG2⟩
          case measure => simp [lenS]; omega
    · have HE : Hid (GotB w (R.take N.toNat) (.returned (.slice a2 k d2)) w2) := Lib.hid (by
        have e := HEND.out k hkN (by omega) (by omega)
        have hE := HB.out
        rw [e] at hE
        have e2 := hE.len
        rw [← e2] at hE ⊢
        exact ⟨_, _, rfl, hE.own, hE.bel⟩)
      clear HB
      by_cases g1 : (k : Int) < N
      · have g2 : ¬ (k : Int) < (n : Int) := by omega
        go_wp2
        go_ret
        exact HE.out
      · go_wp2
        go_ret
        exact HE.out
end Go.Proofs.Ytkacbeighaccjaa
