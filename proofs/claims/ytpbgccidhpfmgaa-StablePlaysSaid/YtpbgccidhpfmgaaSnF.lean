/- StableFull's walk: it returns true. Conditions: none but the row's own. -/
import Derived.Test.YtpbgccidhpfmgaaSnT
import Derived.Deep.CutRange
namespace Go.Proofs.Ytpbgccidhpfmgaa
open Go Go.RowKit Go.Maps
set_option linter.unusedVariables false
set_option linter.unusedSimpArgs false

theorem in_drop {w : World} {ad : Addr} {n cap : Nat} {l : List Int} (h : In w (some ad) n cap l) (k : Nat) (hk : k ≤ n) : In w (some (ad.add k)) (n - k) (cap - k) (l.drop k) := by
  have hlen := h.len
  have hroom := h.room
  refine ⟨by rw [List.length_drop]; omega, by omega, (fun e => by cases e), ⟨_, cap - k, by rw [List.length_drop, hlen], ?_⟩, fun x hx => h.fit x (List.mem_of_mem_drop hx)⟩
  obtain ⟨a', cap', e, hA⟩ := h.here
  cases e
  rcases hA with rfl | ⟨b', off', e, hc⟩
  · exact .inl (by simp)
  · cases e
    refine .inr ⟨b', off' + k, by rw [Go.WideShapes.add_plain], fun j hj => ?_⟩
    rw [List.length_drop] at hj
    have := hc (k + j) (by omega)
    rw [Nat.add_assoc, this, List.getD_eq_getElem?_getD, List.getD_eq_getElem?_getD, List.getElem?_drop]
theorem in_none {w : World} {ad : Addr} {n cap : Nat} {l : List Int} (h : In w (some ad) n cap l) : In w (some ad) 0 0 [] := ⟨rfl, Nat.le_refl _, (fun e => by cases e), ⟨_, 0, rfl, .inl rfl⟩, by intro x hx; cases hx⟩
section
variable {w0 w : World} {p1 p2 : Nat} {s1 s2 : Int} {l1 m1 l2 m2 : List Pr} {K : Nat → Prop}
theorem Tw.put1d (h : Tw w0 w p1 s1 l1 m1 p2 s2 l2 m2 K) (k : Ky) (hk : k.length ≤ maxLen) {a : Option Addr} {n c : Nat} {r : List Int} (hr : In w a n c r) (hn : n ≤ 140737488355328) :
    Calls Try.prog 35 #[.pointer (some ⟨p1, 0, none⟩), sv k, .slice (some ⟨w.heap.size, 0, none⟩) 1 1] (w.alloc (.cells #[.slice a n c] tyB)).drew fun e w' => e = .returned (errF (putN s1 k r l1 : Nat)) ∧ Tw w0 w' p1 s1 (putL s1 k r l1) m1 p2 s2 l2 m2 K := by
  have hO := h.new ((bl_al (Below.refl _ _) (.cells #[.slice a n c] tyB)).drew)
  have hlen := hr.len
  refine (hO.put k w.heap.size 1 _ [r] hk ((RsIn.one hr).below (Below.refl _ _).drew) (by omega) (by simp; omega)).mono ?_
  rintro e w' ⟨rfl, h1, h2⟩
  rw [flat1] at h1 ⊢
  exact ⟨rfl, h1⟩
theorem Tw.put2 (h : Tw w0 w p1 s1 l1 m1 p2 s2 l2 m2 K) (k : Ky) (hk : k.length ≤ maxLen) {a a2 : Option Addr} {n c n2 c2 : Nat} {r r2 : List Int} (hr : In w a n c r) (hr2 : In w a2 n2 c2 r2) (hn : n ≤ 140737488355328) (hn2 : n2 ≤ 140737488355328) :
    Calls Try.prog 35 #[.pointer (some ⟨p1, 0, none⟩), sv k, .slice (some ⟨w.heap.size, 0, none⟩) 2 2] (w.alloc (.cells #[.slice a n c, .slice a2 n2 c2] tyB)) fun e w' => e = .returned (errF (putN s1 k (r ++ r2) l1 : Nat)) ∧ Tw w0 w' p1 s1 (putL s1 k (r ++ r2) l1) m1 p2 s2 l2 m2 K := by
  have hO := h.new (bl_al (Below.refl _ _) (.cells #[.slice a n c, .slice a2 n2 c2] tyB))
  have hlen := hr.len
  have hlen2 := hr2.len
  have e0 : [r, r2].flatten = r ++ r2 := by simp
  refine (hO.put k w.heap.size 2 _ [r, r2] hk (RsIn.two hr hr2) (by omega) (by rw [e0, List.length_append]; omega)).mono ?_
  rintro e w' ⟨rfl, h1, h2⟩
  rw [e0] at h1 ⊢
  exact ⟨rfl, h1⟩
end
theorem put_two {k : Ky} {r : List Int} {size : Int} (hk : OkK k) (h : ((k.length + r.length : Nat) : Int) ≤ size) : putN size k r [⟨k, r⟩] = 0 := by
  refine putN_ok hk ?_
  have e : cutP k [(⟨k, r⟩ : Pr)] = [] := by unfold cutP; rw [List.filter_cons_of_neg (by simp)]; rfl
  rw [e]
  simp only [usedP]
  omega
set_option maxRecDepth 100000 in
set_option maxHeartbeats 8000000 in
theorem stableFull_good (k : Ky) (a : Option Addr) (n c : Nat) (r : List Int) (z : Int) (w : World) (hr : In w a n c r) (hk : OkK k) (hn : n ≤ 65536) (hz : -9223372036854775808 ≤ z ∧ z ≤ 9223372036854775807) :
    Calls Try.prog 7 #[sv k, .slice a n c, .int .i64 z] w fun e w' => e = .returned (.bool true) ∧ Below w.heap.size w w' := by
  have CA := Lib.hid (alive_c w)
  have HR := Lib.hid hr
  have HK := Lib.hid hk
  have hlen := hr.len
  have hroom := hr.room
  have en := nilNe
  have ee := nilEl
  have e5 := errEq 5 (by omega)
  have h1 : ¬ ((k.length : Int) < 1) := by have := hk.1; omega
  have h2 : ¬ ((64 : Int) < (k.length : Int)) := by have := hk.2; omega
  have h3 : ¬ ((65536 : Int) < (n : Int)) := by omega
  have HKM : Hid (k.length ≤ maxLen) := Lib.hid (by have := hk.2; unfold maxLen; omega)
  obtain ⟨u, hu⟩ : ∃ u, u = IntKind.u64.wrap z := ⟨_, rfl⟩
  have hu0 : 0 ≤ u ∧ u < 18446744073709551616 := by rw [hu, IntKind.wrap_u64]; omega
  obtain ⟨kk, hkk⟩ : ∃ kk : Nat, (kk : Int) = u % ((n : Int) + 1) := ⟨(u % ((n : Int) + 1)).toNat, by rw [Int.toNat_of_nonneg (Int.emod_nonneg _ (by omega))]⟩
  have hkn : kk ≤ n := by have := Int.emod_lt_of_pos u (show (0 : Int) < (n : Int) + 1 by omega); omega
  have m0 : ∀ [Inhabited Nat], IntKind.u64.wrap z = u := by intro _; exact hu.symm
  have m1 : ∀ [Inhabited Nat], IntKind.u64.wrap ((n : Int) + 1) = (n : Int) + 1 := by intro _; exact IntWalk.u64_in _ (by omega)
  have m2 : u.tmod ((n : Int) + 1) = (kk : Int) := by rw [Int.tmod_eq_emod_of_nonneg hu0.1]; exact hkk.symm
  have m3 : ∀ [Inhabited Nat], IntKind.u64.wrap (kk : Int) = (kk : Int) := by intro _; exact IntWalk.u64_in _ (by omega)
  have m4 : ∀ [Inhabited Nat], IntKind.i64.wrap (kk : Int) = (kk : Int) := by intro _; exact IntWalk.i64_in _ (by omega)
  clear hr hk hu hkk hu0
  have HP1 := Lib.hid (put_first (size := ((k.length + n : Nat) : Int)) (r := r) HK.out (by omega))
  have HP2 := Lib.hid (put_two (size := ((k.length + n : Nat) : Int)) (r := r) HK.out (by omega))
  have HP3 : Hid (putN ((k.length + n : Nat) - 1 : Int) k r [] = 5) := Lib.hid (putN_full HK.out (by simp only [cutP, List.filter_nil, usedP]; omega))
  have HU1 : Hid (usedP [(⟨k, r⟩ : Pr)] = k.length + n) := Lib.hid (by simp only [usedP, szP]; omega)
  obtain ⟨kn, hkn2⟩ : ∃ kn : Nat, kn = k.length + n := ⟨_, rfl⟩
  have q1 : ∀ [Inhabited Nat], IntKind.i64.wrap ((k.length : Int) + (n : Int)) = (kn : Int) := by intro _; rw [IntWalk.i64_in _ (by omega)]; omega
  have q1' : ∀ [Inhabited Nat], wrap64 ((k.length : Int) + (n : Int)) = (kn : Int) := by intro _; unfold wrap64; omega
  have hk1 := HK.out.1
  have hk2 := HK.out.2
  rw [← hkn2] at HP1 HP2 HP3 HU1
  have HKN := Lib.hid hkn2
  have hknb : 1 ≤ kn ∧ kn ≤ 65600 := by omega
  clear hkn2 hk1 hk2
  go_enter Try.func7, Try.ntmps7
  go_wp2_with fail
  refine CA.out.mono ?_
  rintro e w1 ⟨rfl, hb1⟩
  have HB1 := Lib.hid hb1
  have CN := Lib.hid (new_c (kn : Int) w1)
  clear hb1 CA
  go_wp2_with fail
  refine CN.out.mono ?_
  rintro e w2 hW
  obtain ⟨p, rfl, hO, _⟩ := SOn.made (w0 := w) (K := fun _ => False) (by unfold OkZ; omega) HB1.out (fun _ h => h.elim) hW
  have HO := Lib.hid hO
  have CN2 := Lib.hid (new_c ((kn : Int) - 1) w2)
  clear hW hO CN
  go_wp2_with fail
  refine CN2.out.mono ?_
  rintro e w3 hW
  obtain ⟨p2, rfl, hT⟩ := Tw.made HO.out (by unfold OkZ; omega) hW
  have HT := Lib.hid hT
  clear hW hT HO CN2
  go_wp2_with fail
  have CP1 : Hid (Calls Try.prog 35 #[.pointer (some ⟨p, 0, none⟩), sv k, .slice (some ⟨w3.heap.size, 0, none⟩) 1 1] (w3.alloc (.cells #[.slice a n c] tyB)).drew fun e w' => e = .returned .nilIface ∧ Tw w w' p kn [⟨k, r⟩] [] p2 ((kn : Int) - 1) [] [] (fun _ => False)) := Lib.hid (by
    have := HT.out.put1d k HKM.out (HR.out.below HT.out.bel) (by omega)
    rw [HP1.out.1, HP1.out.2] at this
    exact this)
  have PU : Hid (∀ W, Tw w W p kn [⟨k, r⟩] [] p2 ((kn : Int) - 1) [] [] (fun _ => False) → Calls Try.prog 49 #[.pointer (some ⟨p, 0, none⟩)] W fun e w' => e = .returned (.int .i64 (kn : Nat)) ∧ Tw w w' p kn [⟨k, r⟩] [] p2 ((kn : Int) - 1) [] [] (fun _ => False)) := Lib.hid (fun W hT => by
    have := hT.used
    rw [HU1.out] at this
    exact this.mono fun e w' hh => ⟨hh.1, hT.new (non_below hh.2)⟩)
  obtain ⟨l', hl'⟩ : ∃ l', l' = putL (kn : Int) k r [⟨k, r⟩] := ⟨_, rfl⟩
  have P2 : Hid (∀ W (a1 a2 : Option Addr) (n1 c1 n2 c2 : Nat) (r1 r2 : List Int), r1 ++ r2 = r → In W a1 n1 c1 r1 → In W a2 n2 c2 r2 → n1 ≤ 65536 → n2 ≤ 65536 → Tw w W p kn [⟨k, r⟩] [] p2 ((kn : Int) - 1) [] [] (fun _ => False) → Calls Try.prog 35 #[.pointer (some ⟨p, 0, none⟩), sv k, .slice (some ⟨W.heap.size, 0, none⟩) 2 2] (W.alloc (.cells #[.slice a1 n1 c1, .slice a2 n2 c2] tyB)) fun e w' => e = .returned .nilIface ∧ Tw w w' p kn l' [] p2 ((kn : Int) - 1) [] [] (fun _ => False)) := Lib.hid (fun W a1 a2 n1 c1 n2 c2 r1 r2 hrr h1 h2 hn1 hn2 hT => by
    have := hT.put2 k HKM.out h1 h2 (by omega) (by omega)
    rw [hrr, HP2.out, ← hl'] at this
    exact this)
  have P3 : Hid (∀ W, Tw w W p kn l' [] p2 ((kn : Int) - 1) [] [] (fun _ => False) → Calls Try.prog 35 #[.pointer (some ⟨p2, 0, none⟩), sv k, .slice (some ⟨W.heap.size, 0, none⟩) 1 1] (W.alloc (.cells #[.slice a n c] tyB)) fun e w' => e = .returned (errnoF 5) ∧ Tw w w' p2 ((kn : Int) - 1) [] [] p kn l' [] (fun _ => False)) := Lib.hid (fun W hT => by
    have := hT.swap.put1 k HKM.out (HR.out.below hT.bel) (by omega)
    rw [HP3.out, putL_same (by rw [HP3.out]; decide)] at this
    exact this)
  have PU2 : Hid (∀ W, Tw w W p2 ((kn : Int) - 1) [] [] p kn l' [] (fun _ => False) → Calls Try.prog 49 #[.pointer (some ⟨p2, 0, none⟩)] W fun e w' => e = .returned (.int .i64 0) ∧ Tw w w' p2 ((kn : Int) - 1) [] [] p kn l' [] (fun _ => False)) := Lib.hid (fun W hT => hT.used.mono fun e w' hh => ⟨hh.1, hT.new (non_below hh.2)⟩)
  have PK : Hid (∀ W, Tw w W p2 ((kn : Int) - 1) [] [] p kn l' [] (fun _ => False) → Calls Try.prog 48 #[.pointer (some ⟨p2, 0, none⟩)] W fun e w' => ∃ ao cc, e = .returned (.slice ao 0 cc) ∧ Below w.heap.size w w') := Lib.hid (fun W hT => hT.keys.mono fun e w' hh => by
    obtain ⟨v, rfl, hrow, ht⟩ := hh
    obtain ⟨ao, cc, rfl⟩ := own_form hrow
    exact ⟨ao, cc, rfl, bl_tr hT.bel (non_below ht)⟩)
  have HRB := Lib.hid (fun W (hT : Tw w W p kn [⟨k, r⟩] [] p2 ((kn : Int) - 1) [] [] (fun _ => False)) => HR.out.below hT.bel)
  clear hl' HT
  cases a with
  | none =>
    obtain ⟨rfl, rfl⟩ := HR.out.zero rfl
    have hk0 : kk = 0 := by omega
    subst hk0
    have HRN : Hid (([] : List Int) ++ [] = r) := Lib.hid (List.eq_nil_of_length_eq_zero HR.out.len).symm
    have HIN := Lib.hid in_nil
    go_region_held3 (fun _ => True) (first | (with_reducible exact trivial) | (with_reducible assumption) | fail)
      (first
        | (go_at_call 35; (with_reducible refine CP1.out.mono ?_); rintro e w4 ⟨rfl, hT4⟩)
        | (go_at_call 49; (with_reducible refine (PU.out _ hT4).mono ?_); rintro e w5 ⟨rfl, hT5⟩)
        | (go_at_call 35; (with_reducible refine (P2.out w5 _ _ _ _ _ _ [] [] HRN.out (HIN.out _) (HIN.out _) (by omega) (by omega) hT5).mono ?_); rintro e w6 ⟨rfl, hT6⟩)
        | (go_at_call 35; (with_reducible refine (P3.out w6 hT6).mono ?_); rintro e w7 ⟨rfl, hT7⟩)
        | (go_at_call 49; (with_reducible refine (PU2.out _ hT7).mono ?_); rintro e w8 ⟨rfl, hT8⟩)
        | (go_at_call 48; (with_reducible refine (PK.out _ hT8).mono ?_); rintro e w9 ⟨ao, cc, rfl, hb9⟩)
        | fail)
    have HB9 := Lib.hid hb9
    clear hb9 hT4 hT5 hT6 hT7 hT8
    go_wp2
    go_ret
    exact ⟨rfl, HB9.out⟩
  | some ad =>
    have k0 : (0 : Int) ≤ (kk : Int) := by omega
    by_cases hck : c = kk
    · have hnk : n = kk := by omega
      subst hnk
      subst hck
      have hle : (c : Int) ≤ (c : Int) := Int.le_refl _
      go_region_held3 (fun _ => True) (first | (with_reducible exact trivial) | (with_reducible assumption) | fail)
        (first
          | (go_at_call 35; (with_reducible refine CP1.out.mono ?_); rintro e w4 ⟨rfl, hT4⟩)
          | (go_at_call 49; (with_reducible refine (PU.out _ hT4).mono ?_); rintro e w5 ⟨rfl, hT5⟩)
          | (go_at_call 35; (with_reducible refine (P2.out w5 _ _ _ _ _ _ _ _ (List.append_nil r) (HRB.out w5 hT5) (in_none (HRB.out w5 hT5)) (by omega) (by omega) hT5).mono ?_); rintro e w6 ⟨rfl, hT6⟩)
          | (go_at_call 35; (with_reducible refine (P3.out w6 hT6).mono ?_); rintro e w7 ⟨rfl, hT7⟩)
          | (go_at_call 49; (with_reducible refine (PU2.out _ hT7).mono ?_); rintro e w8 ⟨rfl, hT8⟩)
          | (go_at_call 48; (with_reducible refine (PK.out _ hT8).mono ?_); rintro e w9 ⟨ao, cc, rfl, hb9⟩)
          | fail)
      have HB9 := Lib.hid hb9
      clear hb9 hT4 hT5 hT6 hT7 hT8
      go_wp2
      go_ret
      exact ⟨rfl, HB9.out⟩
    · have hkc : (kk : Int) ≤ (c : Int) := by omega
      have hkn' : (kk : Int) ≤ (n : Int) := by omega
      go_region_held3 (fun _ => True) (first | (with_reducible exact trivial) | (with_reducible assumption) | fail)
        (first
          | (go_at_call 35; (with_reducible refine CP1.out.mono ?_); rintro e w4 ⟨rfl, hT4⟩)
          | (go_at_call 49; (with_reducible refine (PU.out _ hT4).mono ?_); rintro e w5 ⟨rfl, hT5⟩)
          | (go_at_call 35; (with_reducible refine (P2.out w5 _ _ _ _ _ _ _ _ (List.take_append_drop kk r) ((HRB.out w5 hT5).take kk hkn) (in_drop (HRB.out w5 hT5) kk hkn) (by omega) (by omega) hT5).mono ?_); rintro e w6 ⟨rfl, hT6⟩)
          | (go_at_call 35; (with_reducible refine (P3.out w6 hT6).mono ?_); rintro e w7 ⟨rfl, hT7⟩)
          | (go_at_call 49; (with_reducible refine (PU2.out _ hT7).mono ?_); rintro e w8 ⟨rfl, hT8⟩)
          | (go_at_call 48; (with_reducible refine (PK.out _ hT8).mono ?_); rintro e w9 ⟨ao, cc, rfl, hb9⟩)
          | fail)
      have HB9 := Lib.hid hb9
      clear hb9 hT4 hT5 hT6 hT7 hT8
      go_wp2
      go_ret
      exact ⟨rfl, HB9.out⟩
set_option maxRecDepth 100000 in
set_option maxHeartbeats 4000000 in
theorem stableFull_t (k : Ky) (a : Option Addr) (n c : Nat) (r : List Int) (z : Int) (w : World) (hr : In w a n c r) (hk : k.length ≤ maxLen) (hn : n ≤ 140737488355328) (hz : -9223372036854775808 ≤ z ∧ z ≤ 9223372036854775807) :
    Calls Try.prog 7 #[sv k, .slice a n c, .int .i64 z] w fun e w' => e = .returned (.bool true) ∧ Below w.heap.size w w' := by
  by_cases hgood : OkK k ∧ n ≤ 65536
  · exact stableFull_good k a n c r z w hr hgood.1 hgood.2 hz
  have CA := Lib.hid (alive_c w)
  have HR := Lib.hid hr
  have HK := Lib.hid hk
  have hlen := hr.len
  have en := nilNe
  have ee := nilEl
  have e9 := errEq 9 (by omega)
  have hlk : (k.length : Int) ≤ 9223372036854775807 := by unfold maxLen at hk; omega
  clear hr hk hz
  by_cases h1 : (k.length : Int) < 1
  · have HB : Hid (¬ OkK k) := Lib.hid (fun h => by have := h.1; omega)
    clear hgood
    by_cases h3 : (65536 : Int) < (n : Int)
    · go_enter Try.func7, Try.ntmps7
      go_wp2_with fail
      refine CA.out.mono ?_
      rintro e w1 ⟨rfl, hb1⟩
      have HB1 := Lib.hid hb1
      have CN := Lib.hid (new_c 1048576 w1)
      clear hb1 CA
      go_wp2_with fail
      refine CN.out.mono ?_
      rintro e w2 hW
      obtain ⟨p, rfl, hO, _⟩ := SOn.made (w0 := w) (K := fun _ => False) (by decide) HB1.out (fun _ h => h.elim) hW
      have HO := Lib.hid hO
      clear hW hO CN
      have HBW := Lib.hid HO.out.bel
      go_wp2
      go_ret
      exact ⟨rfl, HBW.out⟩
    · go_enter Try.func7, Try.ntmps7
      go_wp2_with fail
      refine CA.out.mono ?_
      rintro e w1 ⟨rfl, hb1⟩
      have HB1 := Lib.hid hb1
      have CN := Lib.hid (new_c 1048576 w1)
      clear hb1 CA
      go_wp2_with fail
      refine CN.out.mono ?_
      rintro e w2 hW
      obtain ⟨p, rfl, hO, _⟩ := SOn.made (w0 := w) (K := fun _ => False) (by decide) HB1.out (fun _ h => h.elim) hW
      have HO := Lib.hid hO
      clear hW hO CN
      have CP := Lib.hid (HO.out.put1 k HK.out (HR.out.below HO.out.bel) (by omega))
      rw [putN_bad HB.out] at CP
      go_wp2_with fail
      refine CP.out.mono ?_
      rintro e w3 ⟨rfl, hO, _⟩
      rw [show errF ((9 : Nat) : Int) = errnoF 9 from rfl]
      have HBW := Lib.hid hO.bel
      clear hO CP HO
      go_wp2
      go_ret
      exact ⟨rfl, HBW.out⟩
  by_cases h2 : (64 : Int) < (k.length : Int)
  · have HB : Hid (¬ OkK k) := Lib.hid (fun h => by have := h.2; omega)
    clear hgood
    by_cases h3 : (65536 : Int) < (n : Int)
    · go_enter Try.func7, Try.ntmps7
      go_wp2_with fail
      refine CA.out.mono ?_
      rintro e w1 ⟨rfl, hb1⟩
      have HB1 := Lib.hid hb1
      have CN := Lib.hid (new_c 1048576 w1)
      clear hb1 CA
      go_wp2_with fail
      refine CN.out.mono ?_
      rintro e w2 hW
      obtain ⟨p, rfl, hO, _⟩ := SOn.made (w0 := w) (K := fun _ => False) (by decide) HB1.out (fun _ h => h.elim) hW
      have HO := Lib.hid hO
      clear hW hO CN
      have HBW := Lib.hid HO.out.bel
      go_wp2
      go_ret
      exact ⟨rfl, HBW.out⟩
    · go_enter Try.func7, Try.ntmps7
      go_wp2_with fail
      refine CA.out.mono ?_
      rintro e w1 ⟨rfl, hb1⟩
      have HB1 := Lib.hid hb1
      have CN := Lib.hid (new_c 1048576 w1)
      clear hb1 CA
      go_wp2_with fail
      refine CN.out.mono ?_
      rintro e w2 hW
      obtain ⟨p, rfl, hO, _⟩ := SOn.made (w0 := w) (K := fun _ => False) (by decide) HB1.out (fun _ h => h.elim) hW
      have HO := Lib.hid hO
      clear hW hO CN
      have CP := Lib.hid (HO.out.put1 k HK.out (HR.out.below HO.out.bel) (by omega))
      rw [putN_bad HB.out] at CP
      go_wp2_with fail
      refine CP.out.mono ?_
      rintro e w3 ⟨rfl, hO, _⟩
      rw [show errF ((9 : Nat) : Int) = errnoF 9 from rfl]
      have HBW := Lib.hid hO.bel
      clear hO CP HO
      go_wp2
      go_ret
      exact ⟨rfl, HBW.out⟩
  · have h3 : (65536 : Int) < (n : Int) := by unfold OkK at hgood; omega
    clear hgood
    go_enter Try.func7, Try.ntmps7
    go_wp2_with fail
    refine CA.out.mono ?_
    rintro e w1 ⟨rfl, hb1⟩
    have HB1 := Lib.hid hb1
    have CN := Lib.hid (new_c 1048576 w1)
    clear hb1 CA
    go_wp2_with fail
    refine CN.out.mono ?_
    rintro e w2 hW
    obtain ⟨p, rfl, hO, _⟩ := SOn.made (w0 := w) (K := fun _ => False) (by decide) HB1.out (fun _ h => h.elim) hW
    have HO := Lib.hid hO
    clear hW hO CN
    have HBW := Lib.hid HO.out.bel
    go_wp2
    go_ret
    exact ⟨rfl, HBW.out⟩
end Go.Proofs.Ytpbgccidhpfmgaa
