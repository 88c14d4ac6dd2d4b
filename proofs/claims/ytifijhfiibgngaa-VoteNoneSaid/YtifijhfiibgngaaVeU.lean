/- put and save: pairs into the store, all or none. Conditions: those stated. -/
import Derived.Test.YtifijhfiibgngaaVeT
namespace Go.Proofs.Ytifijhfiibgngaa
open Go Go.RowKit
set_option linter.unusedVariables false
set_option linter.unusedSimpArgs false

theorem five_neq (w : World) : (binOp .neq 28 (errnoF 5) .nilIface).run Try.prog w = .ok (.bool true) w := by kernel_rfl
theorem putN_or3 (size : Int) (k : Ky) (r : List Int) (l : List Pr) : putN size k r l = 0 ∨ putN size k r l = 5 ∨ putN size k r l = 9 := by
  unfold putN
  split
  · split
    · exact .inr (.inl rfl)
    · exact .inl rfl
  · exact .inr (.inr rfl)
theorem putL_of {size : Int} {k : Ky} {r : List Int} {l : List Pr} (h : putN size k r l = 0) : putL size k r l = putP k r l := putL_put h
theorem putsP_go {size : Int} {e : Pr} {ps l : List Pr} (h : putN size e.k e.b l = 0) : putsP size (e :: ps) l = putsP size ps (putP e.k e.b l) := by
  show (if _ then _ else _) = _
  rw [if_pos h]
theorem putsP_no {size : Int} {e : Pr} {ps l : List Pr} (h : putN size e.k e.b l ≠ 0) : putsP size (e :: ps) l = (putN size e.k e.b l, l) := by
  show (if _ then _ else _) = _
  rw [if_neg h]
set_option maxRecDepth 100000 in
set_option maxHeartbeats 8000000 in
theorem vput_c (w0 w : World) (p s : Nat) (size : Int) (l m : List Pr) (K : Nat → Prop) (h : SOn w0 w s size l m K) (hp : StC w p s) (hKp : K p) (a : Option Addr) (n c : Nat) (ps : List Pr) (vs : List Value) (hP : PsIn w K a n c ps vs) (hn : n ≤ 4) (hk : ∀ e ∈ ps, e.k.length ≤ 64 ∧ e.b.length ≤ 67108864) :
    Calls Try.prog 89 #[.pointer (some ⟨p, 0, none⟩), .slice a n c] w fun e w' => e = .returned (errF ((putsP size ps l).1 : Nat)) ∧ SOn w0 w' s size (putsP size ps l).2 m K ∧ Kpt K w w' := by
  have hlen := hP.len
  have hroom := hP.room
  have HP := Lib.hid hP
  have HKP := Lib.hid hKp
  have HSC := Lib.hid hp
  have HKL := Lib.hid hk
  obtain ⟨R, hR⟩ : ∃ R, R = putsP size ps l := ⟨_, rfl⟩
  rw [← hR]
  have HL0 : Hid (∃ li, R = putsP size (ps.drop 0) li ∧ SOn w0 w s size li m K ∧ Kpt K w w) := Lib.hid ⟨l, hR, h, fun _ _ => rfl⟩
  clear h hp hKp hP hk hR
  go_enter Try.func89, Try.ntmps89
  go_wp2
  go_loopw [6, 7, 10] (fun _ _ iv wr => ∃ (i : Nat), i ≤ n ∧ iv = .int .i64 i ∧ Hid (∃ li, R = putsP size (ps.drop i) li ∧ SOn w0 wr s size li m K ∧ Kpt K w wr)) (fun _ _ iv _ => n - (intOf iv).toNat)
  case atStart => exact ⟨0, by omega, rfl, HL0⟩
  case round =>
    obtain ⟨i, hi, rfl, HL⟩ := hrel
    obtain ⟨w3, rfl⟩ : ∃ v, v = wr := ⟨_, rfl⟩
    clear HL0
    by_cases hlt : i < n
    · have ii : (i : Int) < (n : Int) := by omega
      have i0' : (0 : Int) ≤ (i : Int) := by omega
      have ic : (i : Int) ≤ (c : Int) := by omega
      obtain ⟨li, hRi, hS, hkp⟩ := HL.out
      have hP3 := HP.out.kpt hkp
      obtain ⟨b1, o1, rfl, hKb⟩ := HP.out.block (by omega)
      obtain ⟨c0, c1⟩ := hP3.cell hlt
      obtain ⟨a2, n2, c2, hv, hI2, hI2K⟩ := hP3.rows i hlt
      rw [hv] at c1
      have hmem := memPr (ps := ps) (i := i) (by omega)
      have hk64 := HKL.out _ hmem
      have hdr : ps.drop i = ps.getD i pr0 :: ps.drop (i + 1) := by
        rw [List.drop_eq_getElem_cons (by omega), List.getD_eq_getElem?_getD, List.getElem?_eq_getElem (by omega)]
        rfl
      rw [hdr] at hRi
      obtain ⟨x, hx⟩ : ∃ x, x = ps.getD i pr0 := ⟨_, rfl⟩
      rw [← hx] at c0 hk64 hRi hI2
      obtain ⟨k, r⟩ := x
      have hkm : k.length ≤ maxLen := by unfold maxLen; have := hk64.1; simp only at this; omega
      have hn2 : n2 ≤ 67108864 := by rw [← hI2.len]; exact hk64.2
      obtain ⟨w4, hw4⟩ : ∃ w4, w4 = w3.alloc (.cells #[sv k, .slice a2 n2 c2] tyPr) := ⟨_, rfl⟩
      have hb4 : Below w3.heap.size w3 w4 := by rw [hw4]; exact bl_al (Below.refl _ _) _
      obtain ⟨p4, hp4⟩ : ∃ p4, p4 = w3.heap.size := ⟨_, rfl⟩
      have hx4 : w4.heap[p4]? = some (.cells #[sv k, .slice a2 n2 c2] tyPr (0, 0)) := by rw [hw4, hp4]; exact heap_alloc_new w3 _
      have hs4 : w4.heap.size = p4 + 1 := by rw [hw4, hp4]; simp
      have HW4 := Lib.hid (And.intro hw4 hp4)
      have hS4 := hS.grow hb4
      obtain ⟨K4, eK4⟩ : ∃ K4 : Nat → Prop, K4 = fun k => K k ∨ (w3.heap.size ≤ k ∧ k < w4.heap.size) := ⟨_, rfl⟩
      rw [← eK4] at hS4
      have hK24 : ∀ k, K k → K4 k := fun k hk => by rw [eK4]; exact .inl hk
      have hK4p : K4 p4 := by rw [eK4]; exact .inr ⟨by omega, by omega⟩
      have hkpt4 : Kpt K w3 w4 := (hS.new hb4).2
      have d5 : w4.cell? ⟨p, 5, none⟩ = some (.pointer (some ⟨s, 0, none⟩)) := (hkp.trans hkpt4).cell (show w.cell? ⟨p, 5, none⟩ = _ from HSC.out) HKP.out
      have d0 : w4.cell? ⟨p4, 0, none⟩ = some (sv k) := by rw [cell_of_row w4 p4 0 _ _ _ hx4]; rfl
      have d1 : w4.cell? ⟨p4, 1, none⟩ = some (.slice a2 n2 c2) := by rw [cell_of_row w4 p4 1 _ _ _ hx4]; rfl
      have hI4 := hI2.below hb4
      have HKK := Lib.hid (hK24 p HKP.out)
      have HKP4 := Lib.hid hK4p
      have HK24 := Lib.hid hK24
      have HKT := Lib.hid (hkp.trans hkpt4)
      have HRI := Lib.hid hRi
      have HS4 := Lib.hid hS4
      have CP : Hid (Calls Try.prog 77 #[.pointer (some ⟨s, 0, none⟩), sv k, .slice (some ⟨w4.heap.size, 0, none⟩) 1 1] (w4.alloc (.cells #[.slice a2 n2 c2] tyB)).drew fun e w' => e = .returned (errF (putN size k r li : Nat)) ∧ SOn w0 w' s size (putL size k r li) m K4 ∧ Kpt K4 w4.drew w') := Lib.hid ((hS4.new (Below.refl _ _).drew).1.put1 k hkm (hI4.below (Below.refl _ _).drew) (by omega))
      have hpn := putN_or3 size k r li
      obtain ⟨pn, hpne⟩ : ∃ pn : Nat, pn = putN size k r li := ⟨_, rfl⟩
      rw [← hpne] at CP hpn
      have HPN := Lib.hid hpne
      clear HL hS hkp hP3 hv hI2 hI2K hmem hx hRi hw4 hb4 hp4 hx4 hs4 hK24 hK4p hkpt4 eK4 hdr hpne hI4 hS4
      go_upto_region 4 with fail
      rw [show w3.alloc (.cells #[sv k, .slice a2 n2 c2] tyPr) = w4 from HW4.out.1.symm, ← HW4.out.2]
      clear c0 c1
      have hS0 : w4.drew.cell? ⟨p, 5, none⟩ = some (.pointer (some ⟨s, 0, none⟩)) ∧ w4.drew.cell? ⟨p4, 0, none⟩ = some (sv k) ∧ w4.drew.cell? ⟨p4, 1, none⟩ = some (.slice a2 n2 c2) := ⟨d5, d0, d1⟩
      have hS1 : (w4.alloc (.cells #[.slice a2 n2 c2] tyB)).drew.cell? ⟨p, 5, none⟩ = some (.pointer (some ⟨s, 0, none⟩)) ∧ (w4.alloc (.cells #[.slice a2 n2 c2] tyB)).drew.cell? ⟨p4, 0, none⟩ = some (sv k) ∧ (w4.alloc (.cells #[.slice a2 n2 c2] tyB)).drew.cell? ⟨p4, 1, none⟩ = some (.slice a2 n2 c2) := ⟨cell_later (bl_al (Below.refl _ _) _).drew d5, cell_later (bl_al (Below.refl _ _) _).drew d0, cell_later (bl_al (Below.refl _ _) _).drew d1⟩
      clear d0 d1 d5
      go_region_held3 (fun wx => wx.cell? ⟨p, 5, none⟩ = some (.pointer (some ⟨s, 0, none⟩)) ∧ wx.cell? ⟨p4, 0, none⟩ = some (sv k) ∧ wx.cell? ⟨p4, 1, none⟩ = some (.slice a2 n2 c2)) (first | (with_reducible exact hS0) | (with_reducible exact hS1) | (with_reducible assumption) | fail)
        (first
          | (go_at_call 77; (with_reducible refine CP.out.mono ?_); rintro e w5 ⟨rfl, hS5, hk5⟩; have hS5a := (show w5.cell? ⟨p, 5, none⟩ = some (.pointer (some ⟨s, 0, none⟩)) ∧ w5.cell? ⟨p4, 0, none⟩ = some (sv k) ∧ w5.cell? ⟨p4, 1, none⟩ = some (.slice a2 n2 c2) from ⟨hk5.cell hS0.1 HKK.out, hk5.cell hS0.2.1 HKP4.out, hk5.cell hS0.2.2 HKP4.out⟩))
          | fail)
      all_goals
        have HS5 := Lib.hid (hS5.less HK24.out)
        have HK5 : Hid (Kpt K w w5) := Lib.hid (HKT.out.trans (((HS4.out.new (Below.refl _ _).drew).2.trans hk5).less HK24.out))
        clear hS5 hk5 hS5a hS0 hS1
        rcases hpn with hpn | hpn | hpn
        · subst hpn
          have q0 := nilNe
          have HF : Hid (∃ li, R = putsP size (ps.drop (i + 1)) li ∧ SOn w0 w5 s size li m K ∧ Kpt K w w5) := Lib.hid ⟨_, by
            have := HRI.out
            rwa [putsP_go HPN.out.symm] at this, by have := HS5.out; rwa [putL_put HPN.out.symm] at this, HK5.out⟩
          clear HS5 HK5
          rw [show errF ((0 : Nat) : Int) = .nilIface from rfl]
          go_wp2
          go_roundw
          case rel => exact ⟨i + 1, by omega, by go_num, HF⟩
          case measure => simp [intOf]; omega
        · subst hpn
          have q5 := five_neq
          have HF : Hid (R = (5, li) ∧ SOn w0 w5 s size li m K ∧ Kpt K w w5) := Lib.hid ⟨by
            have := HRI.out
            rw [putsP_no (by rw [← HPN.out]; omega)] at this
            rw [this]
            show (putN size k r li, li) = _
            rw [← HPN.out], by have := HS5.out; rwa [putL_same (by rw [← HPN.out]; omega)] at this, HK5.out⟩
          clear HS5 HK5
          rw [show errF ((5 : Nat) : Int) = errnoF 5 from rfl]
          go_wp2
          go_ret
          exact ⟨by rw [HF.out.1]; rfl, by rw [HF.out.1]; exact HF.out.2.1, HF.out.2.2⟩
        · subst hpn
          have q5 := nine_neq
          have HF : Hid (R = (9, li) ∧ SOn w0 w5 s size li m K ∧ Kpt K w w5) := Lib.hid ⟨by
            have := HRI.out
            rw [putsP_no (by rw [← HPN.out]; omega)] at this
            rw [this]
            show (putN size k r li, li) = _
            rw [← HPN.out], by have := HS5.out; rwa [putL_same (by rw [← HPN.out]; omega)] at this, HK5.out⟩
          clear HS5 HK5
          rw [show errF ((9 : Nat) : Int) = errnoF 9 from rfl]
          go_wp2
          go_ret
          exact ⟨by rw [HF.out.1]; rfl, by rw [HF.out.1]; exact HF.out.2.1, HF.out.2.2⟩
    · have ii : ¬ (i : Int) < (n : Int) := by omega
      obtain rfl : i = n := by omega
      have HF : Hid (∃ li, R = (0, li) ∧ SOn w0 w3 s size li m K ∧ Kpt K w w3) := Lib.hid (by
        have := HL.out
        rwa [List.drop_eq_nil_of_le (by omega)] at this)
      clear HL
      go_wp2
      go_ret
      obtain ⟨li, h1, h2, h3⟩ := HF.out
      exact ⟨by rw [h1]; rfl, by rw [h1]; exact h2, h3⟩
end Go.Proofs.Ytifijhfiibgngaa
