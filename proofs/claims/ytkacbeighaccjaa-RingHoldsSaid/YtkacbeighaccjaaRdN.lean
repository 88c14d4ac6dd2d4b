/- The program's rings in memory; New. Conditions: the row came in. -/
import Derived.Test.YtkacbeighaccjaaRdQ
import Derived.Test.YtkacbeighaccjaaRgS
namespace Go.Proofs.Ytkacbeighaccjaa
open Go Go.RowKit
set_option linter.unusedVariables false
set_option linter.unusedSimpArgs false

/-- A ring of the program's. -/
structure RSt (w : World) (r P : Nat) (ms : List Int) : Prop where
  lt : r < w.heap.size
  ok : OkMs ms
  hP : 0 < P ∧ P ≤ 64
  c0 : w.cell? ⟨r, 0, none⟩ = some (.int .i64 P)
  mem : ∃ am cm, w.cell? ⟨r, 1, none⟩ = some (.slice am ms.length cm) ∧ InI w am ms.length cm (srtI ms)
  pt : ∃ ap cp S, w.cell? ⟨r, 2, none⟩ = some (.slice ap (ms.length * P) cp) ∧ ms.length * P ≤ cp ∧ PlA ap cp ∧ InP w ap (ms.length * P) S ∧ S.Perm (pts P (srtI ms)) ∧ S.Pairwise leW
theorem RSt.below {w w' : World} {r P : Nat} {ms : List Int} (h : RSt w r P ms) (hb : Below w.heap.size w w') : RSt w' r P ms := by
  refine ⟨Nat.lt_of_lt_of_le h.lt hb.size, h.ok, h.hP, (hb.cell (p := ⟨r, 0, none⟩) h.lt).trans h.c0, ?_, ?_⟩
  · obtain ⟨am, cm, h1, h2⟩ := h.mem
    exact ⟨am, cm, (hb.cell (p := ⟨r, 1, none⟩) h.lt).trans h1, h2.below hb⟩
  · obtain ⟨ap, cp, S, h1, h2, hpl, h3, h4⟩ := h.pt
    exact ⟨ap, cp, S, (hb.cell (p := ⟨r, 2, none⟩) h.lt).trans h1, h2, hpl, h3.below hb, h4⟩
theorem okMs_iff {ms : List Int} {n : Nat} (hl : ms.length = n) (hn : n ≤ 64) : OkMs ms ↔ GoodA (srtI ms) n := by
  have h := goodA_iff (srtI_sorted ms)
  rw [srtI_len, hl] at h
  rw [h]
  constructor
  · rintro ⟨_, h1, h2⟩
    exact ⟨(srtI_perm ms).nodup_iff.2 h1, fun m hm => h2 m ((srtI_perm ms).mem_iff.1 hm)⟩
  · rintro ⟨h1, h2⟩
    exact ⟨by omega, (srtI_perm ms).nodup_iff.1 h1, fun m hm => h2 m ((srtI_perm ms).mem_iff.2 hm)⟩
theorem ring_new (w : World) (P : Nat) (v1 v2 : Value) : (w.alloc (.cells #[.int .i64 P, v1, v2] 70)).cell? ⟨w.heap.size, 0, none⟩ = some (.int .i64 P) ∧ (w.alloc (.cells #[.int .i64 P, v1, v2] 70)).cell? ⟨w.heap.size, 1, none⟩ = some v1 ∧ (w.alloc (.cells #[.int .i64 P, v1, v2] 70)).cell? ⟨w.heap.size, 2, none⟩ = some v2 := by
  refine ⟨?_, ?_, ?_⟩ <;> simp [go_sem]
set_option maxRecDepth 100000 in
set_option maxHeartbeats 4000000 in
theorem rnew_t (P : Int) (ms : List Int) (a : Option Addr) (n c : Nat) (w : World) (hI : InI w a n c ms) (hn : n ≤ 1048576) (hP : -9223372036854775808 ≤ P ∧ P ≤ 9223372036854775807) (z : Int) (hz : GoodP P ms z) :
    Calls Try.prog 13 #[.int .i64 P, .slice a n c] w (RNw RSt w P.toNat ms z) := by
  have hlen := hI.len
  have HZ := Lib.hid hz
  clear hP
  by_cases q1 : P < 1
  · have HE : Hid (z = 4) := Lib.hid (hz.1 (fun h => by unfold OkP at h; omega))
    clear hI hz
    go_enter Try.func13, Try.ntmps13
    go_wp2
    go_ret2
    exact ⟨.inr ⟨by rw [HE.out]; decide, by rw [HE.out]; rfl⟩, Below.refl _ _⟩
  by_cases q2 : 64 < P
  · have HE : Hid (z = 4) := Lib.hid (hz.1 (fun h => by unfold OkP at h; omega))
    clear hI hz
    go_enter Try.func13, Try.ntmps13
    go_wp2
    go_ret2
    exact ⟨.inr ⟨by rw [HE.out]; decide, by rw [HE.out]; rfl⟩, Below.refl _ _⟩
  have hOP : OkP P := by unfold OkP; omega
  have HOP := Lib.hid hOP
  by_cases q3 : 64 < n
  · have HE : Hid (z = 9) := Lib.hid (hz.2.1 hOP (fun h => by have := h.1; omega))
    have ii : (64 : Int) < (n : Int) := by omega
    clear hI hz hOP
    go_enter Try.func13, Try.ntmps13
    go_wp2
    go_ret2
    exact ⟨.inr ⟨by rw [HE.out]; decide, by rw [HE.out]; rfl⟩, Below.refl _ _⟩
  have ii : ¬ (64 : Int) < (n : Int) := by omega
  have HFit : Hid (fitI (srtI ms)) := Lib.hid (fun m hm => hI.fit m ((srtI_perm ms).mem_iff.1 hm))
  have CC := Lib.hid (clone_c ms a n c w hI hn)
  have HIF := Lib.hid (okMs_iff hlen (by omega))
  obtain ⟨p, rfl⟩ : ∃ p : Nat, P = p := ⟨P.toNat, by omega⟩
  rw [Int.toNat_natCast]
  have p1 : 0 < p ∧ p ≤ 64 := by omega
  have hsl : (srtI ms).length = n := (srtI_len ms).trans hlen
  clear hI hz hOP
  go_enter Try.func13, Try.ntmps13
  go_wp2_with fail
  refine CC.out.mono ?_
  rintro e w1 ⟨v1, rfl, ho1, hb1⟩
  have CS := Lib.hid (sort_c ms v1 n w.heap.size w1 ho1 hb1.size hn)
  have HB1 := Lib.hid hb1
  clear ho1 hb1 CC
  go_wp2_with fail
  refine CS.out.mono ?_
  rintro e w2 ⟨rfl, ho2, hb2⟩
  have HB2 := Lib.hid (HB1.out.trans hb2)
  obtain ⟨a2, c2, rfl⟩ := own_form ho2
  have hI2 := own_inI ho2 hsl HFit.out
  have HI2 := Lib.hid hI2
  clear ho2 hb2 CS HB1
  by_cases q4 : OkMs ms
  · have CA := Lib.hid (areMembers_c (srtI ms) a2 n c2 w2 hI2 hn true ⟨fun _ => HIF.out.1 q4, fun _ => rfl⟩)
    have CP := Lib.hid (spread_c p (srtI ms) a2 n c2 w2 hI2 (by omega) p1 (fun m hm => q4.2.2 m ((srtI_perm ms).mem_iff.1 hm)))
    have HE : Hid (z = 0) := Lib.hid (HZ.out.2.2 HOP.out q4)
    have HOK := Lib.hid q4
    clear q4 hI2
    go_wp2_with fail
    refine CA.out.mono ?_
    rintro e _ ⟨rfl, rfl⟩
    clear CA
    go_wp2_with fail
    refine CP.out.mono ?_
    rintro e w3 ⟨a3, c3, S, rfl, hc3, hpl, hS, hp, hs, hb3⟩
    rw [hsl] at *
    have HB3 := Lib.hid (HB2.out.trans (hb3.mono HB2.out.size))
    have HR : Hid (RSt (w3.alloc (.cells #[.int .i64 p, .slice a2 n c2, .slice a3 (n * p) c3] 70)) w3.heap.size p ms) := Lib.hid (by
      have hb := bl_al (Below.refl w3.heap.size w3) (.cells #[.int .i64 p, .slice a2 n c2, .slice a3 (n * p) c3] 70)
      obtain ⟨r0, r1, r2⟩ := ring_new w3 p (.slice a2 n c2) (.slice a3 (n * p) c3)
      exact ⟨by simp, HOK.out, p1, r0, ⟨a2, c2, by rw [hlen]; exact r1, by rw [hlen]; exact (HI2.out.below hb3).below hb⟩, ⟨a3, c3, S, by rw [hlen]; exact r2, by rw [hlen]; exact hc3, hpl, by rw [hlen]; exact hS.below hb, hp, hs⟩⟩)
    clear hc3 hpl hS hp hs hb3
    go_wp2
    go_ret2
    exact ⟨.inl ⟨HE.out, _, rfl, HR.out⟩, HB3.out.alloc HB3.out.size _⟩
  · have CA := Lib.hid (areMembers_c (srtI ms) a2 n c2 w2 hI2 hn false ⟨fun h => by simp at h, fun h => absurd (HIF.out.2 h) q4⟩)
    have HE : Hid (z = 9) := Lib.hid (HZ.out.2.1 HOP.out q4)
    clear q4 hI2
    go_wp2_with fail
    refine CA.out.mono ?_
    rintro e _ ⟨rfl, rfl⟩
    clear CA
    go_wp2
    go_ret2
    exact ⟨.inr ⟨by rw [HE.out]; decide, by rw [HE.out]; rfl⟩, HB2.out⟩
end Go.Proofs.Ytkacbeighaccjaa
