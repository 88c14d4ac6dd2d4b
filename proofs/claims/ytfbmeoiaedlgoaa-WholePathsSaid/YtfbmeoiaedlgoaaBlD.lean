/- Contract of packet.Build: the packet's bytes in a new row, or error 9. Conditions: the packet's numbers are of their types, its Data came in, of at most 2^62 bytes. -/
import Derived.Test.YtfbmeoiaedlgoaaBlC
namespace Go.Proofs.Ytfbmeoiaedlgoaa
open Go Go.RowKit
set_option linter.unusedVariables false
set_option linter.unusedSimpArgs false

theorem At.src {w : World} {ao : Option Addr} {m c : Nat} {l : List Int} (h : At w (.slice ao m c) l) (hm : l.length = m) (h0 : 0 < m) : (ao = none → m = 0 ∧ c = 0) ∧ ∀ ad, ao = some ad → ∀ j u, (u8s l)[j]? = some u → w.cell? (ad.add j) = some u := by
  obtain ⟨a', cap', e, hA⟩ := h
  simp only [Value.slice.injEq] at e
  obtain ⟨rfl, _, rfl⟩ := e
  rcases hA with h1 | ⟨b, off, rfl, hc⟩
  · rw [h1] at hm; simp at hm; omega
  · refine ⟨(fun e => by cases e), fun ad ha j u hu => ?_⟩
    cases ha
    exact u8s_cells hc j u hu

set_option maxRecDepth 100000 in
set_option maxHeartbeats 400000 in
theorem build_no (p : Pk) (a : Option Addr) (n c : Nat) (hn : p.data.length = n) (hb : n ≤ 4611686018427387904) (h : ¬ Ok p) (w : World) :
    Calls Try.prog 42 #[p.val a n c] w fun e w' => e = .returned (.tuple #[.slice none 0 0, errno 9]) ∧ Below w.heap.size w w' := by
  obtain ⟨W, hW, hB⟩ := Box.start w p a n c
  have HW := Lib.hid hW
  have HB := Lib.hid hB
  have C := Lib.hid (fun W => check_no p a n c hn hb h W)
  clear hn hb h hW hB
  go_enter Try.func42, Try.ntmps42
  go_wp2_with fail
  rw [HW.out]
  refine (C.out W).mono ?_
  rintro e w1 ⟨rfl, hb⟩
  have HB1 := Lib.hid (HB.out.next hb)
  clear hb HB HW C
  go_wp2
  go_ret2
  exact ⟨rfl, HB1.out.below⟩

set_option maxRecDepth 100000 in
set_option maxHeartbeats 1000000 in
theorem build_ok (p : Pk) (a : Option Addr) (n c : Nat) (h : Ok p) (ht : Typed p) (w : World) (hI : In w a n c p.data) :
    Calls Try.prog 42 #[p.val a n c] w fun e w' => ∃ g cap, e = .returned (.tuple #[.slice (some ⟨g, 0, none⟩) (20 + segLen p) cap, .nilIface]) ∧ Own w' w.heap.size g cap (20 + segLen p) (bts p) ∧ Below w.heap.size w w' := by
  obtain ⟨i0, hi0, hz0, hz1, hz2⟩ := info_parts info5
  obtain ⟨W, hW, hB⟩ := Box.start w p a n c
  have HW := Lib.hid hW
  have HB := Lib.hid hB
  have C := Lib.hid (fun W => check_ok p a n c hI.len h W)
  have HI := Lib.hid hI
  have hsl := h.len
  have hs8 : 8 ≤ segLen p := by unfold segLen; split <;> omega
  have hI2 := Lib.hid (fun W => buildIP_any p a n c h ht W)
  have hSL : Hid ((seg p (segSum p)).length = segLen p) := Lib.hid (seg_len _ _)
  obtain ⟨m, hm⟩ : ∃ m, m = segLen p := ⟨_, rfl⟩
  have hseg : ∃ F : Nat, (F = 54 ∧ (p.proto == 17) = false ∨ F = 55 ∧ (p.proto == 17) = true) ∧ ∀ W, In W a n c p.data → Calls Try.prog F #[p.val a n c] W fun e w' => ∃ ao cp, e = .returned (.slice ao m cp) ∧ At w' (.slice ao m cp) (seg p (segSum p)) ∧ Below W.heap.size W w' := by
    rw [hm]
    rcases h.proto with hp | hp
    · exact ⟨_, .inl ⟨rfl, by simp [hp]⟩, fun W hi => buildTCP_any p a n c h ht hp W hi⟩
    · exact ⟨_, .inr ⟨rfl, by simp [hp]⟩, fun W hi => buildUDP_any p a n c h ht hp W hi⟩
  have HBT : Hid (u8s (hdr p m (ipSum p)) ++ u8s (seg p (segSum p)) = u8s (bts p)) := Lib.hid (by rw [hm, u8s_app]; rfl)
  have HBL : Hid ((bts p).length = 20 + m) := Lib.hid (by rw [hm, bts_len])
  rw [← hm] at hsl hs8 hI2 hSL
  rw [← hm]
  obtain ⟨F, hF, CF⟩ := hseg
  have HCF := Lib.hid CF
  clear hI h ht hW hB hm CF
  rcases hF with ⟨rfl, q⟩ | ⟨rfl, q⟩
  all_goals
    go_enter Try.func42, Try.ntmps42
    go_wp2_with fail
    rw [HW.out]
    refine (C.out W).mono ?_
    rintro e w1 ⟨rfl, hb⟩
    have HB1 := Lib.hid (HB.out.next hb)
    obtain ⟨e0, e1, e2, e3, e4, e5, e6, e7, e8, e9, e10, e11, e12⟩ := HB1.out.here
    clear hb
    go_wp2_with fail
    refine (HCF.out w1 (HI.out.below HB1.out.below)).mono ?_
    rintro e w2 ⟨ao, cp, rfl, hA, hb⟩
    have HB2 := Lib.hid (HB1.out.next hb)
    have HA := Lib.hid hA
    clear hb hA e0 e1 e2 e3 e4 e5 e6 e7 e8 e9 e10 e11 e12
    obtain ⟨e0, e1, e2, e3, e4, e5, e6, e7, e8, e9, e10, e11, e12⟩ := HB2.out.here
    go_wp2_with fail
    refine (hI2.out w2).mono ?_
    rintro e w3 ⟨a3, c3, rfl, ho, hb⟩
    have HB3 := Lib.hid (HB2.out.next hb)
    have HA3 := Lib.hid ((HA.out.below hb).src hSL.out (by omega))
    have HO3 := Lib.hid (own_base ho (B' := w.heap.size) (by have := HB2.out.below.size; omega))
    have hsz := HB3.out.below.size
    clear hb ho e0 e1 e2 e3 e4 e5 e6 e7 e8 e9 e10 e11 e12
    go_wp2_with (at_builtin; refine append_any rfl (.tmp 22) (.tmp 23) 90 rfl w.heap.size 5 i0 (.int .u8 0) 1 1 Try.underlying90 hi0 hz0 hz1 hz2 rfl (by decide) _ 20 (u8s (hdr p m (ipSum p))) rfl HO3.out ao m cp (u8s (seg p (segSum p))) rfl HA3.out.1 ?c1 HA3.out.2 (u8s_one _) ?c2 ?c3 ?c4 ?_)
    case c1 => unfold u8s; rw [List.length_map, hSL.out]; omega
    case c2 => unfold maxLen; omega
    case c3 => omega
    case c4 => exact hsz
    intro v4 w4 hown4 hg4
    have HB4 := Lib.hid (HB3.out.below.grown hg4 hsz (fun k hk => (HO3.out.lt k hk).1))
    rw [HBT.out] at hown4
    obtain ⟨g, cap, hv4, hg⟩ := own_shape hown4 (by omega)
    rw [hv4] at hown4
    rw [hv4]
    have HO4 : Hid (Own w4 w.heap.size g cap (20 + m) (bts p)) := Lib.hid ⟨hown4, HBL.out, hg⟩
    clear hown4 hg4 hv4 hsz
    go_wp2
    go_ret2
    exact ⟨g, cap, rfl, HO4.out, HB4.out⟩
end Go.Proofs.Ytfbmeoiaedlgoaa
