/- Contract of the document's Hash. Condition: the addresses fit their kinds. -/
import Derived.Test.YtolkheelmmgnbaaDoorL3
namespace Go.Proofs.YtolkheelmmgnbaaDoor
open Go Go.RowKit Go.Sort

def stepH (h b : Int) : Int := IntKind.u64.wrap (bits .xor .u64 h b * 1099511628211)
def startH (s : Int) : Int := bits .xor .u64 s 14695981039346656037
def finH (h : Int) : Int := bits .xor .u64 (IntKind.u64.wrap (bits .xor .u64 h (h / 4294967296) * 11400714819323198485)) (IntKind.u64.wrap (bits .xor .u64 h (h / 4294967296) * 11400714819323198485) / 536870912)
/-- A flow's number. -/
def hashF (s : Int) (f : Fl) : Int := finH ((bytesF f).foldl stepH (startH s))
theorem bytes_len (f : Fl) : (bytesF f).length = 13 := rfl
theorem bytes_fit (f : Fl) (f1 : 0 ≤ f.s ∧ f.s < 4294967296) (f3 : 0 ≤ f.d ∧ f.d < 4294967296) : ∀ b ∈ bytesF f, 0 ≤ b ∧ b < 256 := by
  intro b hb
  unfold bytesF four at hb
  simp only [List.mem_append, List.mem_map, List.mem_range, List.mem_cons, List.not_mem_nil, or_false] at hb
  rcases hb with ((rfl | ⟨k, _, rfl⟩) | ⟨k, _, rfl⟩) | rfl | rfl | rfl | rfl
  · omega
  · exact byteAt_fits f1.1 f1.2 k
  · exact byteAt_fits f3.1 f3.2 k
  all_goals omega
theorem take_more (l : List Int) (k : Nat) (hk : k < l.length) : l.take (k + 1) = l.take k ++ [l.getD k 0] := by
  rw [List.take_succ_eq_append_getElem hk]
  simp [List.getD_eq_getElem?_getD, hk]

theorem refBytes_cells (f : Fl) (w : World) (f1 : 0 ≤ f.s ∧ f.s < 4294967296) (f3 : 0 ≤ f.d ∧ f.d < 4294967296) :
    Calls Tryd.prog 47 #[f.val] w fun e w' => ∃ g cap, e = .returned (.slice (some ⟨g, 0, none⟩) 13 cap) ∧ Hid (∀ j, j < 13 → w'.cell? ⟨g, j, none⟩ = some (.int .u8 ((bytesF f).getD j 0))) ∧ Below w.heap.size w w' := by
  refine (refBytes f w f1 f3).mono ?_
  rintro e w' ⟨v, rfl, ho, hb⟩
  rcases ho.2 with ⟨_, h0⟩ | ⟨g, cap, cur, hv, _⟩
  · exact absurd h0 (by decide)
  · refine ⟨g, cap, by rw [hv], ?_, hb⟩
    intro j hj
    have hl : j < (bytesF f).length := by rw [bytes_len]; exact hj
    have h := ho.cells (g := g) (by rw [hv]; rfl) j (.int .u8 ((bytesF f).getD j 0)) (by unfold u8s; rw [List.getElem?_map]; simp [List.getD_eq_getElem?_getD, hl])
    rw [Lib.add_plain] at h
    simpa using h

set_option maxHeartbeats 2000000 in
set_option maxRecDepth 100000 in
theorem refHash (s : Int) (f : Fl) (w : World) (f1 : 0 ≤ f.s ∧ f.s < 4294967296) (f3 : 0 ≤ f.d ∧ f.d < 4294967296) :
    Calls Tryd.prog 27 #[.int .u64 s, f.val] w fun e w' => e = .returned (.int .u64 (hashF s f)) ∧ Below w.heap.size w w' := by
  have RB := Lib.hid (fun (w : World) => refBytes_cells f w f1 f3)
  have FIT := Lib.hid (bytes_fit f f1 f3)
  clear f1 f3
  go_enter Tryd.func27, Tryd.ntmps27
  go_wp2_with (go_at_call 47; refine (RB.out _).mono ?_; rintro e w2 ⟨g, cap, rfl, hC2, hb2⟩)
  have hB2 := Lib.hid (bl_tr (bl_al (Below.refl w.heap.size w) f.obj) hb2)
  clear hb2
  go_loopw [5, 7] (fun v i wr => ∃ k : Nat, ∃ h : Int, k ≤ 13 ∧ i = .int .i64 k ∧ v = .int .u64 h ∧ Hid (h = ((bytesF f).take k).foldl stepH (startH s)) ∧ Hid (∀ j, j < 13 → wr.cell? ⟨g, j, none⟩ = some (.int .u8 ((bytesF f).getD j 0))) ∧ Hid (Below w.heap.size w wr)) (fun _ i _ => 13 - (intOf i).toNat)
  case atStart => exact ⟨0, _, by omega, rfl, rfl, Lib.hid rfl, hC2, hB2⟩
  case round =>
    clear hC2 hB2
    obtain ⟨k, h, hk, rfl, rfl, hh, hC, hB⟩ := hrel
    by_cases hlt : k < 13
    · have hc := hC.out k hlt
      obtain ⟨b, hbv⟩ : ∃ b, b = (bytesF f).getD k 0 := ⟨_, rfl⟩
      rw [← hbv] at hc
      have hl : k < (bytesF f).length := by rw [bytes_len]; exact hlt
      obtain ⟨b0, b1⟩ := FIT.out b (by rw [hbv, List.getD_eq_getElem?_getD, List.getElem?_eq_getElem hl]; exact List.getElem_mem hl)
      have HN := Lib.hid (show stepH h b = ((bytesF f).take (k + 1)).foldl stepH (startH s) by rw [take_more _ _ hl, List.foldl_append, ← hh.out, ← hbv]; rfl)
      unfold stepH at HN
      clear hbv hl
      go_wp2
      go_roundw
      case rel => exact ⟨k + 1, _, by omega, by go_num, rfl, HN, hC, hB⟩
      case measure => simp [intOf]; omega
    · have HN := Lib.hid (show h = (bytesF f).foldl stepH (startH s) by rw [hh.out, List.take_of_length_le (by rw [bytes_len]; omega)])
      have HV : Hid (hashF s f = finH h) := Lib.hid (by rw [HN.out]; rfl)
      unfold finH at HV
      go_wp2
      go_ret
      exact ⟨by rw [HV.out]; rfl, hB.out⟩
end Go.Proofs.YtolkheelmmgnbaaDoor
