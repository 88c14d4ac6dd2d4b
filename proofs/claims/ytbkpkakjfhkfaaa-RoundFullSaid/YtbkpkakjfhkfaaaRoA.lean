/- A round's crowd in memory: silent. Conditions: those stated. -/
import Derived.Test.YtbkpkakjfhkfaaaRnP
import Derived.Laws.AppendOwnNone
import Derived.Laws.Rows
namespace Go.Proofs.Ytbkpkakjfhkfaaa
open Go Go.RowKit
set_option linter.unusedVariables false
set_option linter.unusedSimpArgs false

/-- A crowd in memory. -/
structure CwAt (w : World) (p n : Nat) (bs : List Bool) : Prop where
  len : bs.length = 8
  sz : w.cell? ⟨p, 0, none⟩ = some (.int .i64 n)
  ans : ∀ k, k < 8 → w.cell? ⟨p, 1 + k, none⟩ = some (.bool (bs.getD k false))
theorem CwAt.below {w w' : World} {p n : Nat} {bs : List Bool} (h : CwAt w p n bs) (hb : Below w.heap.size w w') : CwAt w' p n bs :=
  ⟨h.len, cell_later hb h.sz, fun k hk => cell_later hb (h.ans k hk)⟩
/-- A row of numbers in new memory. -/
def GotI (w : World) (l : List Int) (e : Ending) (w' : World) : Prop := (∃ ao c, e = .returned (.slice ao l.length c) ∧ w'.ownsRow w.heap.size 3 1 (.slice ao l.length c) l.length (i64s l)) ∧ Below w.heap.size w w'
set_option maxRecDepth 100000 in
set_option maxHeartbeats 4000000 in
theorem silent_c (w : World) (p n : Nat) (bs : List Bool) (h : CwAt w p n bs) (hn : n ≤ 8) :
    Calls Try.prog 99 #[.pointer (some ⟨p, 0, none⟩)] w (GotI w (silN bs n)) := by
  obtain ⟨i0, hi0, hz0, hz1, hz2⟩ := info_parts info3
  have hp0 : ((some (⟨p, 0, none⟩ : Addr)) == none) = false := rfl
  have H := Lib.hid h
  have c0 := h.sz
  have S0 : Hid (∃ ao nn c, (Value.slice none 0 0 = .slice ao nn c) ∧ nn = (silN bs 0).length ∧ w.ownsRow w.heap.size 3 1 (.slice ao nn c) nn (i64s (silN bs 0))) := Lib.hid ⟨none, 0, 0, rfl, rfl, ⟨rfl, .inl ⟨rfl, rfl⟩⟩⟩
  have HB0 := Lib.hid (Below.refl w.heap.size w)
  clear h
  go_enter Try.func99, Try.ntmps99
  go_wp2
  clear c0
  go_loopw [3, 4, 9] (fun rv _ iv wr => ∃ i : Nat, i ≤ n ∧ iv = .int .i64 i ∧ Hid (∃ ao nn c, rv = .slice ao nn c ∧ nn = (silN bs i).length ∧ wr.ownsRow w.heap.size 3 1 (.slice ao nn c) nn (i64s (silN bs i))) ∧ Hid (Below w.heap.size w wr)) (fun _ _ iv _ => n - (intOf iv).toNat)
  case atStart => exact ⟨0, by omega, rfl, S0, HB0⟩
  case round =>
    obtain ⟨i, hi, rfl, HS, HB⟩ := hrel
    obtain ⟨w2, rfl⟩ : ∃ v, v = wr := ⟨_, rfl⟩
    clear S0 HB0
    obtain ⟨ao, nn, cm, erv, hnn, hO⟩ := HS.out
    subst erv
    clear HS
    by_cases hlt : i < n
    · have ii : (i : Int) < (n : Int) := by omega
      have i0' : (0 : Int) ≤ (i : Int) := by omega
      have i8 : (i : Int) < 8 := by omega
      have cI := (H.out.below HB.out).ans i (by omega)
      have hmore := silN_more bs i
      obtain ⟨z, hz⟩ : ∃ z, z = bs.getD i false := ⟨_, rfl⟩
      rw [← hz] at cI hmore
      have hln := silN_len bs i
      rw [← hnn] at hln
      have HNN := Lib.hid hnn
      have HO := Lib.hid hO
      have HM := Lib.hid hmore
      clear hz hmore hnn hO
      cases z with
      | true =>
        have HF : Hid (∃ ao2 n2 c, (Value.slice ao nn cm) = .slice ao2 n2 c ∧ n2 = (silN bs (i + 1)).length ∧ w2.ownsRow w.heap.size 3 1 (.slice ao2 n2 c) n2 (i64s (silN bs (i + 1)))) := Lib.hid (by
          rw [HM.out]
          simp only [if_true, List.append_nil]
          exact ⟨ao, nn, cm, rfl, HNN.out, HO.out⟩)
        go_wp2
        go_roundw
        case rel => exact ⟨i + 1, by omega, by go_num, HF, HB⟩
        case measure => simp [intOf]; omega
      | false =>
        have hws : w.heap.size ≤ (w2.alloc (.cells #[.int .i64 (16 + (i : Int))] 3)).heap.size := by have := HB.out.size; simp; omega
        have HN := Lib.hid (one_new w2 (.int .i64 (16 + (i : Int))) 3)
        go_upto_region 6 with fail
        go_wp2_with (at_builtin; refine wpList_append_own _ rfl (.tmp 19) (.tmp 22) 98 rfl w.heap.size 3 i0 (.int .i64 0) 1 8 Try.underlying98 hi0 hz0 hz1 hz2 rfl (by decide) _ nn (i64s (silN bs i)) rfl (HO.out.alloc _) ⟨w2.heap.size, 0, none⟩ 1 1 [.int .i64 (16 + (i : Int))] rfl rfl HN.out (by simp [Value.oneCell']) (by unfold maxLen; omega) (by omega) hws ?_)
        intro v8 w8 hown8 hg8 _
        obtain ⟨a8, c8, rfl⟩ := own_form hown8
        have HF : Hid (∃ ao2 n2 c, (Value.slice a8 (nn + 1) c8) = .slice ao2 n2 c ∧ n2 = (silN bs (i + 1)).length ∧ w8.ownsRow w.heap.size 3 1 (.slice ao2 n2 c) n2 (i64s (silN bs (i + 1)))) := Lib.hid (by
          have e : silN bs (i + 1) = silN bs i ++ [16 + (i : Int)] := HM.out
          have el : nn + 1 = (silN bs (i + 1)).length := by rw [e, List.length_append, ← HNN.out]; rfl
          refine ⟨a8, nn + 1, c8, rfl, el, ?_⟩
          rw [e, ← i64s_app]
          exact hown8)
        have HB8 : Hid (Below w.heap.size w w8) := Lib.hid ((HB.out.alloc HB.out.size _).grown hg8 (by have := HB.out.size; simp; omega) (fun k hk => (HO.out.lt k hk).1))
        clear hown8 hg8
        go_wp2
        go_roundw
        case rel => exact ⟨i + 1, by omega, by go_num, HF, HB8⟩
        case measure => simp [intOf]; omega
    · have ii : ¬ (i : Int) < (n : Int) := by omega
      obtain rfl : i = n := by omega
      have HF : Hid (GotI w (silN bs i) (.returned (.slice ao nn cm)) w2) := Lib.hid ⟨⟨ao, cm, by rw [hnn], by rw [hnn] at hO; exact hO⟩, HB.out⟩
      clear hO hnn
      go_wp2
      go_ret
      exact HF.out
end Go.Proofs.Ytbkpkakjfhkfaaa
