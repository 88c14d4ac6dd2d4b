/- Contracts of towpathlaw10.cancels and WheelGone: true. No conditions. -/
import Derived.Test.YthoegmcdohppoaaWkB
namespace Go.Proofs.Ythoegmcdohppoaa
open Go Go.RowKit
set_option linter.unusedVariables false
set_option linter.unusedSimpArgs false

theorem WOn.cancel {w0 w : World} {p : Nat} {ts : List Wy} (h : WOn w0 w p ts) {W : World} (hb : Below w.heap.size w W) (ks : List Int) (n c : Nat) (hI : InI W (some ⟨w.heap.size, 0, none⟩) n c ks) (hn : ts.length ≤ 1048576) (hn2 : n ≤ 1048576) :
    Calls Try.prog 15 #[.pointer (some ⟨p, 0, none⟩), .slice (some ⟨w.heap.size, 0, none⟩) n c] W fun e w' => e = .returned (.int .i64 (cntsT ks ts : Nat)) ∧ WOn w0 w' p (cutsT ks ts) := by
  obtain ⟨F, h1⟩ := h.st
  have h2 := h1.keep (tch_new hb) (fun _ _ h => h)
  refine (wcancel_t w0.heap.size p F ts ks (some ⟨w.heap.size, 0, none⟩) n c W h2 (bl_tr h.bel hb).size ⟨hI, fun b off e _ hf => ?_⟩ hn hn2).mono ?_
  · cases e
    have := (h1.blocks _ hf).2
    omega
  · rintro e w' ⟨he, hT⟩
    exact ⟨he, WTo.on (ts := ts) (bl_tr h.bel hb) (fun k hk => (h2.blocks k hk).1) hT⟩
/-- One key's life. -/
theorem gT_set {a k : Int} (h : OkA a) : setR a [k] [] = (0, [(a, k)]) := by unfold setR; rw [if_pos h]; rfl
theorem gT_cnt (a k : Int) : cntsT [k, k] [(a, k)] = 1 := by simp [cntsT, cntT, cutT]
theorem gT_cut (a k : Int) : cutsT [k, k] [(a, k)] = [] := by simp [cutsT, cutT]
theorem gT_again {a b k : Int} (h : OkA b) : setR b [k] [(a, k)] = (0, [(b, k)]) := by unfold setR; rw [if_pos h]; simp [putsT, putT, cutT]
theorem gT_at (a k : Int) : atT k [(a, k)] = some a := by simp [atT]
theorem gT_none (k : Int) : atT k [] = none := rfl
theorem gT_due {a k n : Int} (h : a ≤ n) : dueT n [(a, k)] = [k] ∧ leftT n [(a, k)] = [] := by
  constructor
  · rw [(due_step (show KeyT [(a, k)] by unfold KeyT; simp) (t := (a, k)) (List.mem_singleton.2 rfl) (fun u hu => by rw [List.mem_singleton.1 hu]; exact leW_refl _) h).1]
    simp [cutT, dueT, srtW]
  · simp [leftT, h]
theorem gT_not {a k n : Int} (h : n < a) : dueT n [(a, k)] = [] ∧ leftT n [(a, k)] = [(a, k)] := due_end (fun t ht => by rw [List.mem_singleton.1 ht]; exact h)
theorem gT_no (n : Int) : dueT n [] = [] ∧ leftT n [] = [] := ⟨rfl, rfl⟩
set_option maxRecDepth 100000 in
set_option maxHeartbeats 8000000 in
theorem cancels_t (key at' later : Int) (cancel : Bool) (w : World) (hk : I64 key) (ha : I64 at') (hl : I64 later) :
    Calls Try.prog 25 #[.int .i64 key, .int .i64 at', .int .i64 later, .bool cancel] w fun e w' => e = .returned (.bool true) ∧ Below w.heap.size w w' := by
  have en := nilEq
  have hk' : -9223372036854775808 ≤ key ∧ key < 9223372036854775808 := by unfold I64 at hk; omega
  have HK := Lib.hid hk'
  have CA := Lib.hid (alive10_any w)
  have HI := Lib.hid (And.intro hk (And.intro ha hl))
  clear hk hk'
  unfold I64 at ha hl
  go_enter Try.func25, Try.ntmps25
  go_wp2_with fail
  refine CA.out.mono ?_
  rintro e w1 ⟨rfl, hb⟩
  have HB1 := Lib.hid hb
  have CN := Lib.hid (wnew_t 7 w1 (by unfold I64; omega))
  clear hb CA
  by_cases q : at' < 0 ∨ later ≤ at' ∨ 1099511627776 < later
  · go_upto_region 4 with fail
    all_goals go_wp2
    all_goals first
      | (go_ret; exact ⟨rfl, HB1.out⟩)
      | (exfalso; omega)
  obtain ⟨q1, q2, q3⟩ : 0 ≤ at' ∧ at' < later ∧ later ≤ 1099511627776 := by omega
  have HQ := Lib.hid (And.intro q1 (And.intro q2 q3))
  clear q
  go_upto_region 5 with fail
  clear q1 q2 q3 ha hl
  go_wp2_with fail
  refine CN.out.mono ?_
  rintro e w2 hW
  obtain ⟨p, rfl, hO⟩ := WOn.made (by unfold OkS; omega) hW
  have C1 := Lib.hid (hO.set (bl_al (Below.refl _ _) (.cells #[.int .i64 key] 3)) at' [key] 1 1 (in_oneT w2 key HK.out) (by decide) HI.out.2.1)
  rw [gT_set (by have := HQ.out; unfold OkA; omega)] at C1
  clear hW hO CN
  go_wp2_with fail
  refine C1.out.mono ?_
  rintro e w3 ⟨rfl, hO⟩
  rw [show errT 0 = Value.nilIface from rfl]
  cases cancel
  · have C2 := Lib.hid (hO.set (bl_al (Below.refl _ _) (.cells #[.int .i64 key] 3)) later [key] 1 1 (in_oneT w3 key HK.out) (by simp) HI.out.2.2)
    rw [gT_again (by have := HQ.out; unfold OkA; omega)] at C2
    clear hO C1
    go_wp2_with fail
    refine C2.out.mono ?_
    rintro e w4 ⟨rfl, hO⟩
    rw [show errT 0 = Value.nilIface from rfl]
    have C3 := Lib.hid (WOn.key (ts := [(later, key)]) hO key (by simp) HI.out.1)
    rw [gT_at] at C3
    clear hO C2
    go_wp2_with fail
    refine C3.out.mono ?_
    rintro e w5 ⟨rfl, hO⟩
    rw [show atR (some later) = .tuple #[.int .i64 later, .bool true] from rfl]
    have C4 := Lib.hid (hO.len (by simp))
    rw [show ((([(later, key)] : List Wy).length : Nat) : Int) = 1 from rfl] at C4
    clear hO C3
    go_wp2_with fail
    refine C4.out.mono ?_
    rintro e w6 ⟨rfl, hO⟩
    have C5 := Lib.hid (hO.due (later - 1) (by simp) (by have := HQ.out; unfold I64; omega))
    rw [(gT_not (show later - 1 < later by omega)).1, (gT_not (show later - 1 < later by omega)).2] at C5
    clear hO C4
    have hq := HQ.out
    go_wp2_with fail
    refine C5.out.mono ?_
    rintro e w7 ⟨a7, c7, rfl, _, hO⟩
    rw [show ([] : List Int).length = 0 from rfl]
    have C6 := Lib.hid (hO.due later (by simp) HI.out.2.2)
    rw [(gT_due (Int.le_refl later)).1, (gT_due (Int.le_refl later)).2] at C6
    clear hO C5 hq
    go_wp2_with fail
    refine C6.out.mono ?_
    rintro e w8 ⟨a8, c8, rfl, hI8, hO⟩
    rw [show ([key] : List Int).length = 1 from rfl] at hI8 ⊢
    have hb8 := bl_al (Below.refl w8.heap.size w8) (.cells #[.int .i64 key] 3)
    have C8 := Lib.hid (ints_any [key] [key] a8 (some ⟨w8.heap.size, 0, none⟩) 1 c8 1 1 _ (hI8.below hb8) (in_oneT w8 key HK.out) (by omega) true (by simp))
    have HO8 := Lib.hid (hO.new hb8)
    clear hO C6 hI8 hb8
    go_wp2_with fail
    refine C8.out.mono ?_
    rintro e w9 ⟨rfl, hb⟩
    have HB := Lib.hid (WOn.lower HB1.out (HO8.out.new hb))
    clear hb C8 HO8
    go_wp2
    go_ret
    exact ⟨rfl, HB.out⟩
  · have C2 := Lib.hid (hO.cancel (bl_al (Below.refl _ _) (.cells #[.int .i64 key, .int .i64 key] 3)) [key, key] 2 2 (in_twoT w3 key key HK.out HK.out) (by simp) (by omega))
    rw [gT_cnt, gT_cut] at C2
    clear hO C1
    go_wp2_with fail
    refine C2.out.mono ?_
    rintro e w4 ⟨rfl, hO⟩
    have C3 := Lib.hid (hO.key key (by simp) HI.out.1)
    rw [gT_none] at C3
    clear hO C2
    go_wp2_with fail
    refine C3.out.mono ?_
    rintro e w5 ⟨rfl, hO⟩
    rw [show atR none = .tuple #[.int .i64 0, .bool false] from rfl]
    have C4 := Lib.hid (hO.due later (by simp) HI.out.2.2)
    rw [(gT_no later).1, (gT_no later).2] at C4
    clear hO C3
    go_wp2_with fail
    refine C4.out.mono ?_
    rintro e w6 ⟨a6, c6, rfl, _, hO⟩
    rw [show ([] : List Int).length = 0 from rfl]
    have C5 := Lib.hid (hO.len (by simp))
    rw [show ((([] : List Wy).length : Nat) : Int) = 0 from rfl] at C5
    clear hO C4
    go_wp2_with fail
    refine C5.out.mono ?_
    rintro e w7 ⟨rfl, hO⟩
    have HB := Lib.hid (WOn.lower HB1.out hO)
    clear hO C5
    go_wp2
    go_ret
    exact ⟨rfl, HB.out⟩
end Go.Proofs.Ythoegmcdohppoaa
