/- Contract of sum.Update: a sum changed by words. Conditions: the numbers fit 16 bits; the pairs lie in memory, at most 2^32 of them. -/
import Derived.Test.YtfbmeoiaedlgoaaRow
import Derived.RegionTactic
import Derived.Deep.QuietTactic
import Derived.BigQuiet
namespace Go.Proofs.Ytfbmeoiaedlgoaa
open Go Go.RowKit
set_option linter.unusedVariables false
set_option linter.unusedSimpArgs false

theorem grown_set (w : World) (g j : Nat) (v : Value) : w.grownBy (w.setCell ⟨g, j, none⟩ v) (some g) :=
  ⟨rfl, rfl, rfl, by simp, fun k _ hne => Below.heap_setCell w ⟨g, j, none⟩ v k (fun e => hne (by rw [e]))⟩
/-- A sum changed by a pair of words. -/
def up (c : Int) (p : Int × Int) : Int := 65535 - car (65535 - c + (65535 - p.1) + p.2)
def fit2 (pl : List (Int × Int)) : Prop := ∀ p ∈ pl, w16 p.1 ∧ w16 p.2
theorem up_fits {c : Int} {p : Int × Int} (hc : w16 c) (hp : w16 p.1 ∧ w16 p.2) : w16 (up c p) := by
  obtain ⟨⟨h1, h2⟩, h3, h4⟩ := hp
  obtain ⟨h5, h6⟩ := hc
  have := car_fits (s := 65535 - c + (65535 - p.1) + p.2) (by omega)
  unfold up w16
  omega
theorem ups_fit : ∀ (pl : List (Int × Int)) {c : Int}, w16 c → fit2 pl → w16 (pl.foldl up c)
  | [], _, h, _ => h
  | p :: pl, _, h, hf => ups_fit pl (up_fits h (hf p (by simp))) (fun q hq => hf q (by simp [hq]))

/-- Pairs of words, in a row. -/
def Prs (w : World) (v : Value) (pl : List (Int × Int)) : Prop :=
  ∃ a cap, v = .slice a pl.length cap ∧ (pl = [] ∨ ∃ b off, a = some ⟨b, off, none⟩ ∧ ∀ j p, pl[j]? = some p → w.cell? ⟨b, off + j * 2, none⟩ = some (.int .u16 p.1) ∧ w.cell? ⟨b, off + j * 2 + 1, none⟩ = some (.int .u16 p.2))

theorem bl_box {w wr : World} (h : Below w.heap.size w wr) (m q : Int) : Below w.heap.size w (wr.alloc (.cells #[.int .u16 m, .int .u16 q] 105)) := h.alloc h.size _
theorem cells2 (w : World) (m q : Int) : (w.alloc (.cells #[.int .u16 m, .int .u16 q] 105)).cell? ⟨w.heap.size, 0, none⟩ = some (.int .u16 m) ∧ (w.alloc (.cells #[.int .u16 m, .int .u16 q] 105)).cell? ⟨w.heap.size, 1, none⟩ = some (.int .u16 q) := by
  constructor <;> simp [go_sem]
set_option maxRecDepth 100000 in
theorem update_any (c : Int) (pl : List (Int × Int)) (v : Value) (w : World) (hc : w16 c) (hP : Prs w v pl) (hf : fit2 pl) (hl : pl.length ≤ 4294967296) :
    Calls Try.prog 70 #[.int .u16 c, v] w fun e w' => e = .returned (.int .u16 (pl.foldl up c)) ∧ Below w.heap.size w w' := by
  obtain ⟨a, cap, rfl, hP⟩ := hP
  have HP := Lib.hid hP
  have HF := Lib.hid hf
  have HC := Lib.hid hc
  obtain ⟨n, hn⟩ : ∃ n, n = pl.length := ⟨_, rfl⟩
  rw [← hn] at hl
  rw [← hn]
  have HN := Lib.hid hn
  clear hP hf hn hc
  have CA := Lib.hid (fun t h0 h1 w => carry_any t h0 h1 w)
  go_enter Try.func70, Try.ntmps70
  go_wp2
  go_loopw [0, 11] (fun t i wr => ∃ (k : Nat) (x : Int), k ≤ n ∧ i = .int .i64 k ∧ t = .int .u16 x ∧ Hid (x = (pl.take k).foldl up c) ∧ Hid (Below w.heap.size w wr)) (fun _ i _ => n - (intOf i).toNat)
  case atStart => exact ⟨0, c, by omega, rfl, rfl, Lib.hid rfl, Lib.hid (Below.refl _ _)⟩
  case round =>
    obtain ⟨k, x, hk, rfl, rfl, hS, hB⟩ := hrel
    by_cases hlt : k < n
    · obtain ⟨⟨m, q⟩, hp⟩ : ∃ p, pl[k]? = some p := ⟨_, List.getElem?_eq_getElem (by rw [← HN.out]; exact hlt)⟩
      rcases HP.out with h0 | ⟨b, off, rfl, hcc⟩
      · rw [h0] at hp; simp at hp
      obtain ⟨h1, h2⟩ := hcc k _ hp
      have hbs : b < w.heap.size := block_lt_of_cell h1
      have h1 := hB.out.cell (p := ⟨b, off + k * 2, none⟩) hbs |>.trans h1
      have h2 := hB.out.cell (p := ⟨b, off + k * 2 + 1, none⟩) hbs |>.trans h2
      have hx : w16 x := by rw [hS.out]; exact ups_fit _ HC.out (fun q hq => HF.out q (List.mem_of_mem_take hq))
      have hm := HF.out _ (List.mem_of_getElem? hp)
      have HU : Hid (up x (m, q) = (pl.take (k + 1)).foldl up c) := Lib.hid (by rw [List.take_add_one, hp, List.foldl_append, ← hS.out]; rfl)
      obtain ⟨x0, x1⟩ := hx
      obtain ⟨⟨m0, m1⟩, q0, q1⟩ := hm
      simp only at m0 m1 q0 q1
      obtain ⟨s, hs⟩ : ∃ s, 65535 - x + (65535 - m) + q = s := ⟨_, rfl⟩
      have hcf := car_fits (s := s) (by omega)
      have hf1 := flip16 x x0 x1
      have hf2 := flip16 m m0 m1
      have hf3 := flip16 (car s) hcf.1 hcf.2
      have HV : Hid (up x (m, q) = 65535 - car s) := Lib.hid (by unfold up; rw [hs])
      have HW : Hid (IntKind.u64.wrap (IntKind.u64.wrap (IntKind.u64.wrap (65535 - x) + IntKind.u64.wrap (65535 - m)) + q) = s) := Lib.hid (by simp only [IntKind.wrap_u64]; omega)
      have hs0 : 0 ≤ s ∧ s < 18446744073709551616 := by omega
      obtain ⟨s0, s1⟩ := hs0
      have HB := Lib.hid (bl_box hB.out m q)
      have e1 := (cells2 wr m q).1
      have e2 := (cells2 wr m q).2
      obtain ⟨c0, c1⟩ := hcf
      clear hcc hp hB hS
      go_wp2
      go_quiet (fail)
      go_wp2_with fail
      rw [HW.out]
      refine (CA.out s s0 s1 _).mono ?_
      rintro e w2 ⟨rfl, rfl⟩
      go_wp2
      go_roundw
      case rel => exact ⟨k + 1, _, by omega, by go_num, rfl, Lib.hid (by rw [← HU.out, HV.out]), Lib.hid (below_drewN HB.out _)⟩
      case measure => simp [intOf]; omega
    · have e : pl.take k = pl := List.take_of_length_le (by rw [← HN.out]; omega)
      rw [e] at hS
      clear e
      go_wp2
      go_ret
      exact ⟨by rw [← hS.out]; rfl, hB.out⟩
theorem Prs.one (w : World) (m n : Int) (t : TypeId) (b : Nat) (hb : b = w.heap.size) : Prs (w.alloc (.cells #[.int .u16 m, .int .u16 n] t)) (.slice (some ⟨b, 0, none⟩) 1 1) [(m, n)] := by
  subst hb
  refine ⟨_, 1, rfl, .inr ⟨_, 0, rfl, fun j x hj => ?_⟩⟩
  match j, hj with
  | 0, hj =>
    cases hj
    exact ⟨cells_new w [.int .u16 m, .int .u16 n] t (0, 0) 0 _ rfl, cells_new w [.int .u16 m, .int .u16 n] t (0, 0) 1 _ rfl⟩

end Go.Proofs.Ytfbmeoiaedlgoaa
