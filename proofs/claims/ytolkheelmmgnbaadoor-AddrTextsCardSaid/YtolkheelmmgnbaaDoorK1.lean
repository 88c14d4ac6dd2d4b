/- Contracts of towpathnum.Num at the two errors that Parse answers, of towpathnum.Decimal at numbers from 0 on, and of the document's Text: what each call returns; nothing that was there is turned. No conditions but that the numbers fit their kinds. -/
import Derived.Test.YtolkheelmmgnbaaDoorF1
import Derived.Test.YtolkheelmmgnbaaDoorA2
import Derived.Deep.DeepCutAuto
namespace Go.Proofs.YtolkheelmmgnbaaDoor
open Go Go.RowKit

theorem num_nil (w : World) : Calls Tryd.prog 14 #[.nilIface] w fun e w' => e = .returned (.int .i64 0) ∧ w = w' := by
  go_enter Tryd.func14, Tryd.ntmps14
  go_wp2
  go_ret
  exact ⟨rfl, rfl⟩
set_option maxRecDepth 100000 in
theorem num_err (w : World) : Calls Tryd.prog 14 #[errno 1] w fun e w' => e = .returned (.int .i64 1) ∧ w = w' := by
  have ta : ∀ w : World, (Instr.typeAssert (errno 1) 26 40 true).run Tryd.prog w = .ok (.tuple #[.int .i64 1, .bool true]) w := fun _ => by kernel_rfl
  go_enter Tryd.func14, Tryd.ntmps14
  go_wp2
  go_ret
  exact ⟨rfl, rfl⟩

theorem bytes_eqK {a b : ByteArray} (h : a.data.toList = b.data.toList) : a = b := by
  obtain ⟨⟨x⟩⟩ := a
  obtain ⟨⟨y⟩⟩ := b
  simp only at h
  rw [h]
/-- Where Decimal's loop stands: nothing written yet; or digits written and some to come; or all written. -/
def DRel (N : Nat) (vn vs : Value) : Prop :=
  ∃ (n : Nat) (s : ByteArray), vn = .int .i64 n ∧ vs = .string s ∧ n ≤ N ∧ ((s.data.toList = [] ∧ n = N) ∨ (s.data.toList ≠ [] ∧ 0 < n ∧ Lib.decDigits N = Lib.decDigits n ++ s.data.toList) ∨ (s.data.toList ≠ [] ∧ n = 0 ∧ Lib.decDigits N = s.data.toList))

set_option maxRecDepth 100000 in
set_option maxHeartbeats 1000000 in
theorem decimal_any (N : Nat) (hN : N < 1000000) (w : World) :
    Calls Tryd.prog 41 #[.int .i64 N] w fun e w' => e = .returned (.string (decS N)) ∧ Below w.heap.size w w' := by
  have c : ((N : Int) == -9223372036854775808) = false := by simp
  have c2 : decide ((N : Int) < 0) = false := by simp
  go_enter Tryd.func41, Tryd.ntmps41
  go_wp2
  clear c c2
  go_loopw [0, 3] (fun vn vs wr => DRel N vn vs ∧ Below w.heap.size w wr) (fun vn vs _ => (intOf vn).toNat + (match vs with | .string s => if s.size = 0 then 1 else 0 | _ => 0))
  case atStart => exact ⟨⟨N, ⟨#[]⟩, rfl, rfl, Nat.le_refl _, .inl ⟨rfl, rfl⟩⟩, Below.refl _ _⟩
  case round =>
    obtain ⟨⟨n, s, rfl, rfl, hn, hc⟩, hB⟩ := hrel
    have hsz := hB.size
    by_cases hlast : s.data.toList ≠ [] ∧ n = 0
    · obtain ⟨hne, rfl⟩ := hlast
      have hfin : Lib.decDigits N = s.data.toList := by
        rcases hc with ⟨h, _⟩ | ⟨_, h, _⟩ | ⟨_, _, h⟩
        · exact absurd h hne
        · omega
        · exact h
      have t1 : (s.toList == []) = false := by rw [ByteArray.toList_eq]; simpa using hne
      have t2 : s.toList.isEmpty = false := by rw [ByteArray.toList_eq]; simpa using hne
      have HF := Lib.hid hfin
      have HB := Lib.hid hB
      clear hc hne hfin hB
      go_wp2
      go_ret
      refine ⟨?_, HB.out⟩
      have : s = decS N := bytes_eqK (by rw [← HF.out]; rfl)
      rw [this]
      rfl
    · obtain ⟨d, hd⟩ : ∃ d : UInt8, (d.toNat : Int) = 48 + (n : Int) % 10 := ⟨UInt8.ofNat (48 + n % 10), by rw [UInt8.toNat_ofNat']; omega⟩
      have hdn : d = UInt8.ofNat (48 + n % 10) := by apply UInt8.toNat_inj.1; rw [UInt8.toNat_ofNat']; omega
      have hcv : (convert 76 9 (.slice (some ⟨wr.heap.size, 0, none⟩) 1 1)).run Tryd.prog (wr.alloc (.cells #[.int .u8 (48 + (n : Int) % 10)] 5)) = .ok (.string ⟨#[d]⟩) (wr.alloc (.cells #[.int .u8 (48 + (n : Int) % 10)] 5)) := by
        have h := run_convert_bytes_back (P := Tryd.prog) (wr.alloc (.cells #[.int .u8 (48 + (n : Int) % 10)] 5)) 76 9 5 ⟨wr.heap.size, 0, none⟩ 1 [d] Tryd.underlying76 Tryd.underlying5 Tryd.underlying9 (fun j hj => by
          have hj0 : j = 0 := by simpa using hj
          subst hj0
          rw [Lib.add_plain]
          simp [go_sem, hd])
        exact h
      have hnext : DRel N (.int .i64 ((n / 10 : Nat) : Int)) (.string (⟨#[d]⟩ ++ s)) := by
        refine ⟨n / 10, _, rfl, rfl, by omega, ?_⟩
        have hcat : ((⟨#[d]⟩ : ByteArray) ++ s).data.toList = d :: s.data.toList := by simp [ByteArray.data_append]
        rw [hcat]
        have hsum : Lib.decDigits N = Lib.decDigits n ++ s.data.toList := by
          rcases hc with ⟨h, h'⟩ | ⟨_, _, h⟩ | ⟨h, h', _⟩
          · rw [h, h', List.append_nil]
          · exact h
          · exact absurd ⟨h, h'⟩ hlast
        by_cases h10 : n < 10
        · refine .inr (.inr ⟨by simp, by omega, ?_⟩)
          rw [hsum, Lib.decDigits_one h10, hdn, show n % 10 = n by omega]
          rfl
        · refine .inr (.inl ⟨by simp, by omega, ?_⟩)
          rw [hsum, Lib.decDigits, dif_neg h10, hdn, List.append_assoc]
          rfl
      obtain ⟨D, hD⟩ : ∃ D : ByteArray, D = ⟨#[d]⟩ := ⟨_, rfl⟩
      have hDs : D.size = 1 := by rw [hD]; rfl
      have hss : s.size ≤ 20 := by
        have hl : s.data.toList.length ≤ (Lib.decDigits N).length := by
          rcases hc with ⟨h, _⟩ | ⟨_, _, h⟩ | ⟨_, _, h⟩
          · rw [h]; simp
          · rw [h]; simp
          · rw [h]; exact Nat.le_refl _
        rw [Lib.decDigits_length] at hl
        have := Lib.nDigits_le20 N (by omega)
        have : s.size = s.data.toList.length := Lib.size_eq s
        omega
      have hadd : ∀ W : World, (Op.stringOp .add D s).run Tryd.prog W = .ok (.string (D ++ s)) W := fun W => run_string_add_sum W D s (by omega)
      rw [← hD] at hcv hnext
      rw [show ((n / 10 : Nat) : Int) = (n : Int) / 10 by omega] at hnext
      have HZ := Lib.hid (show ¬ (D ++ s).size = 0 by rw [ByteArray.size_append]; omega)
      have HS0 := Lib.hid (show s.size = 0 ∨ 0 < n by
        rcases hc with ⟨h, _⟩ | ⟨_, h, _⟩ | ⟨h, h', _⟩
        · left; rw [Lib.size_eq s, h]; rfl
        · right; exact h
        · exact absurd ⟨h, h'⟩ hlast)
      have HN := Lib.hid hnext
      have HB := Lib.hid (bl_al hB (.cells #[.int .u8 (48 + (n : Int) % 10)] 5))
      have hn6 : (n : Int) < 1000000 := by omega
      have htest : (s.toList.isEmpty = true) ∨ (s.toList.isEmpty = false ∧ 0 < n) := by
        rcases hc with ⟨h, h'⟩ | ⟨h, h', _⟩ | ⟨h, h', _⟩
        · left; rw [ByteArray.toList_eq, h]; rfl
        · right; rw [ByteArray.toList_eq]; exact ⟨by simpa using h, h'⟩
        · exact absurd ⟨h, h'⟩ hlast
      clear hnext hB hc hlast hd hdn hD hDs hss
      rcases htest with t1 | ⟨t1, t2⟩
      all_goals
        go_wp2
        go_roundw
        case rel => exact ⟨HN.out, HB.out⟩
        case measure =>
          have hz := HZ.out
          have hs0 := HS0.out
          simp only [intOf, if_neg hz]
          split <;> omega
end Go.Proofs.YtolkheelmmgnbaaDoor
