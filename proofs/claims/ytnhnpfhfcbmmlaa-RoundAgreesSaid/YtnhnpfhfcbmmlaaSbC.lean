/- The program's store: errors, New, Used, Get; strings.Clone, maps.Clone. Conditions: as each states. -/
import Derived.Test.YtnhnpfhfcbmmlaaSbB
import Derived.Test.YtnhnpfhfcbmmlaaShl
import Derived.Deep.RegionHeld3
import Derived.Deep.RegionWith
import Derived.Laws.Pointers
namespace Go.Proofs.Ytnhnpfhfcbmmlaa
open Go Go.RowKit Go.Maps
set_option linter.unusedVariables false
set_option linter.unusedSimpArgs false

abbrev errnoF (n : Int) : Value := .iface 51 (.int .i64 n)
def errF (n : Int) : Value := if n = 0 then .nilIface else errnoF n
theorem num13_t (k : Int) (hk : k = 0 ∨ k = 4 ∨ k = 5 ∨ k = 6 ∨ k = 9) (w : World) : Calls Try.prog 19 #[errF k] w fun e w' => e = .returned (.int .i64 k) ∧ w = w' := by
  rcases hk with rfl | rfl | rfl | rfl | rfl
  · rw [show errF 0 = Value.nilIface from rfl]
    go_enter Try.func19, Try.ntmps19
    go_wp2
    go_ret
    exact ⟨rfl, rfl⟩
  · have ta : ∀ w : World, (Instr.typeAssert (errnoF 4) 28 51 true).run Try.prog w = .ok (.tuple #[.int .i64 4, .bool true]) w := fun _ => by kernel_rfl
    rw [show errF 4 = errnoF 4 from rfl]
    go_enter Try.func19, Try.ntmps19
    go_wp2
    go_ret
    exact ⟨rfl, rfl⟩
  · have ta : ∀ w : World, (Instr.typeAssert (errnoF 5) 28 51 true).run Try.prog w = .ok (.tuple #[.int .i64 5, .bool true]) w := fun _ => by kernel_rfl
    rw [show errF 5 = errnoF 5 from rfl]
    go_enter Try.func19, Try.ntmps19
    go_wp2
    go_ret
    exact ⟨rfl, rfl⟩
  · have ta : ∀ w : World, (Instr.typeAssert (errnoF 6) 28 51 true).run Try.prog w = .ok (.tuple #[.int .i64 6, .bool true]) w := fun _ => by kernel_rfl
    rw [show errF 6 = errnoF 6 from rfl]
    go_enter Try.func19, Try.ntmps19
    go_wp2
    go_ret
    exact ⟨rfl, rfl⟩
  · have ta : ∀ w : World, (Instr.typeAssert (errnoF 9) 28 51 true).run Try.prog w = .ok (.tuple #[.int .i64 9, .bool true]) w := fun _ => by kernel_rfl
    rw [show errF 9 = errnoF 9 from rfl]
    go_enter Try.func19, Try.ntmps19
    go_wp2
    go_ret
    exact ⟨rfl, rfl⟩
theorem sclone_c (k : Ky) (w : World) (hk : k.length ≤ 1099511627776) : Calls Try.prog 118 #[sv k] w fun e w' => e = .returned (sv k) ∧ Below w.heap.size w w' := by
  have CC : Calls Try.prog 129 #[sv k] w fun e w' => e = .returned (sv k) ∧ Below w.heap.size w w' := Any.stringslite_Clone Try.laysM316 _ w (by simp [ByteArray.size]; omega)
  go_enter Try.func118, Try.ntmps118
  go_wp2_with fail
  refine CC.mono ?_
  rintro e w1 ⟨rfl, hb⟩
  go_wp2
  go_ret
  exact ⟨rfl, hb⟩
theorem mclone_n (w : World) : Calls Try.prog 86 #[.map none] w fun e w' => e = .returned (.map none) ∧ w' = w := AnyW.maps_Clone_nil Try.cloneM w
theorem mclone_c (B b : Nat) (F : Nat → Prop) (l : List Pr) (w : World) (h : MapS w F B b l) : Calls Try.prog 86 #[.map (some b)] w fun e w' => e = .returned (.map (some w.heap.size)) ∧ MapS w' (fun k => F k ∨ k = w.heap.size) B w.heap.size l ∧ w.heap.size < w'.heap.size ∧ Below w.heap.size w w' := by
  obtain ⟨hF, D, hown, hm⟩ := h
  refine (AnyW.maps_Clone_owns Try.cloneM tyK rdV b l.length D w hown).mono ?_
  rintro e w' ⟨rfl, h1, h2, hb⟩
  exact ⟨rfl, ⟨.inr rfl, D, h1, (hm.tch (tch_new hb) (fun _ h => h.elim)).mono (fun k hk => .inl hk)⟩, h1.lt, hb⟩
/-- A size that may be. -/
def OkZ (n : Int) : Prop := 0 ≤ n ∧ n ≤ 67108864
instance (n : Int) : Decidable (OkZ n) := by unfold OkZ; infer_instance
theorem new_st (w : World) (size : Int) (h : OkZ size) : St (((w.alloc (.map #[] 0)).alloc (.map #[] 0)).alloc (stO size (some w.heap.size) (some (w.heap.size + 1)) 0)) w.heap.size (fun k => w.heap.size ≤ k ∧ k ≤ w.heap.size + 2) (w.heap.size + 2) size [] [] := by
  have hs : (w.alloc (.map #[] 0)).heap.size = w.heap.size + 1 := by simp
  have hs2 : ((w.alloc (.map #[] 0)).alloc (.map #[] 0)).heap.size = w.heap.size + 2 := by simp
  refine ⟨some w.heap.size, some (w.heap.size + 1), ⟨List.Pairwise.nil, List.Pairwise.nil⟩, ⟨by simp, by simp⟩, h, ?_, ⟨by omega, by omega⟩, fun k hk => ?_, ?_, ?_, ?_, by simp, by simp, ?_⟩
  · unfold OkZ at h; simp [usedP]; omega
  · simp only [World.size_alloc]; omega
  · unfold SAt
    rw [← hs2]
    exact (MapKept.heap_alloc _ _).1
  · refine MapS.tch (T := Non) (MapS.new (F := fun k => w.heap.size ≤ k ∧ k ≤ w.heap.size + 2) w _ ⟨Nat.le_refl _, by omega⟩) ?_ (fun h => h) (fun _ h => h.elim)
    exact tch_new (bl_al (bl_al (Below.refl _ _) _) _)
  · have := MapS.new (F := fun k => w.heap.size ≤ k ∧ k ≤ w.heap.size + 2) (w.alloc (.map #[] 0)) w.heap.size (by rw [hs]; omega)
    rw [hs] at this
    exact MapS.tch (T := Non) this (tch_new (bl_al (Below.refl _ _) _)) (fun h => h) (fun _ h => h.elim)
  · intro b e e2
    simp only [Option.some.injEq] at e e2
    omega
/-- What New answers. -/
def SNew (w : World) (size : Int) (e : Ending) (w' : World) : Prop :=
  ((OkZ size ∧ ∃ p F, e = .returned (.tuple #[.pointer (some ⟨p, 0, none⟩), .nilIface]) ∧ St w' w.heap.size F p size [] []) ∨ (¬ OkZ size ∧ e = .returned (.tuple #[.pointer none, errnoF 4]))) ∧ Below w.heap.size w w'
set_option maxRecDepth 100000 in
theorem new_c (size : Int) (w : World) : Calls Try.prog 46 #[.int .i64 size] w (SNew w size) := by
  have hmm := @run_makeMap Try.prog
  by_cases h1 : size < 0
  · have HZ : ¬ OkZ size := fun h => by unfold OkZ at h; omega
    go_enter Try.func46, Try.ntmps46
    go_wp2
    go_ret2
    exact ⟨.inr ⟨HZ, rfl⟩, Below.refl _ _⟩
  · by_cases h2 : 67108864 < size
    · have HZ : ¬ OkZ size := fun h => by unfold OkZ at h; omega
      go_enter Try.func46, Try.ntmps46
      go_wp2
      go_ret2
      exact ⟨.inr ⟨HZ, rfl⟩, Below.refl _ _⟩
    · have hz : OkZ size := by unfold OkZ; omega
      have HN := Lib.hid (new_st w size hz)
      have HB := Lib.hid (bl_al (bl_al (bl_al (Below.refl w.heap.size w) (.map #[] 0)) (.map #[] 0)) (stO size (some w.heap.size) (some (w.heap.size + 1)) 0))
      have HZ := Lib.hid hz
      clear hz
      go_enter Try.func46, Try.ntmps46
      go_wp2
      go_ret2
      exact ⟨.inl ⟨HZ.out, _, _, rfl, HN.out⟩, HB.out⟩
set_option maxRecDepth 100000 in
theorem used_c (B : Nat) (F : Nat → Prop) (pv : Option Addr) (size : Int) (l m : List Pr) (w : World) (h : Rcv w B F pv size l m) (hB : B ≤ w.heap.size) :
    Calls Try.prog 91 #[.pointer pv] w fun e w' => e = .returned (.int .i64 (usedP l : Nat)) ∧ Tch Non w w' := by
  have HO := Lib.hid (orE_t B F pv size l m w h hB)
  clear h
  go_enter Try.func91, Try.ntmps91
  go_wp2_with fail
  refine HO.out.mono ?_
  rintro e w1 ⟨G, p, rfl, ⟨c1, c2, hk⟩, ht, _⟩
  have hc := hk.cells.cs.2.2.2
  clear hk HO
  go_wp2
  go_ret
  exact ⟨rfl, ht⟩
/-- What Get answers. -/
def GetV (w : World) (r : Option (List Int)) (e : Ending) (w' : World) : Prop :=
  match r with
  | none => e = .returned (.tuple #[.slice none 0 0, errnoF 6]) ∧ Tch Non w w'
  | some r => ∃ ao c, e = .returned (.tuple #[.slice ao r.length c, .nilIface]) ∧ w'.ownsRow w.heap.size 5 1 (.slice ao r.length c) r.length (u8s r) ∧ Tch Non w w'
theorem GetV.no {w w' : World} {r : Option (List Int)} {e : Ending} (h : r = none) (h1 : e = .returned (.tuple #[.slice none 0 0, errnoF 6])) (h2 : Tch Non w w') : GetV w r e w' := by
  subst h; exact ⟨h1, h2⟩
theorem GetV.yes {w w' : World} {q : Option (List Int)} {r : List Int} {e : Ending} {ao : Option Addr} {c : Nat} (h : q = some r) (h1 : e = .returned (.tuple #[.slice ao r.length c, .nilIface])) (h3 : w'.ownsRow w.heap.size 5 1 (.slice ao r.length c) r.length (u8s r)) (h2 : Tch Non w w') : GetV w q e w' := by
  subst h; exact ⟨ao, c, h1, h3, h2⟩
set_option maxRecDepth 100000 in
theorem get_c (B : Nat) (F : Nat → Prop) (pv : Option Addr) (size : Int) (l m : List Pr) (k : Ky) (w : World) (h : Rcv w B F pv size l m) (hB : B ≤ w.heap.size) (hk : k.length ≤ maxLen) :
    Calls Try.prog 115 #[.pointer pv, sv k] w (GetV w (findP k l)) := by
  have HO := Lib.hid (orE_t B F pv size l m w h hB)
  clear h
  go_enter Try.func115, Try.ntmps115
  go_wp2_with fail
  refine HO.out.mono ?_
  rintro e w1 ⟨G, p, rfl, ⟨c1, c2, hK⟩, ht, _⟩
  have hc := hK.cells.cs.2.1
  obtain ⟨v, hlk, hv⟩ := hK.cur.look (k := k) hk
  have hlw := hlk w1 (fun _ _ => rfl)
  have HT := Lib.hid ht
  cases hf : findP k l with
  | none =>
    rw [hf] at hlw
    have HF := Lib.hid hf
    clear hK HO hlk hv ht hf
    go_wp2
    go_ret2
    exact GetV.no HF.out rfl HT.out
  | some r =>
    unfold LookV at hv
    rw [hf] at hlw hv
    have hrow := hK.row hf
    obtain ⟨ao, cp, rfl⟩ := own_form hv.1
    have CC := Lib.hid (bclone_c r ao r.length cp w1 (own_in hv.1 rfl hv.2.1) (by omega))
    have HF := Lib.hid hf
    clear hK HO hlk hv ht hrow hf
    go_wp2_with fail
    refine CC.out.mono ?_
    rintro e w2 ⟨⟨bo, c, rfl, hown⟩, hb⟩
    have HOwn := Lib.hid (own_base hown HT.out.size)
    have HT2 := Lib.hid (HT.out.trans (tch_new hb))
    clear hown hb CC
    go_wp2
    go_ret2
    exact GetV.yes HF.out rfl HOwn.out HT2.out
end Go.Proofs.Ytnhnpfhfcbmmlaa
