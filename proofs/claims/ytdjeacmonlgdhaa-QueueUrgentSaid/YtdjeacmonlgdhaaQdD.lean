/- Contract of queue's Drain over that of Get, where it gets until there is no row. -/
import Derived.Test.YtdjeacmonlgdhaaQdA
import Derived.Test.YtdjeacmonlgdhaaRqT
import Derived.Deep.AppendLies
namespace Go.Proofs.Ytdjeacmonlgdhaa
open Go Go.RowKit
set_option linter.unusedVariables false
set_option linter.unusedSimpArgs false

/-- What Drain leaves. -/
def QDrn (w : World) (B : Nat) (F : Nat → Prop) (q size : Nat) (vs : List Value) (ps : List (List Int)) (e : Ending) (w' : World) : Prop :=
  ∃ ao c, e = .returned (.slice ao ps.length c) ∧ w'.ownsRow w.heap.size 42 1 (.slice ao ps.length c) ps.length vs ∧ QSt w' B F q size [] [] ∧ Tch F w w'
/-- j rows are laid down, d are taken. -/
structure DrI (w0 w : World) (B : Nat) (F : Nat → Prop) (q size : Nat) (vs : List Value) (ps : List (List Int)) (j d : Nat) (ao : Option Addr) (c : Nat) : Prop where
  out : w.ownsRow w0.heap.size 42 1 (.slice ao j c) j (vs.take j)
  st : QSt w B F q size (vs.drop d) (ps.drop d)
  tch : Tch F w0 w
theorem DrI.app {w0 w w8 : World} {B : Nat} {F : Nat → Prop} {q size : Nat} {vs : List Value} {ps : List (List Int)} {j d c g8 c8 : Nat} {ao : Option Addr} (h : DrI w0 w B F q size vs ps j d ao c) (hF : ∀ k, F k → k < w0.heap.size) (hv : ∀ v ∈ vs, ∀ k, v.ownBlock = some k → k < w0.heap.size)
    (h8 : w8.ownsRow w0.heap.size 42 1 (.slice (some ⟨g8, 0, none⟩) (j + 1) c8) (j + 1) (vs.take (j + 1))) (ht8 : Tch (fun k => (Value.slice ao j c).ownBlock = some k) w w8) : DrI w0 w8 B F q size vs ps (j + 1) d (some ⟨g8, 0, none⟩) c8 := by
  have f1 : ∀ k, (Value.slice ao j c).ownBlock = some k → w0.heap.size ≤ k := fun k hk => (h.out.lt k hk).1
  exact ⟨h8, h.st.keep ht8 (fun k hk e => by have := hF k hk; have := f1 k e; omega) (fun v hm k hk e => by have := hv v (List.mem_of_mem_drop hm) k hk; have := f1 k e; omega), h.tch.trans' ht8 (fun k hk e => by have := f1 k e; omega)⟩
theorem DrI.get {w0 w w1 : World} {B : Nat} {F : Nat → Prop} {q size : Nat} {vs : List Value} {ps : List (List Int)} {j d d' c : Nat} {ao : Option Addr} (h : DrI w0 w B F q size vs ps j d ao c) (hF : ∀ k, F k → k < w0.heap.size) (hQ : QSt w1 B F q size (vs.drop d') (ps.drop d')) (ht : Tch F w w1) : DrI w0 w1 B F q size vs ps j d' ao c :=
  ⟨ht.own h.out (fun k hk e => by have := (h.out.lt k hk).1; have := hF k e; omega), hQ, h.tch.trans ht⟩
theorem dr_end {w w' : World} {B : Nat} {F : Nat → Prop} {q size : Nat} {vs : List Value} {ps : List (List Int)} {j c : Nat} {ao : Option Addr} (h : DrI w w' B F q size vs ps j j ao c) (hj : j = ps.length) (hl : vs.length = ps.length) : QDrn w B F q size vs ps (.returned (.slice ao j c)) w' := by
  subst hj
  have h1 := h.out
  have h2 := h.st
  rw [List.take_of_length_le (by omega)] at h1
  rw [List.drop_eq_nil_of_le (by omega), List.drop_eq_nil_of_le (Nat.le_refl _)] at h2
  exact ⟨ao, c, rfl, h1, h2, h.tch⟩
/-- What a Get behind j rows answers. -/
def DrG (w0 w : World) (B : Nat) (F : Nat → Prop) (q size : Nat) (vs : List Value) (ps : List (List Int)) (j : Nat) (ao : Option Addr) (c : Nat) (r : Value) (b : Bool) : Prop :=
  (j < ps.length ∧ b = true ∧ r = vs.getD j undef ∧ DrI w0 w B F q size vs ps j (j + 1) ao c) ∨ (j = ps.length ∧ b = false ∧ r = .slice none 0 0 ∧ DrI w0 w B F q size vs ps j j ao c)
theorem dr_get {w0 w : World} {B : Nat} {F : Nat → Prop} {q size : Nat} {vs : List Value} {ps : List (List Int)} {j c : Nat} {ao : Option Addr} (h : DrI w0 w B F q size vs ps j j ao c) (hF : ∀ k, F k → k < w0.heap.size) (hl : vs.length = ps.length) (hj : j ≤ ps.length) :
    Calls Try.prog 16 #[.pointer (some ⟨q, 0, none⟩)] w fun e w1 => ∃ r b, e = .returned (.tuple #[r, .bool b]) ∧ DrG w0 w1 B F q size vs ps j ao c r b := by
  have hst := h.st
  by_cases hlj : j < ps.length
  · rw [drop_head vs undef (by omega), drop_head ps [] hlj] at hst
    refine (get_q B F q size _ _ _ _ w hst).mono ?_
    rintro e w1 ⟨rfl, hQ1, ht1, _⟩
    exact ⟨_, _, rfl, .inl ⟨hlj, rfl, rfl, h.get hF hQ1 ht1⟩⟩
  · rw [List.drop_eq_nil_of_le (show vs.length ≤ j by omega), List.drop_eq_nil_of_le (show ps.length ≤ j by omega)] at hst
    refine (get0_q B F q size w hst).mono ?_
    rintro e w1 ⟨rfl, ht1⟩
    exact ⟨_, _, rfl, .inr ⟨by omega, rfl, rfl, ht1.own h.out (fun _ _ h => h), h.st.keep ht1 (fun _ _ h => h) (fun _ _ _ _ h => h), h.tch.trans (ht1.mono (fun _ h => h.elim))⟩⟩
set_option maxRecDepth 100000 in
set_option maxHeartbeats 2000000 in
theorem drain_q (B : Nat) (F : Nat → Prop) (q size : Nat) (vs : List Value) (ps : List (List Int)) (w : World) (hQ : QSt w B F q size vs ps) (hs : size ≤ 4096) :
    Calls Try.prog 20 #[.pointer (some ⟨q, 0, none⟩)] w (QDrn w B F q size vs ps) := by
  obtain ⟨j0', hj0', hy0, hy1, hy2⟩ := info_parts info26
  have hL := hQ.rows.len
  have HL := Lib.hid hL
  have HF : Hid (∀ k, F k → k < w.heap.size) := Lib.hid (fun k hk => (hQ.base k hk).2)
  have HV : Hid (∀ v ∈ vs, ∀ k, v.ownBlock = some k → k < w.heap.size) := Lib.hid (fun v hv k hk => (hQ.rows.blocks v hv k hk).2)
  have HLE : Hid (ps.length ≤ 4096) := Lib.hid (by have := hQ.le; omega)
  have HR : Hid (∀ j, j < ps.length → ∃ a n c, vs.getD j undef = .slice a n c) := Lib.hid (fun j hj => by
    obtain ⟨a, c, e⟩ := own_form (hQ.rows.at hj).1
    exact ⟨a, _, c, e⟩)
  have CG := Lib.hid (dr_get (w0 := w) (w := w) (vs := vs) (ps := ps) (j := 0) (ao := none) (c := 0) ⟨World.ownsRow_nil _ _ _ _, by simpa using hQ, Tch.refl _ _⟩ HF.out hL (Nat.zero_le _))
  clear hQ hL
  go_enter Try.func20, Try.ntmps20
  go_wp2_with fail
  refine CG.out.mono ?_
  rintro e w0 ⟨r0, b0, rfl, hg0⟩
  have HG0 := Lib.hid hg0
  clear hg0 CG
  go_wp2
  go_loopw [3, 4, 5] (fun v r o wr => ∃ (j : Nat) (ao : Option Addr) (c : Nat) (b : Bool), j ≤ ps.length ∧ v = .slice ao j c ∧ o = .bool b ∧ Hid (DrG w wr B F q size vs ps j ao c r b)) (fun v _ _ _ => ps.length - lenV v)
  case atStart => exact ⟨0, none, 0, b0, by omega, rfl, rfl, HG0⟩
  case round =>
    obtain ⟨j, ao, c, b, hj, rfl, rfl, HD⟩ := hrel
    clear HG0
    rcases HD.out with ⟨hlj, rfl, rfl, hI⟩ | ⟨hje, rfl, rfl, hI⟩
    · obtain ⟨av, nv, cv, hv⟩ := HR.out j hlj
      have HT8 : Hid (vs.take (j + 1) = vs.take j ++ [vs.getD j undef]) := Lib.hid (take_moreL vs undef (by have := HL.out; omega))
      rw [hv] at HT8
      rw [hv]
      have hj8 : j ≤ 4096 := by have := HLE.out; omega
      have HI := Lib.hid hI
      have HO : Hid (wr.ownsRow w.heap.size 42 1 (.slice ao j c) j (vs.take j)) := Lib.hid hI.out
      have HS1 : Hid (w.heap.size ≤ wr.heap.size) := Lib.hid hI.tch.size
      clear hv hI HD
      go_upto_region 5 with fail
      go_wp2_with (at_builtin; refine wpList_append_lies _ rfl (.tmp 17) (.tmp 19) 33 rfl w.heap.size 42 j0' (.slice none 0 0) 1 24 Try.underlying33 hj0' hy0 hy1 hy2 rfl (by decide) _ j (vs.take j) rfl (HO.out.alloc _) ⟨wr.heap.size, 0, none⟩ 1 1 [.slice av nv cv] rfl rfl (cell_one_new wr _ _) ?c1 (by decide) ?c2 ?c3 ?c4 _ rfl ?_)
      case c1 => first | rfl | (intro u hu; simp at hu; subst hu; rfl)
      case c2 => unfold maxLen; omega
      case c3 => omega
      case c4 => have := HS1.out; simp; omega
      intro g8 c8 w8 hown hg hlie hlt
      rw [← HT8.out] at hown
      have hI9 := HI.out.app HF.out HV.out hown (((tch_new (bl_al (Below.refl wr.heap.size wr) (.cells #[.slice av nv cv] 42))).mono (fun _ h => h.elim)).trans ((tch_grown hg).mono (fun k hk => hk.symm)))
      have CG := Lib.hid (dr_get hI9 HF.out HL.out (by omega))
      clear hown hg hlie hlt hI9 HO HS1 HI HT8
      go_upto_region 4 with fail
      go_wp2_with fail
      refine CG.out.mono ?_
      rintro e w1 ⟨r1, b1, rfl, hg1⟩
      have HG1 := Lib.hid hg1
      clear hg1 CG
      go_wp2
      go_roundw
      case rel => exact ⟨j + 1, _, _, b1, by omega, rfl, rfl, HG1⟩
      case measure => simp [lenV]; omega
    · have HE := Lib.hid (dr_end hI hje HL.out)
      clear hI HD
      go_wp2
      go_ret
      exact HE.out
end Go.Proofs.Ytdjeacmonlgdhaa
