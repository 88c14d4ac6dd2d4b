/- Contracts of the statements' copies and kept. Conditions: the rows came in, at most 2^20 of them, each of at most 2^47 - 4096 bytes. -/
import Derived.Test.YtdjeacmonlgdhaaTch
import Derived.Test.YtdjeacmonlgdhaaOvr
import Derived.Deep.AppendLies
import Derived.Deep.RegionHeld3
import Derived.Deep.CutRange
namespace Go.Proofs.Ytdjeacmonlgdhaa
open Go Go.RowKit
set_option linter.unusedVariables false
set_option linter.unusedSimpArgs false

/-- Values of rows that came in. -/
def Ris (w : World) : List Value → List (List Int) → Prop
  | [], [] => True
  | v :: vs, p :: ps => (∃ a n c, v = .slice a n c ∧ In w a n c p) ∧ Ris w vs ps
  | _, _ => False
theorem Ris.len {w : World} : ∀ {vs : List Value} {ps : List (List Int)}, Ris w vs ps → vs.length = ps.length
  | [], [], _ => rfl
  | _ :: vs, _ :: ps, h => by rw [List.length_cons, List.length_cons, Ris.len h.2]
  | [], _ :: _, h => h.elim
  | _ :: _, [], h => h.elim
theorem Ris.at {w : World} : ∀ {vs : List Value} {ps : List (List Int)}, Ris w vs ps → ∀ {j : Nat}, j < ps.length → ∃ a n c, vs.getD j undef = .slice a n c ∧ In w a n c (ps.getD j [])
  | [], [], _, j, hj => by simp at hj
  | _ :: vs, _ :: ps, h, 0, _ => h.1
  | _ :: vs, _ :: ps, h, j + 1, hj => Ris.at h.2 (j := j) (by simpa using hj)
  | [], _ :: _, h, _, _ => h.elim
  | _ :: _, [], h, _, _ => h.elim
theorem Ris.below {w w' : World} : ∀ {vs : List Value} {ps : List (List Int)}, Ris w vs ps → Below w.heap.size w w' → Ris w' vs ps
  | [], [], _, _ => trivial
  | _ :: vs, _ :: ps, h, hb => ⟨by obtain ⟨a, n, c, e, hi⟩ := h.1; exact ⟨a, n, c, e, hi.below hb⟩, Ris.below h.2 hb⟩
  | [], _ :: _, h, _ => h.elim
  | _ :: _, [], h, _ => h.elim
theorem Ris.fits {w : World} : ∀ {vs : List Value} {ps : List (List Int)}, Ris w vs ps → ∀ p ∈ ps, fit p
  | [], [], _, p, hp => by cases hp
  | _ :: vs, _ :: ps, h, p, hp => (List.mem_cons.1 hp).elim (fun e => by subst e; obtain ⟨a, n, c, _, hi⟩ := h.1; exact hi.fit) (fun hp => Ris.fits h.2 p hp)
  | [], _ :: _, h, _, _ => h.elim
  | _ :: _, [], h, _, _ => h.elim
/-- A row of rows that came in. -/
structure RsIn (w : World) (ao : Option Addr) (n cap : Nat) (us : List Value) (ps : List (List Int)) : Prop where
  len : ps.length = n
  room : n ≤ cap
  zero : ao = none → cap = 0
  here : us = [] ∨ ∃ b off, ao = some ⟨b, off, none⟩ ∧ ∀ j, j < us.length → w.cell? ⟨b, off + j, none⟩ = some (us.getD j undef)
  rows : Ris w us ps
theorem RsIn.below {w w' : World} {ao : Option Addr} {n cap : Nat} {us : List Value} {ps : List (List Int)} (h : RsIn w ao n cap us ps) (hb : Below w.heap.size w w') : RsIn w' ao n cap us ps :=
  ⟨h.len, h.room, h.zero, h.here.imp id (fun ⟨b, off, e, hc⟩ => ⟨b, off, e, fun j hj => cell_later hb (hc j hj)⟩), h.rows.below hb⟩
theorem RsIn.block {w : World} {ao : Option Addr} {n cap : Nat} {us : List Value} {ps : List (List Int)} (h : RsIn w ao n cap us ps) (hn : 0 < n) : ∃ b off, ao = some ⟨b, off, none⟩ := by
  rcases h.here with e | ⟨b, off, e, _⟩
  · have h1 := h.rows.len
    have h2 := h.len
    rw [e] at h1
    simp at h1
    omega
  · exact ⟨b, off, e⟩
theorem RsIn.cell {w : World} {b off n cap : Nat} {us : List Value} {ps : List (List Int)} (h : RsIn w (some ⟨b, off, none⟩) n cap us ps) {j : Nat} (hj : j < n) : w.cell? ⟨b, off + j, none⟩ = some (us.getD j undef) := by
  have h1 := h.rows.len
  have h2 := h.len
  rcases h.here with e | ⟨b', off', e, hc⟩
  · rw [e] at h1; simp at h1; omega
  · cases e
    exact hc j (by omega)

/-- Copies with marks. -/
def Cps (w : World) (B : Nat) : List Value → List (List Int) → Prop
  | [], [] => True
  | v :: vs, p :: ps => (∃ g, v = .slice (some ⟨g, 0, none⟩) p.length (p.length + 2) ∧ Own w B g (p.length + 2) (p.length + 2) (p ++ [165, 90]) ∧ fit p) ∧ Cps w B vs ps
  | _, _ => False
theorem Cps.len {w : World} {B : Nat} : ∀ {vs : List Value} {ps : List (List Int)}, Cps w B vs ps → vs.length = ps.length
  | [], [], _ => rfl
  | _ :: vs, _ :: ps, h => by rw [List.length_cons, List.length_cons, Cps.len h.2]
  | [], _ :: _, h => h.elim
  | _ :: _, [], h => h.elim
theorem Cps.app {w : World} {B : Nat} : ∀ {vs us : List Value} {ps qs : List (List Int)}, Cps w B vs ps → Cps w B us qs → Cps w B (vs ++ us) (ps ++ qs)
  | [], _, [], _, _, h => h
  | _ :: vs, _, _ :: ps, _, h, h2 => ⟨h.1, Cps.app h.2 h2⟩
  | [], _, _ :: _, _, h, _ => h.elim
  | _ :: _, _, [], _, h, _ => h.elim
theorem Cps.at {w : World} {B : Nat} : ∀ {vs : List Value} {ps : List (List Int)}, Cps w B vs ps → ∀ {j : Nat}, j < ps.length → ∃ g, vs.getD j undef = .slice (some ⟨g, 0, none⟩) (ps.getD j []).length ((ps.getD j []).length + 2) ∧ Own w B g ((ps.getD j []).length + 2) ((ps.getD j []).length + 2) (ps.getD j [] ++ [165, 90]) ∧ fit (ps.getD j [])
  | [], [], _, j, hj => by simp at hj
  | _ :: vs, _ :: ps, h, 0, _ => h.1
  | _ :: vs, _ :: ps, h, j + 1, hj => Cps.at h.2 (j := j) (by simpa using hj)
  | [], _ :: _, h, _, _ => h.elim
  | _ :: _, [], h, _, _ => h.elim
theorem Cps.blocks {w : World} {B : Nat} : ∀ {vs : List Value} {ps : List (List Int)}, Cps w B vs ps → ∀ v ∈ vs, ∀ g, v.ownBlock = some g → B ≤ g ∧ g < w.heap.size
  | [], [], _, v, hv, _, _ => by cases hv
  | u :: vs, _ :: ps, h, v, hv, g, hg => (List.mem_cons.1 hv).elim (fun e => by
      obtain ⟨g', e', ho, _⟩ := h.1
      rw [e, e'] at hg
      cases hg
      exact ho.1.lt _ rfl) (fun hv => Cps.blocks h.2 v hv g hg)
  | [], _ :: _, h, _, _, _, _ => h.elim
  | _ :: _, [], h, _, _, _, _ => h.elim
theorem Own.keep {T : Nat → Prop} {w w' : World} {B g cap N : Nat} {l : List Int} (h : Own w B g cap N l) (ht : Tch T w w') (hn : ¬ T g) : Own w' B g cap N l := ⟨ht.own h.1 (fun k hk => by cases hk; exact hn), h.2⟩
theorem Cps.keep {T : Nat → Prop} {w w' : World} {B : Nat} : ∀ {vs : List Value} {ps : List (List Int)}, Cps w B vs ps → Tch T w w' → (∀ v ∈ vs, ∀ g, v.ownBlock = some g → ¬ T g) → Cps w' B vs ps
  | [], [], _, _, _ => trivial
  | v :: vs, _ :: ps, h, ht, hn => ⟨by
      obtain ⟨g, e, ho, hf⟩ := h.1
      exact ⟨g, e, ho.keep ht (hn v (by simp) g (by rw [e]; rfl)), hf⟩, Cps.keep h.2 ht (fun u hu => hn u (by simp [hu]))⟩
  | [], _ :: _, h, _, _ => h.elim
  | _ :: _, [], h, _, _ => h.elim
theorem Cps.base {w : World} {B B' : Nat} (hb : B' ≤ B) : ∀ {vs : List Value} {ps : List (List Int)}, Cps w B vs ps → Cps w B' vs ps
  | [], [], _ => trivial
  | _ :: vs, _ :: ps, h => ⟨by
      obtain ⟨g, e, ho, hf⟩ := h.1
      exact ⟨g, e, ⟨own_base ho.1 hb, ho.2.1, Nat.le_trans hb ho.2.2⟩, hf⟩, Cps.base hb h.2⟩
  | [], _ :: _, h => h.elim
  | _ :: _, [], h => h.elim
theorem take_moreL {α : Type} (l : List α) (d : α) {j : Nat} (h : j < l.length) : l.take (j + 1) = l.take j ++ [l.getD j d] := by
  rw [List.take_succ_eq_append_getElem h, List.getD_eq_getElem?_getD, List.getElem?_eq_getElem h]
  rfl
/-- What copies answers. -/
def GotCs (w : World) (n : Nat) (ps : List (List Int)) (e : Ending) (w' : World) : Prop :=
  ∃ g c' vs, e = .returned (.slice (some ⟨g, 0, none⟩) n c') ∧ w'.ownsRow w.heap.size 42 1 (.slice (some ⟨g, 0, none⟩) n c') n vs ∧ Cps w' w.heap.size vs ps ∧ vs.Pairwise Aprt ∧ (∀ v ∈ vs, v.ownBlock ≠ some g) ∧ Below w.heap.size w w'
set_option maxRecDepth 100000 in
set_option maxHeartbeats 1000000 in
theorem copies_t (us : List Value) (ps : List (List Int)) (ao : Option Addr) (n cap : Nat) (w : World) (hI : RsIn w ao n cap us ps) (hn : n ≤ 1048576) (hp : ∀ p ∈ ps, p.length ≤ 140737488351232) :
    Calls Try.prog 12 #[.slice ao n cap] w (GotCs w n ps) := by
  obtain ⟨j0, hj0, hy0, hy1, hy2⟩ := info_parts info26
  have HI := Lib.hid hI
  have HP := Lib.hid hp
  obtain ⟨W, hW⟩ : ∃ W, W = w.alloc (.cells #[] 42) := ⟨_, rfl⟩
  have own0 : Hid (W.ownsRow w.heap.size 42 1 (.slice (some ⟨w.heap.size, 0, none⟩) 0 0) 0 []) := Lib.hid (by rw [hW]; exact World.ownsRow_made w #[] 0 (Nat.le_refl _) (by decide) rfl)
  have HB0 : Hid (Below w.heap.size w W) := Lib.hid (by rw [hW]; exact bl_al (Below.refl _ _) _)
  have C0 : Hid (Cps W w.heap.size [] (ps.take 0)) := Lib.hid trivial
  have A0 : Hid (([] : List Value).Pairwise Aprt) := Lib.hid List.Pairwise.nil
  have N0 : Hid (∀ v ∈ ([] : List Value), v.ownBlock ≠ some w.heap.size) := Lib.hid (fun v hv => by cases hv)
  have HW := Lib.hid hW
  obtain ⟨q0, hq0⟩ : ∃ q, q = w.heap.size := ⟨_, rfl⟩
  rw [← hq0] at N0
  have own0' : Hid (W.ownsRow w.heap.size 42 1 (.slice (some ⟨q0, 0, none⟩) 0 0) 0 []) := by rw [hq0]; exact own0
  have HQ0 := Lib.hid hq0
  clear hI hp hW own0 hq0
  go_enter Try.func12, Try.ntmps12
  go_upto_region 2 with fail
  rw [← HW.out, ← HQ0.out]
  clear HW
  go_wp2
  go_loopw [3, 5, 6, 10] (fun v _ _ i wr => ∃ (j g c' : Nat) (vs : List Value), j ≤ n ∧ i = .int .i64 j ∧ v = .slice (some ⟨g, 0, none⟩) j c' ∧ Hid (wr.ownsRow w.heap.size 42 1 (.slice (some ⟨g, 0, none⟩) j c') j vs) ∧ Hid (Cps wr w.heap.size vs (ps.take j)) ∧ Hid (vs.Pairwise Aprt) ∧ Hid (∀ v ∈ vs, v.ownBlock ≠ some g) ∧ Hid (Below w.heap.size w wr)) (fun _ _ _ i _ => n - (intOf i).toNat)
  case atStart => exact ⟨0, q0, 0, [], by omega, rfl, rfl, own0', C0, A0, N0, HB0⟩
  case round =>
    obtain ⟨j, g, c', vs, hj, rfl, rfl, HO, HC, HA, HN, HB⟩ := hrel
    clear own0' C0 A0 N0 HB0
    by_cases hlj : j < n
    · have hjp : j < ps.length := by rw [HI.out.len]; exact hlj
      obtain ⟨b, off, rfl⟩ := HI.out.block (by omega)
      have hIr := HI.out.below HB.out
      have hcj := hIr.cell hlj
      obtain ⟨aj, nj, cj, hej, hin⟩ := hIr.rows.at hjp
      rw [hej] at hcj
      have hpj := HP.out (ps.getD j []) (by rw [List.getD_eq_getElem?_getD, List.getElem?_eq_getElem hjp]; exact List.getElem_mem hjp)
      have hlen := hin.len
      have CC := Lib.hid (copy_any (ps.getD j []) aj nj cj wr hin (by omega))
      have ilj : (j : Int) < (n : Int) := by omega
      have j0' : (0 : Int) ≤ (j : Int) := by omega
      have HFP := Lib.hid hin.fit
      have HLN := Lib.hid hlen
      have HTM := Lib.hid (take_moreL ps [] hjp)
      clear hIr hej hin hpj hlen hjp
      go_wp2_with fail
      refine CC.out.mono ?_
      rintro e w4 ⟨g4, rfl, hown4, hb4⟩
      have hgl := (HO.out.lt g rfl)
      have hO4 := owns_bel HO.out hb4
      have hC4 := HC.out.keep (tch_new hb4) (fun _ _ _ _ h => h)
      have HB4 := Lib.hid (bl_tr HB.out hb4)
      have hv4 : w4.ownsRow w.heap.size 5 1 (.slice (some ⟨g4, 0, none⟩) (nj + 2) (nj + 2)) (nj + 2) (u8s (ps.getD j [] ++ [165, 90])) := own_base hown4.1 HB.out.size
      have hg4 := hown4.2.2
      have hg4' := (hown4.1.lt g4 rfl).2
      have HO4 := Lib.hid hO4
      have HC4 := Lib.hid hC4
      have HV4 : Hid (Cps w4 w.heap.size [.slice (some ⟨g4, 0, none⟩) nj (nj + 2)] [ps.getD j []]) := Lib.hid ⟨⟨g4, by rw [HLN.out], by rw [HLN.out]; exact ⟨hv4, hown4.2.1, Nat.le_trans HB.out.size hg4⟩, HFP.out⟩, trivial⟩
      have HG4 := Lib.hid (show g < wr.heap.size ∧ wr.heap.size ≤ g4 ∧ g4 < w4.heap.size from ⟨hgl.2, hg4, hg4'⟩)
      have HVB := Lib.hid (show ∀ v ∈ vs, ∀ k, v.ownBlock = some k → k < wr.heap.size from fun v hv k hk => (HC.out.blocks v hv k hk).2)
      have HSZ := Lib.hid (show w.heap.size ≤ w4.heap.size from HB4.out.size)
      have hjn : j ≤ 1048576 := by omega
      clear hgl hO4 hC4 hv4 hg4 hg4' hown4 hb4 CC HO HC hcj HB
      go_wp2_with (at_builtin; refine wpList_append_lies _ rfl (.tmp 16) (.tmp 18) 33 rfl w.heap.size 42 j0 (.slice none 0 0) 1 24 Try.underlying33 hj0 hy0 hy1 hy2 rfl (by decide) _ j vs rfl (HO4.out.alloc _) ⟨w4.heap.size, 0, none⟩ 1 1 [.slice (some ⟨g4, 0, none⟩) nj (nj + 2)] rfl rfl (cell_one_new w4 _ _) ?c1 (by decide) ?c2 ?c3 ?c4 _ rfl ?_)
      case c1 => first | rfl | (intro u hu; simp at hu; subst hu; rfl)
      case c2 => unfold maxLen; omega
      case c3 => omega
      case c4 => have := HSZ.out; simp; omega
      intro g5 c5 w5 hown hg hlie hlt
      have hT : Tch (· = g) (w4.alloc (.cells #[.slice (some ⟨g4, 0, none⟩) nj (nj + 2)] 42)) w5 := (tch_grown hg).mono (fun k hk => by cases hk; rfl)
      have hal : Tch (· = g) w4 (w4.alloc (.cells #[.slice (some ⟨g4, 0, none⟩) nj (nj + 2)] 42)) := (tch_new (bl_al (Below.refl _ _) _)).mono (fun _ h => h.elim)
      have hT2 := hal.trans hT
      have hg4ne : g4 ≠ g := by have := HG4.out; omega
      have HC5 := Lib.hid ((HC4.out.keep hT2 (fun v hv k hk e => HN.out v hv (by rw [hk]; exact congrArg some e))).app (HV4.out.keep hT2 (fun v hv k hk e => by
        rw [List.mem_singleton] at hv
        rw [hv] at hk
        cases hk
        exact hg4ne e)))
      rw [← HTM.out] at HC5
      have HA5 : Hid ((vs ++ [Value.slice (some ⟨g4, 0, none⟩) nj (nj + 2)]).Pairwise Aprt) := Lib.hid (List.pairwise_append.2 ⟨HA.out, List.pairwise_singleton _ _, fun v hv u hu k hk hk2 => by
        rw [List.mem_singleton] at hu
        rw [hu] at hk2
        cases hk2
        have h1 : g4 < wr.heap.size := HVB.out v hv g4 hk
        have := HG4.out
        omega⟩)
      have HN5 : Hid (∀ v ∈ vs ++ [Value.slice (some ⟨g4, 0, none⟩) nj (nj + 2)], v.ownBlock ≠ some g5) := Lib.hid (fun v hv e => by
        have h4 := HG4.out
        have hbk : ∀ k, v.ownBlock = some k → k < w4.heap.size ∧ k ≠ g := fun k hk => by
          rcases List.mem_append.1 hv with hv | hv
          · exact ⟨by have := HVB.out v hv k hk; omega, fun e => HN.out v hv (by rw [hk, e])⟩
          · rw [List.mem_singleton] at hv
            rw [hv] at hk
            cases hk
            exact ⟨h4.2.2, hg4ne⟩
        have h6 := hbk g5 e
        rcases hlie with h5 | h5
        · cases h5
          exact h6.2 rfl
        · rw [h5] at h6
          simp at h6
          omega)
      have HB5 := Lib.hid ((bl_al HB4.out (.cells #[.slice (some ⟨g4, 0, none⟩) nj (nj + 2)] 42)).grown hg (by have := HSZ.out; simp; omega) (fun k hk => (HO4.out.lt k hk).1))
      have HO5 := Lib.hid hown
      clear hown hg hlie hlt hT hal hT2 hg4ne HO4 HC4 HV4 HG4 HVB HSZ HA HN HB4
      go_wp2
      go_roundw
      case rel => exact ⟨j + 1, g5, c5, _, by omega, by go_num, rfl, HO5, HC5, HA5, HN5, HB5⟩
      case measure => simp [intOf]; omega
    · have ilj : ¬ ((j : Int) < (n : Int)) := by omega
      have hjn : j = n := by omega
      subst hjn
      have HTK : Hid (ps.take j = ps) := Lib.hid (List.take_of_length_le (by rw [HI.out.len]; exact Nat.le_refl _))
      go_wp2
      go_ret
      exact ⟨g, c', vs, rfl, HO.out, by have h := HC.out; rwa [HTK.out] at h, HA.out, HN.out, HB.out⟩
/-- What kept leaves: true; only the copies' blocks have turned. -/
def KeptC (w : World) (vs : List Value) (e : Ending) (w' : World) : Prop := e = .returned (.bool true) ∧ Tch (fun k => ∃ v ∈ vs, v.ownBlock = some k) w w'
theorem Cps.drop {w : World} {B : Nat} : ∀ {vs : List Value} {ps : List (List Int)}, Cps w B vs ps → ∀ j, Cps w B (vs.drop j) (ps.drop j)
  | [], [], _, j => by simp [Cps]
  | _ :: _, _ :: _, h, 0 => h
  | _ :: vs, _ :: ps, h, j + 1 => Cps.drop h.2 j
  | [], _ :: _, h, _ => h.elim
  | _ :: _, [], h, _ => h.elim
theorem drop_head {α : Type} (l : List α) (d : α) {j : Nat} (h : j < l.length) : l.drop j = l.getD j d :: l.drop (j + 1) := by
  rw [List.drop_eq_getElem_cons h, List.getD_eq_getElem?_getD, List.getElem?_eq_getElem h]
  rfl
theorem own_at {w : World} {B g n c : Nat} {e : TypeId} {vs : List Value} (h : w.ownsRow B e 1 (.slice (some ⟨g, 0, none⟩) n c) n vs) {j : Nat} (hj : j < n) : w.cell? ⟨g, j, none⟩ = some (vs.getD j undef) := by
  have hl := h.1
  have := h.cellAt (g := g) (cap := c) j (by omega)
  rw [this, List.getD_eq_getElem?_getD, List.getElem?_eq_getElem (by omega)]
  rfl
set_option maxRecDepth 100000 in
set_option maxHeartbeats 1000000 in
theorem keptC_t (us vs : List Value) (ps : List (List Int)) (ao : Option Addr) (n cap g c' : Nat) (w0 w : World) (hI : RsIn w0 ao n cap us ps) (hb0 : Below w0.heap.size w0 w) (hn : n ≤ 1048576) (hp : ∀ p ∈ ps, p.length ≤ 140737488351232) (hO : w.ownsRow w0.heap.size 42 1 (.slice (some ⟨g, 0, none⟩) n c') n vs) (hC : Cps w w0.heap.size vs ps) (hA : vs.Pairwise Aprt) (hN : ∀ v ∈ vs, v.ownBlock ≠ some g) :
    Calls Try.prog 15 #[.slice (some ⟨g, 0, none⟩) n c', .slice ao n cap] w (KeptC w vs) := by
  have HI := Lib.hid hI
  have HP := Lib.hid hp
  have HB0 := Lib.hid hb0
  have HO := Lib.hid hO
  have HA := Lib.hid hA
  have HN := Lib.hid hN
  have hvl := hC.len
  have HVL := Lib.hid hvl
  have HVB := Lib.hid hC.blocks
  have C0 : Hid (Cps w w0.heap.size (vs.drop 0) (ps.drop 0)) := Lib.hid hC
  have T0 : Hid (Tch (fun k => ∃ v ∈ vs, v.ownBlock = some k) w w) := Lib.hid (Tch.refl _ _)
  clear hI hp hb0 hO hC hA hN hvl
  go_enter Try.func15, Try.ntmps15
  go_wp2
  go_loopw [5, 8] (fun _ i wr => ∃ j : Nat, j ≤ n ∧ i = .int .i64 j ∧ Hid (Cps wr w0.heap.size (vs.drop j) (ps.drop j)) ∧ Hid (Tch (fun k => ∃ v ∈ vs, v.ownBlock = some k) w wr)) (fun _ i _ => n - (intOf i).toNat)
  case atStart => exact ⟨0, by omega, rfl, C0, T0⟩
  case round =>
    obtain ⟨j, hj, rfl, HC, HT⟩ := hrel
    clear C0 T0
    by_cases hlj : j < n
    · have hjp : j < ps.length := by rw [HI.out.len]; exact hlj
      have hjv : j < vs.length := by rw [HVL.out]; exact hjp
      obtain ⟨b, off, rfl⟩ := HI.out.block (by omega)
      have hbr : Below w0.heap.size w0 wr := HB0.out.trans (HT.out.below (fun k hk => by obtain ⟨v, hv, hk⟩ := hk; exact (HVB.out v hv k hk).1) HB0.out.size)
      have HBR := Lib.hid hbr
      have hIr := HI.out.below hbr
      have hcj := hIr.cell hlj
      obtain ⟨aj, nj, cj, hej, hin⟩ := hIr.rows.at hjp
      rw [hej] at hcj
      have hOr := HT.out.own HO.out (fun k hk e => by cases hk; obtain ⟨v, hv, hk⟩ := e; exact HN.out v hv hk)
      have hck := own_at hOr hlj
      have hhd := HC.out
      rw [drop_head vs undef hjv, drop_head ps [] hjp] at hhd
      obtain ⟨⟨gj, hgj, hoj, hfj⟩, hrest⟩ := hhd
      have hlen := hin.len
      rw [hgj, hlen] at hck
      rw [hlen] at hoj
      have hpj := HP.out (ps.getD j []) (by rw [List.getD_eq_getElem?_getD, List.getElem?_eq_getElem hjp]; exact List.getElem_mem hjp)
      have CK := Lib.hid (fun U (hU : Below wr.heap.size wr U) => kept_any (ps.getD j []) aj nj cj gj U (hin.below hU) ((hoj.marked hlen).below hU) (by omega))
      have HMEM : Hid (vs.getD j undef ∈ vs) := Lib.hid (by rw [List.getD_eq_getElem?_getD, List.getElem?_eq_getElem hjv]; exact List.getElem_mem hjv)
      have HGJ := Lib.hid hgj
      have HOJ := Lib.hid hoj
      have HRS := Lib.hid hrest
      have HPJ := Lib.hid (show nj ≤ 140737488351232 by omega)
      have HOR := Lib.hid hOr
      have HAP : Hid (∀ v ∈ vs.drop (j + 1), ∀ k, v.ownBlock = some k → k ≠ gj) := Lib.hid (fun v hv k hk e => by
        have hd := HA.out
        have h2 : (vs.drop j).Pairwise Aprt := hd.sublist (List.drop_sublist _ _)
        rw [drop_head vs undef hjv, List.pairwise_cons] at h2
        refine h2.1 v hv gj (by rw [hgj]; rfl) ?_
        rw [hk, e])
      have ilj : (j : Int) < (n : Int) := by omega
      have j0' : (0 : Int) ≤ (j : Int) := by omega
      have hS0 : wr.drew.cell? ⟨g, j, none⟩ = some (.slice (some ⟨gj, 0, none⟩) nj (nj + 2)) ∧ wr.drew.cell? ⟨b, off + j, none⟩ = some (.slice aj nj cj) := ⟨hck, hcj⟩
      have hd0 : Below wr.heap.size wr wr.drew := (Below.refl _ _).drew
      clear hjp hjv hbr hIr hcj hej hin hOr hck hlen hoj hrest hgj hfj hpj
      go_wp2_with fail
      go_region_held3 (fun wx => wx.cell? ⟨g, j, none⟩ = some (.slice (some ⟨gj, 0, none⟩) nj (nj + 2)) ∧ wx.cell? ⟨b, off + j, none⟩ = some (.slice aj nj cj)) (first | (with_reducible exact hS0) | (with_reducible assumption) | fail)
        (first | (go_at_call 39; (with_reducible refine (CK.out _ hd0).mono ?_); rintro e w4 ⟨rfl, hb⟩; have hb4 := bl_tr hd0 hb; have hS4 := (show _ ∧ _ from ⟨cell_later hb hS0.1, cell_later hb hS0.2⟩)) | fail)
      rename_i hHeld
      have HT4 := Lib.hid (HT.out.trans ((tch_new hb4).mono (fun _ h => h.elim)))
      have hO4 : Own w4 w0.heap.size gj (nj + 2) (nj + 2) (ps.getD j [] ++ [165, 90]) := HOJ.out.keep (tch_new hb4) (fun h => h)
      have HR4 := Lib.hid (HRS.out.keep (tch_new hb4) (fun _ _ _ _ h => h))
      have COv := Lib.hid (fun c => over_any w0.heap.size gj (nj + 2) nj (nj + 2) _ w4 hO4 (by omega) (by have := HPJ.out; omega) c)
      have e0 := hS4.1
      clear hHeld hb hb4 hS0 hS4 hd0 hO4 CK HOJ HRS
      go_wp2_with fail
      refine (COv.out _).mono ?_
      rintro e w5 ⟨rfl, hg⟩
      have hT5 := (tch_grown hg)
      have HT5 := Lib.hid (HT4.out.trans (hT5.mono (fun k hk => by cases hk; exact ⟨_, HMEM.out, by rw [HGJ.out]; rfl⟩)))
      have HR5 := Lib.hid (HR4.out.keep hT5 (fun v hv k hk e => HAP.out v hv k hk (Option.some.inj e)))
      clear hg hT5 e0 COv HR4 HT4
      go_wp2
      go_roundw
      case rel => exact ⟨j + 1, by omega, by go_num, HR5, HT5⟩
      case measure => simp [intOf]; omega
    · have ilj : ¬ ((j : Int) < (n : Int)) := by omega
      go_wp2
      go_ret
      exact ⟨rfl, HT.out⟩
end Go.Proofs.Ytdjeacmonlgdhaa
