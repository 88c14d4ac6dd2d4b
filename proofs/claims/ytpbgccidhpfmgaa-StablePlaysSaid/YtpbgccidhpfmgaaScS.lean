/- Scripts in memory; the contract of the statements' long. Conditions: those stated. -/
import Derived.Test.YtpbgccidhpfmgaaSdS
namespace Go.Proofs.Ytpbgccidhpfmgaa
open Go Go.RowKit Go.Maps
set_option linter.unusedVariables false
set_option linter.unusedSimpArgs false

abbrev tyO : TypeId := 76
/-- Keys that came in. -/
structure MsIn (w : World) (a : Option Addr) (n c : Nat) (ks : List Ky) : Prop where
  len : ks.length = n
  room : n ≤ c
  zero : a = none → n = 0 ∧ c = 0
  here : n = 0 ∨ ∃ b off, a = some ⟨b, off, none⟩ ∧ ∀ j, j < n → w.cell? ⟨b, off + j, none⟩ = some (sv (ks.getD j []))
  big : ∀ k ∈ ks, k.length ≤ maxLen
theorem MsIn.below {w w' : World} {a : Option Addr} {n c : Nat} {ks : List Ky} (h : MsIn w a n c ks) (hb : Below w.heap.size w w') : MsIn w' a n c ks :=
  ⟨h.len, h.room, h.zero, h.here.imp id (fun ⟨b, off, e, hc⟩ => ⟨b, off, e, fun j hj => cell_later hb (hc j hj)⟩), h.big⟩
/-- A call of a script. -/
structure OpS where
  kind : Int
  k : Ky
  ma : Option Addr
  mn : Nat
  mc : Nat
  ms : List Ky
  ra : Option Addr
  rn : Nat
  rc : Nat
  r : List Int
  cut : Int
def opS : OpS := ⟨0, [], none, 0, 0, [], none, 0, 0, [], 0⟩
instance : Inhabited OpS := ⟨opS⟩
def OpS.cs (o : OpS) : List Value := [.int .i64 o.kind, sv o.k, .slice o.ma o.mn o.mc, .slice o.ra o.rn o.rc, .int .i64 o.cut]
def OpS.obj (o : OpS) : Obj := .cells #[.int .i64 o.kind, sv o.k, .slice o.ma o.mn o.mc, .slice o.ra o.rn o.rc, .int .i64 o.cut] tyO
def InN (n : Int) : Prop := -9223372036854775808 ≤ n ∧ n ≤ 9223372036854775807
/-- What a call that came in keeps to. -/
structure OpIn (w : World) (o : OpS) : Prop where
  row : In w o.ra o.rn o.rc o.r
  more : MsIn w o.ma o.mn o.mc o.ms
  key : o.k.length ≤ maxLen
  nums : InN o.kind ∧ InN o.cut
  small : o.rn ≤ 140737488355328 ∧ o.mn ≤ 140737488355328
theorem OpIn.below {w w' : World} {o : OpS} (h : OpIn w o) (hb : Below w.heap.size w w') : OpIn w' o := ⟨h.row.below hb, h.more.below hb, h.key, h.nums, h.small⟩
/-- A script that came in. -/
structure SIn (w : World) (ao : Option Addr) (n c : Nat) (os : List OpS) : Prop where
  len : os.length = n
  room : n ≤ c
  here : n = 0 ∨ ∃ b off, ao = some ⟨b, off, none⟩ ∧ ∀ j, j < n → ∀ i, i < 5 → w.cell? ⟨b, off + j * 5 + i, none⟩ = ((os.getD j opS).cs)[i]?
  ops : ∀ j, j < n → OpIn w (os.getD j opS)
theorem oS_some (o : OpS) {i : Nat} (hi : i < 5) : ∃ u, (o.cs)[i]? = some u := ⟨_, List.getElem?_eq_getElem (by simp [OpS.cs]; omega)⟩
theorem SIn.below {w w' : World} {ao : Option Addr} {n c : Nat} {os : List OpS} (h : SIn w ao n c os) (hb : Below w.heap.size w w') : SIn w' ao n c os :=
  ⟨h.len, h.room, h.here.imp id (fun ⟨b, off, e, hc⟩ => ⟨b, off, e, fun j hj i hi => by
    obtain ⟨u, hu⟩ := oS_some (os.getD j opS) hi
    have := hc j hj i hi
    rw [hu] at this ⊢
    exact cell_later hb this⟩), fun j hj => (h.ops j hj).below hb⟩
theorem SIn.at {w : World} {n c : Nat} {ao : Option Addr} {os : List OpS} (h : SIn w ao n c os) {j : Nat} (hj : j < n) {o : OpS} (ho : o = os.getD j opS) :
    ∃ b off, ao = some ⟨b, off, none⟩ ∧ w.cell? ⟨b, off + j * 5, none⟩ = some (.int .i64 o.kind) ∧ w.cell? ⟨b, off + j * 5 + 1, none⟩ = some (sv o.k) ∧ w.cell? ⟨b, off + j * 5 + 2, none⟩ = some (.slice o.ma o.mn o.mc) ∧ w.cell? ⟨b, off + j * 5 + 3, none⟩ = some (.slice o.ra o.rn o.rc) ∧ w.cell? ⟨b, off + j * 5 + 4, none⟩ = some (.int .i64 o.cut) := by
  subst ho
  rcases h.here with h0 | ⟨b, off, e, hc⟩
  · omega
  · exact ⟨b, off, e, hc j hj 0 (by omega), hc j hj 1 (by omega), hc j hj 2 (by omega), hc j hj 3 (by omega), hc j hj 4 (by omega)⟩
/-- A call's box. -/
def BxS (w : World) (q : Nat) (o : OpS) : Prop := w.heap[q]? = some o.obj
theorem BxS.new (w : World) (o : OpS) : BxS (w.alloc o.obj) w.heap.size o := (MapKept.heap_alloc w o.obj).1
theorem BxS.cs {w : World} {q : Nat} {o : OpS} (h : BxS w q o) : w.cell? ⟨q, 0, none⟩ = some (.int .i64 o.kind) ∧ w.cell? ⟨q, 1, none⟩ = some (sv o.k) ∧ w.cell? ⟨q, 2, none⟩ = some (.slice o.ma o.mn o.mc) ∧ w.cell? ⟨q, 3, none⟩ = some (.slice o.ra o.rn o.rc) ∧ w.cell? ⟨q, 4, none⟩ = some (.int .i64 o.cut) := by
  have h2 : w.heap[q]? = some (.cells #[.int .i64 o.kind, sv o.k, .slice o.ma o.mn o.mc, .slice o.ra o.rn o.rc, .int .i64 o.cut] tyO (0, 0)) := h
  refine ⟨?_, ?_, ?_, ?_, ?_⟩ <;> (rw [cell_of_row w q _ _ _ _ h2]; rfl)
theorem BxS.lt {w : World} {q : Nat} {o : OpS} (h : BxS w q o) : q < w.heap.size := lt_of_block h
theorem BxS.tch {T : Nat → Prop} {w w' : World} {q : Nat} {o : OpS} (h : BxS w q o) (ht : Tch T w w') (hn : ¬ T q) : BxS w' q o := ht.at h hn
theorem BxS.kpt {K : Nat → Prop} {w w' : World} {q : Nat} {o : OpS} (h : BxS w q o) (hk : Kpt K w w') (hq : K q) : BxS w' q o := (hk q hq).trans h
/-- What long answers. -/
def LongS (w : World) (n : Nat) (os : List OpS) (e : Ending) (w' : World) : Prop := ∃ z, e = .returned (.bool z) ∧ Below w.heap.size w w' ∧ (z = false → n ≤ 600 ∧ ∀ j, j < n → (os.getD j opS).rn ≤ 65536 ∧ (os.getD j opS).k.length ≤ 65536 ∧ (os.getD j opS).mn ≤ 600)
set_option maxRecDepth 100000 in
set_option maxHeartbeats 2000000 in
theorem longS_t (ao : Option Addr) (n c : Nat) (os : List OpS) (w : World) (hI : SIn w ao n c os) (hn : n ≤ 1152921504606846976) :
    Calls Try.prog 33 #[.slice ao n c] w (LongS w n os) := by
  have HI := Lib.hid hI
  have HB0 := Lib.hid (Below.refl w.heap.size w)
  have F0 : Hid (∀ i, i < 0 → (os.getD i opS).rn ≤ 65536 ∧ (os.getD i opS).k.length ≤ 65536 ∧ (os.getD i opS).mn ≤ 600) := Lib.hid (fun i hi => absurd hi (by omega))
  have hroom := hI.room
  clear hI
  go_enter Try.func33, Try.ntmps33
  go_wp2
  go_loopw [3, 5, 8] (fun t _ i wr => ∃ j s : Nat, j ≤ n ∧ i = .int .i64 j ∧ t = .int .i64 s ∧ s ≤ 600 ∧ j ≤ s ∧ Hid (∀ i, i < j → (os.getD i opS).rn ≤ 65536 ∧ (os.getD i opS).k.length ≤ 65536 ∧ (os.getD i opS).mn ≤ 600) ∧ Hid (Below w.heap.size w wr)) (fun _ _ i _ => n - (intOf i).toNat)
  case atStart => exact ⟨0, 0, by omega, rfl, rfl, by omega, by omega, F0, HB0⟩
  case round =>
    obtain ⟨j, s, hj, rfl, rfl, hs, hjs, HF, HB⟩ := hrel
    clear F0 HB0
    by_cases hlj : j < n
    · have hIr := HI.out.below HB.out
      obtain ⟨o, ho⟩ : ∃ o, o = os.getD j opS := ⟨_, rfl⟩
      obtain ⟨b, off, eb, e0, e1, e2, e3, e4⟩ := hIr.at hlj ho
      subst eb
      have hO := hIr.ops j hlj
      rw [← ho] at hO
      have hsm := hO.small
      have hky := hO.key
      have HHO := Lib.hid ho
      obtain ⟨X, hX⟩ : ∃ X, X = wr.alloc o.obj := ⟨_, rfl⟩
      have hox : BxS X wr.heap.size o := by rw [hX]; exact BxS.new wr o
      have hbX : Below wr.heap.size wr X := by rw [hX]; exact bl_al (Below.refl _ _) _
      obtain ⟨q, hq⟩ : ∃ q, q = wr.heap.size := ⟨_, rfl⟩
      rw [← hq] at hox
      obtain ⟨_, x1, x2, x3, _⟩ := hox.cs
      obtain ⟨kind, k, ma, mn, mc, ms, ra, rn, rc, r, cut⟩ := o
      simp only at e0 e1 e2 e3 e4 x1 x2 x3 hsm hky
      have ilj : (j : Int) < (n : Int) := by omega
      have j0 : (0 : Int) ≤ (j : Int) := by omega
      have ilc : (n : Int) ≤ (c : Int) := by omega
      have HBX := Lib.hid (HB.out.trans (hbX.mono HB.out.size))
      have hkb : k.length ≤ 9223372036854775807 := by unfold maxLen at hky; omega
      obtain ⟨a, ha⟩ : ∃ a : Nat, a = rn / 64 := ⟨_, rfl⟩
      obtain ⟨d, hd⟩ : ∃ d : Nat, d = k.length / 16 := ⟨_, rfl⟩
      have m1 : (rn : Int).tdiv 64 = (a : Int) := by rw [Int.tdiv_eq_ediv_of_nonneg (by omega)]; omega
      have m2 : (k.length : Int).tdiv 16 = (d : Int) := by rw [Int.tdiv_eq_ediv_of_nonneg (by omega)]; omega
      have w0' : ∀ [Inhabited Nat], IntKind.i64.wrap (a : Int) = (a : Int) := by intro _; exact IntWalk.i64_in _ (by omega)
      have w0'' : ∀ [Inhabited Nat], IntKind.i64.wrap (d : Int) = (d : Int) := by intro _; exact IntWalk.i64_in _ (by omega)
      have w1 : ∀ [Inhabited Nat], IntKind.i64.wrap (1 + (a : Int)) = 1 + (a : Int) := by intro _; exact IntWalk.i64_in _ (by omega)
      have w2 : ∀ [Inhabited Nat], IntKind.i64.wrap (1 + (a : Int) + (d : Int)) = 1 + (a : Int) + (d : Int) := by intro _; exact IntWalk.i64_in _ (by omega)
      have w3 : ∀ [Inhabited Nat], IntKind.i64.wrap (1 + (a : Int) + (d : Int) + (mn : Int)) = 1 + (a : Int) + (d : Int) + (mn : Int) := by intro _; exact IntWalk.i64_in _ (by omega)
      obtain ⟨T, hT⟩ : ∃ T : Nat, T = s + (1 + a + d + mn) := ⟨_, rfl⟩
      have w4 : ∀ [Inhabited Nat], IntKind.i64.wrap ((s : Int) + (1 + (a : Int) + (d : Int) + (mn : Int))) = (T : Int) := by intro _; rw [IntWalk.i64_in _ (by omega)]; omega
      have HX := Lib.hid (show X = wr.alloc (.cells #[.int .i64 kind, sv k, .slice ma mn mc, .slice ra rn rc, .int .i64 cut] tyO) from hX)
      have HQ := Lib.hid hq
      have hTj : j + 1 ≤ T := by omega
      have HFT : Hid (T ≤ 600 → (os.getD j opS).rn ≤ 65536 ∧ (os.getD j opS).k.length ≤ 65536 ∧ (os.getD j opS).mn ≤ 600) := Lib.hid (fun h => by
        rw [← HHO.out]
        show rn ≤ 65536 ∧ k.length ≤ 65536 ∧ mn ≤ 600
        omega)
      clear hIr ho hX hox hbX hq hT hO ha hd
      go_upto_region 5 with fail
      rw [← HX.out, ← HQ.out]
      clear HX HQ e0 e1 e2 e3 e4
      go_upto_region 6 with fail
      clear x1 x2 x3 w0' w0'' w1 w2 w3 w4 m1 m2
      by_cases hg : 600 < T
      · have ig : (600 : Int) < (T : Int) := by omega
        clear hg
        go_wp2
        go_ret
        exact ⟨true, rfl, HBX.out, fun h => by cases h⟩
      · have ig : ¬ ((600 : Int) < (T : Int)) := by omega
        have hT16 : T ≤ 600 := by omega
        have HF2 : Hid (∀ i, i < j + 1 → (os.getD i opS).rn ≤ 65536 ∧ (os.getD i opS).k.length ≤ 65536 ∧ (os.getD i opS).mn ≤ 600) := Lib.hid (fun i hi => by
          rcases Nat.lt_or_ge i j with h | h
          · exact HF.out i h
          · rw [show i = j by omega]
            exact HFT.out hT16)
        clear hg
        go_wp2
        go_roundw
        case rel => exact ⟨j + 1, T, by omega, by go_num, rfl, hT16, hTj, HF2, HBX⟩
        case measure => simp [intOf]; omega
    · have ilj : ¬ ((j : Int) < (n : Int)) := by omega
      have HN : Hid (n ≤ 600) := Lib.hid (by omega)
      have HJN : Hid (j = n) := Lib.hid (by omega)
      clear hlj
      go_wp2
      go_ret
      exact ⟨false, rfl, HB.out, fun _ => ⟨HN.out, fun i hi => HF.out i (by rw [HJN.out]; exact hi)⟩⟩
end Go.Proofs.Ytpbgccidhpfmgaa
